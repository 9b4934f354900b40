/-
  The walks of the reference's Plain and Quote.
-/
import Derived.Test.YtfencolokfghfaaDoorTokQ
namespace Go.Proofs.YtfencolokfghfaaDoor
open Go.RowKit Go.Lib
set_option linter.unusedVariables false

theorem small_at (c : UInt8) (w : World) : Calls Tryd.prog 43 #[.int .u8 (c.toNat : Int)] w fun e w' => e = .returned (.bool (lowB c)) ∧ w' = w := by
  by_cases h1 : (97 : Int) ≤ (c.toNat : Int)
  · go_enter Tryd.func43, Tryd.ntmps43
    go_wp2
    go_ret
    have e : decide (97 ≤ c.toNat) = true := by simp; omega
    exact ⟨by simp [lowB, spanB, e]; omega, rfl⟩
  · go_enter Tryd.func43, Tryd.ntmps43
    go_wp2
    go_ret
    have e : decide (97 ≤ c.toNat) = false := by simp; omega
    exact ⟨by simp [lowB, spanB, e], rfl⟩
theorem digit_at (c : UInt8) (w : World) : Calls Tryd.prog 53 #[.int .u8 (c.toNat : Int)] w fun e w' => e = .returned (.bool (digB c)) ∧ w' = w := by
  by_cases h1 : (48 : Int) ≤ (c.toNat : Int)
  · go_enter Tryd.func53, Tryd.ntmps53
    go_wp2
    go_ret
    have e : decide (48 ≤ c.toNat) = true := by simp; omega
    exact ⟨by simp [digB, spanB, e]; omega, rfl⟩
  · go_enter Tryd.func53, Tryd.ntmps53
    go_wp2
    go_ret
    have e : decide (48 ≤ c.toNat) = false := by simp; omega
    exact ⟨by simp [digB, spanB, e], rfl⟩
set_option maxHeartbeats 1000000 in
theorem letter_at (c : UInt8) (w : World) : Calls Tryd.prog 44 #[.int .u8 (c.toNat : Int)] w fun e w' => e = .returned (.bool (wordB c)) ∧ w' = w := by
  have hs := small_at c w
  have hd := digit_at c w
  have e95 : ((c.toNat : Int) == 95) = amongB [95] c := by
    by_cases h : c = 95
    · subst h; rfl
    · have := ne_int h
      rw [show ((95 : UInt8).toNat : Int) = 95 from rfl] at this
      rw [this]; simp [amongB, h]
  have e65 : decide ((65 : Int) ≤ (c.toNat : Int)) = decide (65 ≤ c.toNat) := by rw [decide_eq_decide]; omega
  have e90 : decide ((c.toNat : Int) ≤ 90) = decide (c.toNat ≤ 90) := by rw [decide_eq_decide]; omega
  have hv : wordB c = (lowB c || ((decide (65 ≤ c.toNat) && decide (c.toNat ≤ 90)) || amongB [95] c || digB c)) := rfl
  generalize lowB c = b1 at *
  generalize decide (65 ≤ c.toNat) = b2 at *
  generalize decide (c.toNat ≤ 90) = b3 at *
  generalize amongB [95] c = b4 at *
  generalize digB c = b5 at *
  rw [hv]
  clear hv
  cases b1 <;> cases b2 <;> cases b3 <;> cases b4 <;> cases b5
  all_goals
    go_enter Tryd.func44, Tryd.ntmps44
    go_wp2_with (first | (go_at_call 43; refine hs.mono ?_; rintro e w' ⟨rfl, hw'⟩; have hw' := hw'.symm; subst hw') | (go_at_call 53; refine hd.mono ?_; rintro e w' ⟨rfl, hw'⟩; have hw' := hw'.symm; subst hw'))
    go_ret
    exact ⟨rfl, rfl⟩
set_option maxHeartbeats 1000000 in
theorem within_at (c : UInt8) (s : ByteArray) (l : List UInt8) (hs : s.data.toList = l) (hm : s.size ≤ 1000000) (w : World) : Calls Tryd.prog 54 #[.int .u8 (c.toNat : Int), .string s] w fun e w' => e = .returned (.bool (amongB l c)) ∧ w' = w := by
  obtain ⟨hl1, hl2⟩ := len_le hs
  go_enter Tryd.func54, Tryd.ntmps54
  go_wp2
  go_loopw [5] (fun i wr => ∃ j : Nat, i = .int .i64 j ∧ j ≤ s.size ∧ amongB l c = amongB (l.drop j) c ∧ wr = w) (fun i _ => s.size - (intOf i).toNat)
  case atStart => exact ⟨0, rfl, Nat.zero_le _, rfl, rfl⟩
  case round =>
    obtain ⟨j, rfl, hj, ha, hw⟩ := hrel
    have hw := hw.symm
    subst hw
    have HA := Lib.hid ha
    clear ha
    by_cases hlt : j < s.size
    · obtain ⟨d, hd, hg⟩ := get_of hs hlt
      have hdd : amongB (l.drop j) c = (c == d || amongB (l.drop (j + 1)) c) := by
        rw [drop_cons hd]
        exact List.contains_cons
      by_cases hcd : d = c
      · subst hcd
        go_wp2
        go_ret
        exact ⟨by rw [HA.out, hdd]; simp, by trivial⟩
      · have hne := ne_int hcd
        go_wp2
        go_roundw
        case rel => exact ⟨j + 1, by go_num, hlt, by rw [HA.out, hdd]; simp [Ne.symm hcd], by trivial⟩
        case measure => simp [intOf]; omega
    · go_wp2
      go_ret
      refine ⟨?_, by trivial⟩
      rw [HA.out, List.drop_of_length_le (by omega)]; simp [amongB]
theorem sign_at (c : UInt8) (w : World) : Calls Tryd.prog 45 #[.int .u8 (c.toNat : Int)] w fun e w' => e = .returned (.bool (symB c)) ∧ w' = w := by
  have hx := within_at c (ByteArray.mk #[43, 45, 42, 47, 92, 94, 60, 62, 61, 126, 58, 46, 63, 64, 35, 38, 36]) [43, 45, 42, 47, 92, 94, 60, 62, 61, 126, 58, 46, 63, 64, 35, 38, 36] rfl (by decide) w
  go_enter Tryd.func45, Tryd.ntmps45
  go_wp2_with (go_at_call 54; refine hx.mono ?_; rintro e w' ⟨rfl, hw'⟩; have hw' := hw'.symm; subst hw')
  go_ret
  exact ⟨rfl, rfl⟩

/-- All bytes of one kind. -/
theorem pre_all (p : UInt8 → Bool) : ∀ l : List UInt8, decide (pre p l = l.length) = l.all p
  | [] => by simp [pre]
  | c :: l => by
    have ih := pre_all p l
    by_cases h : p c = true
    · simp only [pre, h, if_true, List.length_cons, List.all_cons, Bool.true_and]
      rw [← ih, decide_eq_decide]; omega
    · simp [pre, h]

set_option maxRecDepth 100000 in
set_option maxHeartbeats 4000000 in
theorem rplain_at (s : ByteArray) (l : List UInt8) (hs : s.data.toList = l) (w : World) (hm : s.size ≤ 1000000000000000) :
    Calls Tryd.prog 33 #[.string s] w fun e w' => e = .returned (.bool (plainB l)) ∧ w' = w := by
  have q0 := toList_beq hs []
  have q1 := toList_beq hs [46]
  have q2 := toList_beq hs [91, 93]
  have q3 := toList_beq hs [33]
  have q4 := toList_beq hs [59]
  obtain ⟨hl1, hl2⟩ := len_le hs
  have hv : plainB l = if decide (l = []) = true ∨ decide (l = [46]) = true then false
      else if decide (l = [91, 93]) = true ∨ decide (l = [33]) = true ∨ decide (l = [59]) = true then true
      else (lowB (l.headD 0) && l.all wordB) || l.all symB := by
    unfold plainB; simp only [decide_eq_true_eq, pre_all]
  have x02 : decide (l = []) = true → decide (l = [91, 93]) = false ∧ decide (l = [33]) = false ∧ decide (l = [59]) = false := fun h => by
    have : l = [] := by simpa using h
    subst this; simp
  have x12 : decide (l = [46]) = true → decide (l = [91, 93]) = false ∧ decide (l = [33]) = false ∧ decide (l = [59]) = false := fun h => by
    have : l = [46] := by simpa using h
    subst this; simp
  have hd0 : decide (l = []) = false → ∃ c, s[0]? = some c ∧ 0 < s.size ∧ l.headD 0 = c := fun h => by
    cases l with
    | nil => simp at h
    | cons c r =>
      have : 0 < s.size := by rw [len_of hs]; simp
      obtain ⟨d, hd, hg⟩ := get_of hs this
      exact ⟨c, by simp at hd; rw [getElem?_pos s 0 this, hg, hd], this, rfl⟩
  generalize decide (l = []) = b0 at *
  generalize decide (l = [46]) = b1 at *
  generalize decide (l = [91, 93]) = b2 at *
  generalize decide (l = [33]) = b3 at *
  generalize decide (l = [59]) = b4 at *
  have fin : ∀ b, plainB l = b → True := fun _ _ => trivial
  by_cases hA : b2 = true ∨ b3 = true ∨ b4 = true
  · have hv' : plainB l = true := by
      rw [hv]
      cases b0 <;> cases b1 <;> simp_all
    rw [hv']
    clear hv hv' x02 x12 hd0 fin
    cases b2
    · cases b3
      · obtain rfl : b4 = true := by simpa using hA
        go_enter Tryd.func33, Tryd.ntmps33
        go_wp2_with fail
        go_ret
        exact ⟨rfl, rfl⟩
      · go_enter Tryd.func33, Tryd.ntmps33
        go_wp2_with fail
        go_ret
        exact ⟨rfl, rfl⟩
    · go_enter Tryd.func33, Tryd.ntmps33
      go_wp2_with fail
      go_ret
      exact ⟨rfl, rfl⟩
  · obtain ⟨rfl, rfl, rfl⟩ : b2 = false ∧ b3 = false ∧ b4 = false := by
      cases b2 <;> cases b3 <;> cases b4 <;> simp_all
    clear x02 x12 hA fin
    cases b0
    · cases b1
      · obtain ⟨c, hg', hne, hh⟩ := hd0 rfl
        have hg : s[0] = c := by rw [getElem?_pos s 0 hne] at hg'; exact Option.some.inj hg'
        simp only [Bool.false_eq_true, or_self, if_false] at hv
        rw [hh] at hv
        have HV := Lib.hid hv
        have hsm := small_at c w
        clear hd0 hg' hh hv
        go_enter Tryd.func33, Tryd.ntmps33
        go_wp2_with (go_at_call 43; refine hsm.mono ?_; rintro e w' ⟨rfl, hw'⟩; have hw' := hw'.symm; subst hw')
        go_loopw [3, 4, 5] (fun x y i wr => ∃ j : Nat, x = .bool (lowB c && (l.take j).all wordB) ∧ y = .bool ((l.take j).all symB) ∧ i = .int .i64 j ∧ j ≤ s.size ∧ wr = w) (fun _ _ i _ => s.size - (intOf i).toNat)
        case atStart => exact ⟨0, by simp, by simp, rfl, Nat.zero_le _, rfl⟩
        case round =>
          obtain ⟨j, rfl, rfl, rfl, hj, hw⟩ := hrel
          have hw := hw.symm
          subst hw
          by_cases hlt : j < s.size
          · obtain ⟨d, hd, hgd⟩ := get_of hs hlt
            have t1 : (l.take (j + 1)).all wordB = ((l.take j).all wordB && wordB d) := by
              obtain ⟨h, e⟩ := List.getElem?_eq_some_iff.1 hd
              rw [List.take_succ_eq_append_getElem h, e]; simp
            have t2 : (l.take (j + 1)).all symB = ((l.take j).all symB && symB d) := by
              obtain ⟨h, e⟩ := List.getElem?_eq_some_iff.1 hd
              rw [List.take_succ_eq_append_getElem h, e]; simp
            have hle := letter_at d w
            have hsi := sign_at d w
            generalize hX : (lowB c && (l.take j).all wordB) = X
            generalize hY : (l.take j).all symB = Y at *
            have T1 := Lib.hid (show (lowB c && (l.take (j + 1)).all wordB) = (X && wordB d) by rw [t1, ← hX]; cases lowB c <;> simp)
            have T2 := Lib.hid t2
            clear t1 t2 hX hY
            generalize wordB d = wd at *
            generalize symB d = sd at *
            cases X <;> cases Y
            all_goals
              go_wp2_with (first | (go_at_call 44; refine hle.mono ?_; rintro e w' ⟨rfl, hw'⟩; have hw' := hw'.symm; subst hw') | (go_at_call 45; refine hsi.mono ?_; rintro e w' ⟨rfl, hw'⟩; have hw' := hw'.symm; subst hw'))
              go_roundw
              case rel => exact ⟨j + 1, by rw [T1.out]; simp, by rw [T2.out]; simp, by go_num, hlt, by trivial⟩
              case measure => simp [intOf]; omega
          · have hfin : plainB l = ((lowB c && (l.take j).all wordB) || (l.take j).all symB) := by
              rw [HV.out, List.take_of_length_le (by omega)]
            have HF := Lib.hid hfin
            generalize (lowB c && (l.take j).all wordB) = X at *
            generalize (l.take j).all symB = Y at *
            clear hfin HV
            cases X <;> cases Y
            all_goals
              go_wp2_with fail
              go_ret
              exact ⟨by rw [HF.out]; rfl, by trivial⟩
      · have hv' : plainB l = false := by rw [hv]; simp
        rw [hv']
        clear hv hv' hd0
        go_enter Tryd.func33, Tryd.ntmps33
        go_wp2_with fail
        go_ret
        exact ⟨rfl, rfl⟩
    · have hv' : plainB l = false := by rw [hv]; simp
      rw [hv']
      clear hv hv' hd0
      go_enter Tryd.func33, Tryd.ntmps33
      go_wp2_with fail
      go_ret
      exact ⟨rfl, rfl⟩
end Go.Proofs.YtfencolokfghfaaDoor
