/-
  The walks of what skips blanks and comments, of quotation marks, of names and numbers.
-/
import Derived.Test.YtfencolokfghfaaGreatDoorTokA
import Derived.Laws.Strings2
namespace Go.Proofs.YtfencolokfghfaaGreatDoor
open Go.RowKit Go.Lib
set_option linter.unusedVariables false

/-- How many bytes of a text there are up to the line's end, that included. -/
def cmt (l : List UInt8) : Nat := if Lib.indexByte l 10 < 0 then l.length else (Lib.indexByte l 10).toNat + 1
theorem cmt_cons (c : UInt8) (l : List UInt8) : cmt (c :: l) = if c = 10 then 1 else cmt l + 1 := by
  unfold cmt
  have hge := Lib.indexByte_ge l 10
  by_cases h : c = 10
  · subst h; simp [Lib.indexByte]
  · have h' : (c == 10) = false := by simp [h]
    rw [Lib.indexByte, h']
    simp only [Bool.false_eq_true, if_false, if_neg h]
    by_cases hm : Lib.indexByte l 10 = -1
    · simp [hm]
    · have : (Lib.indexByte l 10 == -1) = false := by simp [hm]
      rw [this]
      simp only [Bool.false_eq_true, if_false]
      rw [if_neg (by omega), if_neg (by omega)]
      omega
theorem cmt_nil : cmt [] = 0 := rfl
theorem skp_true : ∀ l : List UInt8, skp true l = cmt l + skp false (l.drop (cmt l))
  | [] => by simp [skp, cmt_nil]
  | c :: l => by
    rw [cmt_cons, skp]
    by_cases h : c = 10
    · simp [h]; omega
    · simp only [if_neg h]
      rw [skp_true l]
      simp
      omega
theorem cmt_pos {c : UInt8} {l : List UInt8} : 0 < cmt (c :: l) := by rw [cmt_cons]; split <;> omega
theorem cmt_le : ∀ l : List UInt8, cmt l ≤ l.length
  | [] => by simp [cmt_nil]
  | c :: l => by
    have := cmt_le l
    rw [cmt_cons]; split <;> simp <;> omega
/-- One step of what is skipped. -/
theorem skp_rem {l : List UInt8} {j : Nat} {r : List UInt8} (h : l.drop j = 37 :: r) : skp false (l.drop j) = cmt (l.drop j) + skp false (l.drop (j + cmt (l.drop j))) := by
  rw [← List.drop_drop, h, cmt_cons, if_neg (by decide)]
  rw [skp]
  simp only [if_pos]
  rw [skp_true]
  simp
  omega

theorem ext_list (s : ByteArray) (a b : Nat) : (s.extract a b).data.toList = (s.data.toList.drop a).take (b - a) := by
  have : s = ByteArray.mk s.data.toList.toArray := by simp
  conv => lhs; rw [this, ByteArray.extract_mk]
theorem ext_drop {s : ByteArray} {l : List UInt8} (hs : s.data.toList = l) (a : Nat) : (s.extract a s.size).data.toList = l.drop a := by
  have := len_of hs
  rw [ext_list, hs, List.take_of_length_le (by simp; omega)]
theorem ext_take {s : ByteArray} {l : List UInt8} (hs : s.data.toList = l) (b : Nat) : (s.extract 0 b).data.toList = l.take b := by
  rw [ext_list, hs]; simp

theorem len_le {s : ByteArray} {l : List UInt8} (hs : s.data.toList = l) : s.size ≤ l.length ∧ l.length ≤ s.size := by have := len_of hs; omega

set_option maxHeartbeats 400000 in
theorem last_at (w : World) (s : ByteArray) (l : List UInt8) (hs : s.data.toList = l) (hm : s.size ≤ 9223372036854775806) (j : Nat) (hj : j < s.size) :
    Calls Tryz.prog 57 #[.string s, .int .i64 j] w fun e w' => e = .returned (.int .i64 ((j + cmt (l.drop j) : Nat) - 1 : Int)) ∧ w' = w := by
  obtain ⟨hl1, hl2⟩ := len_le hs
  have hd := ext_drop hs j
  have hge := Lib.indexByte_ge (l.drop j) 10
  have hle := cmt_le (l.drop j)
  rw [List.length_drop] at hle
  have hx := (Tryz.strings_IndexByte (s.extract j s.size) 10 w).mono (R' := fun e w' => e = .returned (.int .i64 (Lib.indexByte (l.drop j) 10)) ∧ w' = w) (fun e w' h => by rw [hd] at h; exact h)
  by_cases hi : Lib.indexByte (l.drop j) 10 < 0
  · have hc : cmt (l.drop j) = l.length - j := by unfold cmt; rw [if_pos hi]; simp
    generalize Lib.indexByte (l.drop j) 10 = x at *
    generalize cmt (l.drop j) = y at *
    clear hd hs
    go_enter Tryz.func57, Tryz.ntmps57
    go_wp2_with (go_at_call 76; refine hx.mono ?_; rintro e w' ⟨rfl, rfl⟩)
    go_ret
    refine ⟨?_, rfl⟩
    refine congrArg (fun z => Ending.returned (Value.int .i64 z)) ?_
    omega
  · have hc : (cmt (l.drop j) : Int) = Lib.indexByte (l.drop j) 10 + 1 := by unfold cmt; rw [if_neg hi]; omega
    generalize Lib.indexByte (l.drop j) 10 = x at *
    generalize cmt (l.drop j) = y at *
    clear hd hs
    go_enter Tryz.func57, Tryz.ntmps57
    go_wp2_with (go_at_call 76; refine hx.mono ?_; rintro e w' ⟨rfl, rfl⟩)
    go_ret
    refine ⟨?_, rfl⟩
    refine congrArg (fun z => Ending.returned (Value.int .i64 z)) ?_
    omega

theorem drop_cons {l : List UInt8} {j : Nat} {c : UInt8} (hc : l[j]? = some c) : l.drop j = c :: l.drop (j + 1) := by
  obtain ⟨h, e⟩ := List.getElem?_eq_some_iff.1 hc
  rw [List.drop_eq_getElem_cons h, e]

theorem ne_int {c d : UInt8} (h : ¬ c = d) : ((c.toNat : Int) == (d.toNat : Int)) = false := by
  simp only [beq_eq_false_iff_ne, ne_eq]
  intro e
  exact h (UInt8.toNat_inj.1 (by omega))

set_option maxHeartbeats 1000000 in
theorem skip_at (w : World) (s : ByteArray) (l : List UInt8) (hs : s.data.toList = l) (hm : s.size ≤ 9223372036854775806) (k : Nat) (hk : k ≤ s.size) :
    Calls Tryz.prog 41 #[.string s, .int .i64 k] w fun e w' => e = .returned (.int .i64 (k + skp false (l.drop k) : Nat)) ∧ w' = w := by
  obtain ⟨hl1, hl2⟩ := len_le hs
  go_enter Tryz.func41, Tryz.ntmps41
  go_wp2
  go_loopw [1] (fun i wr => ∃ j : Nat, j ≤ s.size ∧ i = .int .i64 j ∧ k + skp false (l.drop k) = j + skp false (l.drop j) ∧ wr = w) (fun i _ => s.size - (intOf i).toNat)
  case atStart => exact ⟨k, hk, rfl, rfl, rfl⟩
  case round =>
    obtain ⟨j, hj, rfl, hd, rfl⟩ := hrel
    by_cases hlt : j < s.size
    · obtain ⟨c, hc, hg⟩ := get_of hs hlt
      have hdc := drop_cons hc
      by_cases h37 : c = 37
      · subst h37
        have hr := skp_rem hdc
        have hle := cmt_le (l.drop j)
        have hpos := cmt_pos (c := 37) (l := l.drop (j + 1))
        rw [← hdc] at hpos
        rw [List.length_drop] at hle
        have hx := last_at wr s l hs hm j hlt
        generalize hy : cmt (l.drop j) = y at *
        have hg' : (s[j].toNat : Int) = 37 := by rw [hg]; rfl
        go_wp2_with (go_at_call 57; refine hx.mono ?_; rintro e w' ⟨rfl, rfl⟩)
        go_roundw
        case rel => exact ⟨j + y, by omega, by go_num, by rw [hd, hr]; omega, by trivial⟩
        case measure => simp [intOf]; omega
      · have n37 := ne_int h37
        simp only [show ((37 : UInt8).toNat : Int) = 37 from rfl] at n37
        by_cases hb : blkB c = true
        · have hsk : skp false (l.drop j) = skp false (l.drop (j + 1)) + 1 := by rw [hdc, skp, if_neg h37, if_pos hb]
          have hb' : c = 9 ∨ c = 10 ∨ c = 13 ∨ c = 32 := by simpa [blkB] using hb
          rcases hb' with rfl | rfl | rfl | rfl
          all_goals
            go_wp2
            go_roundw
            case rel => exact ⟨j + 1, hlt, by go_num, by rw [hd, hsk]; omega, by trivial⟩
            case measure => simp [intOf]; omega
        · have hsk : skp false (l.drop j) = 0 := by rw [hdc, skp, if_neg h37, if_neg hb]
          have hb' : ¬ c = 9 ∧ ¬ c = 10 ∧ ¬ c = 13 ∧ ¬ c = 32 := by simpa [blkB] using hb
          obtain ⟨h1, h2, h3, h4⟩ := hb'
          have n1 := ne_int h1
          have n2 := ne_int h2
          have n3 := ne_int h3
          have n4 := ne_int h4
          simp only [show ((9 : UInt8).toNat : Int) = 9 from rfl] at n1
          simp only [show ((10 : UInt8).toNat : Int) = 10 from rfl] at n2
          simp only [show ((13 : UInt8).toNat : Int) = 13 from rfl] at n3
          simp only [show ((32 : UInt8).toNat : Int) = 32 from rfl] at n4
          go_wp2
          go_ret
          refine ⟨?_, by trivial⟩
          rw [hd, hsk]; rfl
    · go_wp2
      go_ret
      refine ⟨?_, by trivial⟩
      have e : l.drop j = [] := List.drop_of_length_le (by omega)
      rw [hd, e]; simp [skp]

theorem beq39 (c : UInt8) : ((c.toNat : Int) == 39) = (c == 39) := by
  by_cases h : c = 39
  · subst h; rfl
  · have := ne_int h
    rw [show ((39 : UInt8).toNat : Int) = 39 from rfl] at this
    rw [this]; simp [h]

set_option maxHeartbeats 400000 in
theorem closes_at (w : World) (s : ByteArray) (l : List UInt8) (hs : s.data.toList = l) (hm : s.size ≤ 9223372036854775806) (hne : 0 < s.size) :
    Calls Tryz.prog 79 #[.string s] w fun e w' => e = .returned (.bool (closB l)) ∧ w' = w := by
  obtain ⟨c, hc, hg⟩ := get_of hs hne
  have hl := len_of hs
  match l, hc with
  | [c'], hc =>
    obtain rfl : c' = c := by simpa using hc
    simp at hl
    have e := beq39 c'
    generalize hq : (c' == 39) = q at e
    have hcl : closB [c'] = q := hq
    rw [hcl]
    cases q <;>
    · go_enter Tryz.func79, Tryz.ntmps79
      go_wp2
      go_ret
      exact ⟨by rfl, by trivial⟩
  | c' :: d :: r, hc =>
    obtain rfl : c' = c := by simpa using hc
    have h2 : 2 ≤ s.size := by rw [hl]; simp
    clear hl
    obtain ⟨d', hd, hgd⟩ := get_of hs (show 1 < s.size by omega)
    obtain rfl : d = d' := by simpa using hd
    have e := beq39 c'
    have e' := beq39 d
    generalize hq : (c' == 39) = q at e
    generalize hq' : (d == 39) = q' at e'
    have hcl : closB (c' :: d :: r) = (q && !q') := by rw [closB, hq]; simp only [bne, hq']
    rw [hcl]
    have hsz : ((s.size : Int) == 1) = false := by simp; omega
    have e2 : ((d.toNat : Int) != 39) = !q' := by simp only [bne, e']
    clear hcl hs hd hc
    cases q <;> cases q' <;>
    · go_enter Tryz.func79, Tryz.ntmps79
      go_wp2
      go_ret
      exact ⟨by rfl, by trivial⟩

def meanV (l : List UInt8) : Array Value := match meanR l with | none => #[.int .u8 0, .int .i64 0] | some (c, n) => #[.int .u8 c.toNat, .int .i64 n]
theorem ext_list2 {s : ByteArray} {l : List UInt8} (hs : s.data.toList = l) : (s.extract 0 (min 2 (s.size : Int)).toNat).toList = l.take 2 := by
  have hl := len_of hs
  rw [ByteArray.toList_eq, ext_take hs]
  by_cases h : 2 ≤ l.length
  · rw [show (min 2 (s.size : Int)).toNat = 2 by omega]
  · rw [List.take_of_length_le (by omega), List.take_of_length_le (by omega)]

set_option maxHeartbeats 1000000 in
theorem meant_at (w : World) (s : ByteArray) (l : List UInt8) (hs : s.data.toList = l) (hm : s.size ≤ 9223372036854775806) (hne : 0 < s.size) :
    Calls Tryz.prog 80 #[.string s] w fun e w' => e = .returned (.tuple (meanV l)) ∧ w' = w := by
  obtain ⟨c, hc, hg⟩ := get_of hs hne
  have hx := ext_list2 hs
  have hdc : l = c :: l.drop 1 := by have := drop_cons hc; simpa using this
  generalize hr : l.drop 1 = r at hdc
  subst hdc
  have ht : (c :: r).take 2 = c :: r.head?.toList := by cases r <;> simp
  rw [ht] at hx
  have hl : ∀ a b : UInt8, ((s.extract 0 (min 2 (s.size : Int)).toNat).toList == [a, b]) = decide (c = a ∧ r.head? = some b) := fun a b => by
    rw [hx, Bool.eq_iff_iff]
    cases r with
    | nil => simp
    | cons d r => simp
  have l1 := hl 39 39
  have l2 := hl 92 39
  have l3 := hl 92 92
  have l4 := hl 92 110
  have e92 : ((c.toNat : Int) == 92) = decide (c = 92) := by
    by_cases h : c = 92
    · subst h; rfl
    · have := ne_int h
      rw [show ((92 : UInt8).toNat : Int) = 92 from rfl] at this
      rw [this]; simp [h]
  have e32 : decide ((c.toNat : Int) < 32) = decide (c.toNat < 32) := by rw [decide_eq_decide]; omega
  have hv : meanV (c :: r) = if decide (c = 39 ∧ r.head? = some 39) = true ∨ decide (c = 92 ∧ r.head? = some 39) = true then #[.int .u8 39, .int .i64 2]
      else if decide (c = 92 ∧ r.head? = some 92) = true then #[.int .u8 92, .int .i64 2]
      else if decide (c = 92 ∧ r.head? = some 110) = true then #[.int .u8 10, .int .i64 2]
      else if decide (c = 92) = true ∨ decide (c.toNat < 32) = true then #[.int .u8 0, .int .i64 0]
      else #[.int .u8 c.toNat, .int .i64 1] := by
    unfold meanV
    rw [meanR_cons]
    simp only [decide_eq_true_eq]
    by_cases h1 : c = 39 ∧ r.head? = some 39 ∨ c = 92 ∧ r.head? = some 39
    · rw [if_pos h1, if_pos h1]; rfl
    · rw [if_neg h1, if_neg h1]
      by_cases h2 : c = 92 ∧ r.head? = some 92
      · rw [if_pos h2, if_pos h2]; rfl
      · rw [if_neg h2, if_neg h2]
        by_cases h3 : c = 92 ∧ r.head? = some 110
        · rw [if_pos h3, if_pos h3]; rfl
        · rw [if_neg h3, if_neg h3]
          by_cases h4 : c = 92 ∨ c.toNat < 32
          · rw [if_pos h4, if_pos h4]
          · rw [if_neg h4, if_neg h4]; rfl
  clear hl hx ht hr hs hc
  generalize decide (c = 39 ∧ r.head? = some 39) = b1 at *
  generalize decide (c = 92 ∧ r.head? = some 39) = b2 at *
  generalize decide (c = 92 ∧ r.head? = some 92) = b3 at *
  generalize decide (c = 92 ∧ r.head? = some 110) = b4 at *
  generalize decide (c = 92) = b5 at *
  generalize decide (c.toNat < 32) = b6 at *
  cases b1
  · cases b2
    · cases b3
      · cases b4
        · cases b5
          · cases b6
            · have hv' : meanV (c :: r) = #[.int .u8 c.toNat, .int .i64 1] := by rw [hv]; simp
              rw [hv']
              clear hv hv'
              go_enter Tryz.func80, Tryz.ntmps80
              go_wp2
              exact bodyPost_ret (v := .tuple #[.int .u8 c.toNat, .int .i64 1]) (by simp [results, Tryz.f80, go_sem]) rfl ⟨rfl, by trivial⟩
            · have hv' : meanV (c :: r) = #[.int .u8 0, .int .i64 0] := by rw [hv]; simp
              rw [hv']
              clear hv hv'
              go_enter Tryz.func80, Tryz.ntmps80
              go_wp2
              exact bodyPost_ret (v := .tuple #[.int .u8 0, .int .i64 0]) (by simp [results, Tryz.f80, go_sem]) rfl ⟨rfl, by trivial⟩
          · have hv' : meanV (c :: r) = #[.int .u8 0, .int .i64 0] := by rw [hv]; simp
            rw [hv']
            clear hv hv'
            go_enter Tryz.func80, Tryz.ntmps80
            go_wp2
            exact bodyPost_ret (v := .tuple #[.int .u8 0, .int .i64 0]) (by simp [results, Tryz.f80, go_sem]) rfl ⟨rfl, by trivial⟩
        · have hv' : meanV (c :: r) = #[.int .u8 10, .int .i64 2] := by rw [hv]; simp
          rw [hv']
          clear hv hv'
          go_enter Tryz.func80, Tryz.ntmps80
          go_wp2
          exact bodyPost_ret (v := .tuple #[.int .u8 10, .int .i64 2]) (by simp [results, Tryz.f80, go_sem]) rfl ⟨rfl, by trivial⟩
      · have hv' : meanV (c :: r) = #[.int .u8 92, .int .i64 2] := by rw [hv]; simp
        rw [hv']
        clear hv hv'
        go_enter Tryz.func80, Tryz.ntmps80
        go_wp2
        exact bodyPost_ret (v := .tuple #[.int .u8 92, .int .i64 2]) (by simp [results, Tryz.f80, go_sem]) rfl ⟨rfl, by trivial⟩
    · have hv' : meanV (c :: r) = #[.int .u8 39, .int .i64 2] := by rw [hv]; simp
      rw [hv']
      clear hv hv'
      go_enter Tryz.func80, Tryz.ntmps80
      go_wp2
      exact bodyPost_ret (v := .tuple #[.int .u8 39, .int .i64 2]) (by simp [results, Tryz.f80, go_sem]) rfl ⟨rfl, by trivial⟩
  · have hv' : meanV (c :: r) = #[.int .u8 39, .int .i64 2] := by rw [hv]; simp
    rw [hv']
    clear hv hv'
    go_enter Tryz.func80, Tryz.ntmps80
    go_wp2
    exact bodyPost_ret (v := .tuple #[.int .u8 39, .int .i64 2]) (by simp [results, Tryz.f80, go_sem]) rfl ⟨rfl, by trivial⟩
end Go.Proofs.YtfencolokfghfaaGreatDoor
