/-
  The walk of OpsMany.
-/
import Derived.Test.YtcjefmalgpbajaaDoorLawOReads
namespace Go.Proofs.YtcjefmalgpbajaaDoor
open Go.RowKit Go.Lib
set_option linter.unusedVariables false

def cnt (p : Nat → Bool) : Nat → Nat
  | 0 => 0
  | j + 1 => cnt p j + (if p j then 1 else 0)
def is3 (i : Nat) : Bool := decide ((rowAt i).ty.length = 3)
def isO (l : List UInt8) (i : Nat) : Bool := decide ((rowAt i).nm = l) && is3 i
def isA (l : List UInt8) (i : Nat) : Bool := decide ((rowAt i).nm = l) && !is3 i
theorem cnt_le (p : Nat → Bool) : ∀ j, cnt p j ≤ j
  | 0 => Nat.le_refl _
  | j + 1 => by have := cnt_le p j; simp only [cnt]; split <;> omega
theorem cnt_yes {p : Nat → Bool} {j : Nat} (h : p j = true) : cnt p (j + 1) = cnt p j + 1 := by simp [cnt, h]
theorem cnt_no {p : Nat → Bool} {j : Nat} (h : p j = false) : cnt p (j + 1) = cnt p j := by simp [cnt, h]
theorem cnt_none {p : Nat → Bool} : ∀ j, (∀ i, i < j → p i = false) → cnt p j = 0
  | 0, _ => rfl
  | j + 1, h => by rw [cnt_no (h j (by omega))]; exact cnt_none j (fun i hi => h i (by omega))
theorem cnt_all : cnt is3 26 + cnt (fun i => !is3 i) 26 = 26 := by decide +kernel
theorem many (l : List UInt8) : cnt (isO l) 26 = (if (infR l).isSome then 1 else 0) ∧ cnt (isA l) 26 = (if (preR l).isSome then 1 else 0) := by
  by_cases ha : ∃ j, j < 26 ∧ (rowAt j).nm = l
  · obtain ⟨j, hj, rfl⟩ := ha
    rcases lt26 hj with rfl | rfl | rfl | rfl | rfl | rfl | rfl | rfl | rfl | rfl | rfl | rfl | rfl | rfl | rfl | rfl | rfl | rfl | rfl | rfl | rfl | rfl | rfl | rfl | rfl | rfl <;> decide +kernel
  · have hn : ∀ p i, i < 26 → hit p l i = false := fun p i hi => by
      have : (rowAt i).nm ≠ l := fun e => ha ⟨i, hi, e⟩
      simp [hit, this]
    rw [inf_none (hn 1), pre_none (hn 0)]
    refine ⟨cnt_none 26 fun i hi => ?_, cnt_none 26 fun i hi => ?_⟩
    · have : (rowAt i).nm ≠ l := fun e => ha ⟨i, hi, e⟩
      simp [isO, this]
    · have : (rowAt i).nm ≠ l := fun e => ha ⟨i, hi, e⟩
      simp [isA, this]

set_option maxRecDepth 100000 in
set_option maxHeartbeats 8000000 in
theorem opsMany_at (s : ByteArray) (w : World) (T : Tab w) : Calls Tryd.prog 7 #[.string s] w (Gives w (.bool true)) := by
  obtain ⟨l, hs⟩ : ∃ l, s.data.toList = l := ⟨_, rfl⟩
  have hS := shown_at w T
  have hA := fun W hb => all_rows W (T.later hb)
  have HT := Lib.hid T
  clear T
  have tr : ∀ {a b : World}, Below w.heap.size w a → Below a.heap.size a b → Below w.heap.size w b := fun h k => h.trans (k.mono h.size)
  go_enter Tryd.func7, Tryd.ntmps7
  go_wp2_with (first
    | (go_at_call 13; refine (hA _ b1).mono ?_; rintro e w2 ⟨g, cap, rfl, hcap, R, hb2⟩; have b2 := tr b1 hb2)
    | (go_at_call 8; refine hS.mono ?_; rintro e w1 ⟨rfl, b1⟩))
  clear hS hA
  go_loopw [5, 6, 7, 8, 9] (fun a b c d i wr => ∃ j : Nat, a = .int .i64 (cnt is3 j : Nat) ∧ b = .int .i64 (cnt (fun i => !is3 i) j : Nat) ∧ c = .int .i64 (cnt (isO l) j : Nat) ∧ d = .int .i64 (cnt (isA l) j : Nat) ∧ i = .int .i64 j ∧ j ≤ 26 ∧ RowsAt wr g ∧ Below w.heap.size w wr) (fun _ _ _ _ i _ => 26 - (intOf i).toNat)
  case atStart => exact ⟨0, rfl, rfl, rfl, rfl, rfl, by decide, R, b2⟩
  case round =>
    obtain ⟨j, rfl, rfl, rfl, rfl, rfl, hj, R', hb⟩ := hrel
    have HR := Lib.hid R'
    have n1 := cnt_le is3 j
    have n2 := cnt_le (fun i => !is3 i) j
    have n3 := cnt_le (isO l) j
    have n4 := cnt_le (isA l) j
    clear R R' b2
    by_cases hlt : j < 26
    · have hlt' : (j : Int) < 26 := by omega
      have hI := fun W hb => infix_at (nmN j) _ (nm_list j) W (HT.out.later hb)
      have hP := fun W hb => prefix_at (nmN j) _ (nm_list j) W (HT.out.later hb)
      have hq : ((nmN j).toList == s.toList) = decide ((rowAt j).nm = l) := by rw [op_beq, nm_list, hs]
      have hts := ty_size j
      obtain ⟨c0, c1, c2⟩ := HR.out.row j hlt
      by_cases h3 : (rowAt j).ty.length = 3
      · rw [inf_own hlt h3] at hI
        rw [h3] at hts
        have p1 := Lib.hid (cnt_yes (p := is3) (j := j) (by simp [is3, h3]))
        have p2 := Lib.hid (cnt_no (p := fun i => !is3 i) (j := j) (by simp [is3, h3]))
        have p4 := Lib.hid (cnt_no (p := isA l) (j := j) (by simp [isA, is3, h3]))
        by_cases hn : (rowAt j).nm = l
        · rw [decide_eq_true hn] at hq
          have p3 := Lib.hid (cnt_yes (p := isO l) (j := j) (by simp [isO, is3, h3, hn]))
          generalize preR (rowAt j).nm = rp at hP
          clear h3 hn
          rcases rp with _ | ⟨u, v⟩ <;> dsimp only [preV] at hP
          all_goals
            go_wp2_with (first
              | (go_at_call 11; refine (hP _ b3).mono ?_; rintro e w4 ⟨rfl, hb4⟩; have b4 := tr b3 hb4; obtain ⟨f0, f1, f2⟩ := ((HR.out.later hb3).later hb4).row j hlt)
              | (go_at_call 9; refine (hI _ hb).mono ?_; rintro e w3 ⟨rfl, hb3⟩; have b3 := tr hb hb3; obtain ⟨d0, d1, d2⟩ := (HR.out.later hb3).row j hlt))
            go_roundw
            case rel => exact ⟨j + 1, by rw [p1.out]; try go_num, by rw [p2.out]; try go_num, by rw [p3.out]; try go_num, by rw [p4.out]; try go_num, by go_num, hlt, (HR.out.later hb3).later hb4, b4⟩
            case measure => simp [intOf]; omega
        · rw [decide_eq_false hn] at hq
          have p3 := Lib.hid (cnt_no (p := isO l) (j := j) (by simp [isO, is3, h3, hn]))
          generalize preR (rowAt j).nm = rp at hP
          clear h3 hn
          rcases rp with _ | ⟨u, v⟩ <;> dsimp only [preV] at hP
          all_goals
            go_wp2_with (first
              | (go_at_call 11; refine (hP _ b3).mono ?_; rintro e w4 ⟨rfl, hb4⟩; have b4 := tr b3 hb4; obtain ⟨f0, f1, f2⟩ := ((HR.out.later hb3).later hb4).row j hlt)
              | (go_at_call 9; refine (hI _ hb).mono ?_; rintro e w3 ⟨rfl, hb3⟩; have b3 := tr hb hb3; obtain ⟨d0, d1, d2⟩ := (HR.out.later hb3).row j hlt))
            go_roundw
            case rel => exact ⟨j + 1, by rw [p1.out]; try go_num, by rw [p2.out]; try go_num, by rw [p3.out]; try go_num, by rw [p4.out]; try go_num, by go_num, hlt, (HR.out.later hb3).later hb4, b4⟩
            case measure => simp [intOf]; omega
      · rw [pre_own hlt h3] at hP
        rw [(len2 j hlt h3).1] at hts
        have p1 := Lib.hid (cnt_no (p := is3) (j := j) (by simp [is3, h3]))
        have p2 := Lib.hid (cnt_yes (p := fun i => !is3 i) (j := j) (by simp [is3, h3]))
        have p3 := Lib.hid (cnt_no (p := isO l) (j := j) (by simp [isO, is3, h3]))
        by_cases hn : (rowAt j).nm = l
        · rw [decide_eq_true hn] at hq
          have p4 := Lib.hid (cnt_yes (p := isA l) (j := j) (by simp [isA, is3, h3, hn]))
          generalize infR (rowAt j).nm = rp at hI
          clear h3 hn
          rcases rp with _ | ⟨u, v, z⟩ <;> dsimp only [infV] at hI
          all_goals
            go_wp2_with (first
              | (go_at_call 11; refine (hP _ b3).mono ?_; rintro e w4 ⟨rfl, hb4⟩; have b4 := tr b3 hb4; obtain ⟨f0, f1, f2⟩ := ((HR.out.later hb3).later hb4).row j hlt)
              | (go_at_call 9; refine (hI _ hb).mono ?_; rintro e w3 ⟨rfl, hb3⟩; have b3 := tr hb hb3; obtain ⟨d0, d1, d2⟩ := (HR.out.later hb3).row j hlt))
            go_roundw
            case rel => exact ⟨j + 1, by rw [p1.out]; try go_num, by rw [p2.out]; try go_num, by rw [p3.out]; try go_num, by rw [p4.out]; try go_num, by go_num, hlt, (HR.out.later hb3).later hb4, b4⟩
            case measure => simp [intOf]; omega
        · rw [decide_eq_false hn] at hq
          have p4 := Lib.hid (cnt_no (p := isA l) (j := j) (by simp [isA, is3, h3, hn]))
          generalize infR (rowAt j).nm = rp at hI
          clear h3 hn
          rcases rp with _ | ⟨u, v, z⟩ <;> dsimp only [infV] at hI
          all_goals
            go_wp2_with (first
              | (go_at_call 11; refine (hP _ b3).mono ?_; rintro e w4 ⟨rfl, hb4⟩; have b4 := tr b3 hb4; obtain ⟨f0, f1, f2⟩ := ((HR.out.later hb3).later hb4).row j hlt)
              | (go_at_call 9; refine (hI _ hb).mono ?_; rintro e w3 ⟨rfl, hb3⟩; have b3 := tr hb hb3; obtain ⟨d0, d1, d2⟩ := (HR.out.later hb3).row j hlt))
            go_roundw
            case rel => exact ⟨j + 1, by rw [p1.out]; try go_num, by rw [p2.out]; try go_num, by rw [p3.out]; try go_num, by rw [p4.out]; try go_num, by go_num, hlt, (HR.out.later hb3).later hb4, b4⟩
            case measure => simp [intOf]; omega
    · obtain rfl : j = 26 := by omega
      obtain ⟨m1, m2⟩ := many l
      have m3 := cnt_all
      have hI := fun W hb => infix_at s l hs W (HT.out.later hb)
      have hP := fun W hb => prefix_at s l hs W (HT.out.later hb)
      generalize cnt is3 26 = A at *
      generalize cnt (fun i => !is3 i) 26 = B at *
      generalize cnt (isO l) 26 = C at *
      generalize cnt (isA l) 26 = D at *
      generalize infR l = ri at *
      generalize preR l = rp at *
      have m4 : (A : Int) + (B : Int) = 26 := by omega
      have HM := Lib.hid m3
      clear m3 hs HT HR n1 n2 n3 n4 hj hlt
      rcases ri with _ | ⟨a, b, c⟩ <;> rcases rp with _ | ⟨x, y⟩ <;> dsimp only [infV, preV] at hI hP <;> simp only [Option.isSome_none, Option.isSome_some, if_true, Bool.false_eq_true, if_false] at m1 m2 <;> subst m1 m2
      all_goals
        go_wp2_with (first
          | (go_at_call 11; refine (hP _ b3).mono ?_; rintro e w4 ⟨rfl, hb4⟩; have b4 := tr b3 hb4)
          | (go_at_call 9; refine (hI _ hb).mono ?_; rintro e w3 ⟨rfl, hb3⟩; have b3 := tr hb hb3))
        go_ret
        exact ⟨rfl, b4⟩
end Go.Proofs.YtcjefmalgpbajaaDoor
