/-
  The law ArithTests, walked.
-/
import Derived.Test.YtfjnajngelemkaaZArH
namespace Go.Proofs.Ytfjnajngelemkaa
open Go.RowKit Go.Shelf
open Classical
set_option linter.unusedVariables false
set_option linter.unusedSimpArgs false

theorem atest_known (s : ByteArray) (a b : Int) : (atest s a b).2 = true ∨ (atest s a b).1 = false := by
  unfold atest
  split
  · exact .inl rfl
  split
  · exact .inl rfl
  split
  · exact .inl rfl
  split
  · exact .inl rfl
  split
  · exact .inl rfl
  split
  · exact .inl rfl
  · exact .inr rfl
theorem at_lt (a b : Int) : atest (ByteArray.mk #[60]) a b = (decide (a < b), true) := by unfold atest; rw [if_pos rfl]
theorem at_gt (a b : Int) : atest (ByteArray.mk #[62]) a b = (decide (a > b), true) := by unfold atest; rw [if_neg (by decide), if_pos rfl]
theorem at_le (a b : Int) : atest (ByteArray.mk #[61, 60]) a b = (decide (a ≤ b), true) := by unfold atest; rw [if_neg (by decide), if_neg (by decide), if_pos rfl]
theorem at_ge (a b : Int) : atest (ByteArray.mk #[62, 61]) a b = (decide (a ≥ b), true) := by unfold atest; rw [if_neg (by decide), if_neg (by decide), if_neg (by decide), if_pos rfl]
theorem at_eq (a b : Int) : atest (ByteArray.mk #[61, 58, 61]) a b = (a == b, true) := by unfold atest; rw [if_neg (by decide), if_neg (by decide), if_neg (by decide), if_neg (by decide), if_pos rfl]
theorem at_ne (a b : Int) : atest (ByteArray.mk #[61, 92, 61]) a b = (a != b, true) := by unfold atest; rw [if_neg (by decide), if_neg (by decide), if_neg (by decide), if_neg (by decide), if_neg (by decide), if_pos rfl]

set_option maxRecDepth 100000 in
set_option maxHeartbeats 8000000 in
theorem arithTests_at (a b : Int) (op : ByteArray) (w : World) : Calls Try.prog 10 #[.int .i64 a, .int .i64 b, .string op] w (Gets w (.bool true)) := by
  obtain ⟨lt, hlt⟩ : ∃ x, decide (a < b) = x := ⟨_, rfl⟩
  obtain ⟨gt, hgt⟩ : ∃ x, decide (a > b) = x := ⟨_, rfl⟩
  obtain ⟨le, hle⟩ : ∃ x, decide (a ≤ b) = x := ⟨_, rfl⟩
  obtain ⟨ge, hge⟩ : ∃ x, decide (a ≥ b) = x := ⟨_, rfl⟩
  obtain ⟨eq, heq⟩ : ∃ x, (a == b) = x := ⟨_, rfl⟩
  obtain ⟨ne, hne⟩ : ∃ x, (a != b) = x := ⟨_, rfl⟩
  have c1 := at_lt a b
  have c2 := at_gt a b
  have c3 := at_le a b
  have c4 := at_ge a b
  have c5 := at_eq a b
  have c6 := at_ne a b
  rw [hlt] at c1
  rw [hgt] at c2
  rw [hle] at c3
  rw [hge] at c4
  rw [heq] at c5
  rw [hne] at c6
  have t1 := fun w => test_at (ByteArray.mk #[60]) a b w
  have t2 := fun w => test_at (ByteArray.mk #[62]) a b w
  have t3 := fun w => test_at (ByteArray.mk #[61, 60]) a b w
  have t4 := fun w => test_at (ByteArray.mk #[62, 61]) a b w
  have t5 := fun w => test_at (ByteArray.mk #[61, 58, 61]) a b w
  have t6 := fun w => test_at (ByteArray.mk #[61, 92, 61]) a b w
  have t7 := fun w => test_at op a b w
  simp only [c1] at t1
  simp only [c2] at t2
  simp only [c3] at t3
  simp only [c4] at t4
  simp only [c5] at t5
  simp only [c6] at t6
  have hk := atest_known op a b
  generalize atest op a b = r at *
  obtain ⟨i, k⟩ := r
  simp only at t7 hk
  have hlt' : decide (a < b) = lt := hlt
  have HT := Lib.hid (And.intro t1 (And.intro t2 (And.intro t3 (And.intro t4 (And.intro t5 (And.intro t6 t7))))))
  have key : (lt = true ∧ gt = false ∧ le = true ∧ ge = false ∧ eq = false ∧ ne = true) ∨ (lt = false ∧ gt = true ∧ le = false ∧ ge = true ∧ eq = false ∧ ne = true) ∨ (lt = false ∧ gt = false ∧ le = true ∧ ge = true ∧ eq = true ∧ ne = false) := by
    rcases Int.lt_trichotomy a b with h | h | h
    · refine .inl ⟨hlt ▸ decide_eq_true h, hgt ▸ decide_eq_false (by omega), hle ▸ decide_eq_true (by omega), hge ▸ decide_eq_false (by omega), heq ▸ ?_, hne ▸ ?_⟩
      · simpa using (by omega : ¬ a = b)
      · simpa using (by omega : ¬ a = b)
    · refine .inr (.inr ⟨hlt ▸ decide_eq_false (by omega), hgt ▸ decide_eq_false (by omega), hle ▸ decide_eq_true (by omega), hge ▸ decide_eq_true (by omega), heq ▸ ?_, hne ▸ ?_⟩)
      · simpa using h
      · simpa using h
    · refine .inr (.inl ⟨hlt ▸ decide_eq_false (by omega), hgt ▸ decide_eq_true h, hle ▸ decide_eq_false (by omega), hge ▸ decide_eq_true (by omega), heq ▸ ?_, hne ▸ ?_⟩)
      · simpa using (by omega : ¬ a = b)
      · simpa using (by omega : ¬ a = b)
  clear c1 c2 c3 c4 c5 c6 t1 t2 t3 t4 t5 t6 t7 hlt hgt hle hge heq hne
  rcases key with ⟨rfl, rfl, rfl, rfl, rfl, rfl⟩ | ⟨rfl, rfl, rfl, rfl, rfl, rfl⟩ | ⟨rfl, rfl, rfl, rfl, rfl, rfl⟩
  all_goals
    have hi : i = false ∨ k = true := hk.symm
    clear hk
    obtain ⟨t1, t2, t3, t4, t5, t6, t7⟩ := HT.out
    go_enter Try.func10, Try.ntmps10
    go_wp2_with fail
    refine (shown12_at w).mono ?_
    rintro e w1 ⟨rfl, hb1⟩
    go_wp2_with fail
    refine (t1 w1).mono ?_
    rintro e w2 ⟨rfl, rfl⟩
    go_wp2_with fail
    refine (t2 w2).mono ?_
    rintro e w3 ⟨rfl, rfl⟩
    go_wp2_with fail
    refine (t5 w3).mono ?_
    rintro e w4 ⟨rfl, rfl⟩
    go_wp2_with fail
    refine (t3 w4).mono ?_
    rintro e w5 ⟨rfl, rfl⟩
    go_wp2_with fail
    refine (t4 w5).mono ?_
    rintro e w6 ⟨rfl, rfl⟩
    go_wp2_with fail
    refine (t6 w6).mono ?_
    rintro e w7 ⟨rfl, rfl⟩
    go_wp2_with fail
    refine (t7 w7).mono ?_
    rintro e w8 ⟨rfl, rfl⟩
    clear t1 t2 t3 t4 t5 t6 t7 HT
    cases k with
    | true =>
      clear hi
      go_wp2_with fail
      go_ret
      exact ⟨rfl, hb1⟩
    | false =>
      obtain rfl : i = false := hi.resolve_right (by decide)
      go_wp2_with fail
      go_ret
      exact ⟨rfl, hb1⟩
end Go.Proofs.Ytfjnajngelemkaa
