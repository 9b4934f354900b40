/-
  The walk of OpsReads.
-/
import Derived.Test.YtcjefmalgpbajaaDoorOpsD
namespace Go.Proofs.YtcjefmalgpbajaaDoor
open Go.RowKit Go.Lib
set_option linter.unusedVariables false

theorem len3 : ∀ j, j < 26 → (rowAt j).ty.length = 3 → tyC j 1 = 102 := by decide +kernel
theorem len2 : ∀ j, j < 26 → ¬ (rowAt j).ty.length = 3 → (rowAt j).ty.length = 2 ∧ tyC j 0 = 102 := by decide +kernel
theorem room3 : ∀ j, j < 26 → (rowAt j).ty.length = 3 → 0 ≤ grt j 0 ∧ 0 ≤ grt j 2 ∧ 2 * priN j - 2 ≤ grt j 0 + grt j 2 ∧ grt j 0 + grt j 2 < 2 * priN j ∧ grt j 0 ≤ 1200 ∧ grt j 2 ≤ 1200 := by decide +kernel
theorem room2 : ∀ j, j < 26 → ¬ (rowAt j).ty.length = 3 → grt j 1 ≤ priN j := by decide +kernel
/-- What Infix and Prefix answer of a row's own name. -/
theorem inf_own {j : Nat} (hj : j < 26) (h : (rowAt j).ty.length = 3) : infV (infR (rowAt j).nm) = .tuple #[.int .i64 (grt j 0), .int .i64 (priN j), .int .i64 (grt j 2), .bool true] := by
  rw [(inf_row j hj (len3 j hj h)).2]; simp only [infV, grt_nat hj]; rfl
theorem pre_own {j : Nat} (hj : j < 26) (h : ¬ (rowAt j).ty.length = 3) : preV (preR (rowAt j).nm) = .tuple #[.int .i64 (priN j), .int .i64 (grt j 1), .bool true] := by
  rw [(pre_row j hj (len2 j hj h).2).2]; simp only [preV, grt_nat hj]; rfl
theorem nm_list (j : Nat) : (nmN j).data.toList = (rowAt j).nm := by simp [nmN]

set_option maxRecDepth 100000 in
set_option maxHeartbeats 4000000 in
theorem opsReads_at (i : Int) (hi : 0 ≤ i ∧ i ≤ 255) (w : World) (T : Tab w) : Calls Tryd.prog 6 #[.int .u8 i] w (Gives w (.bool true)) := by
  obtain ⟨n, rfl⟩ : ∃ n : Nat, i = n := ⟨i.toNat, by omega⟩
  obtain ⟨j, hj⟩ : ∃ j, j = n % 26 := ⟨_, rfl⟩
  have hj26 : j < 26 := by omega
  have hS := shown_at w T
  have hA := fun W hb => all_rows W (T.later hb)
  have hI := fun W hb => infix_at (nmN j) _ (nm_list j) W (T.later hb)
  have hP := fun W hb => prefix_at (nmN j) _ (nm_list j) W (T.later hb)
  have tr : ∀ {a b : World}, Below w.heap.size w a → Below a.heap.size a b → Below w.heap.size w b := fun h k => h.trans (k.mono h.size)
  have HJ := Lib.hid hj
  have hp := pri_le hj26
  have hts := ty_size j
  clear hj T
  by_cases h3 : (rowAt j).ty.length = 3
  · obtain ⟨q0, q1, q2, q3, q4, q5⟩ := room3 j hj26 h3
    rw [inf_own hj26 h3] at hI
    rw [h3] at hts
    generalize preR (rowAt j).nm = rp at hP
    generalize grt j 0 = x at *
    generalize grt j 2 = y at *
    clear h3
    rcases rp with _ | ⟨u, v⟩ <;> dsimp only [preV] at hP
    all_goals
      go_enter Tryd.func6, Tryd.ntmps6
      go_wp2_with (first
        | (go_at_call 11; refine (hP _ b3).mono ?_; rintro e w4 ⟨rfl, hb4⟩; have b4 := tr b3 hb4; have y4 := (hb4.block _ (Nat.lt_of_lt_of_le hlt3 hb3.size)).trans y3; obtain ⟨d0, d1, d2, -⟩ := box3 y4)
        | (go_at_call 9; have b2' := b2.alloc b2.size (.cells #[.int .i64 (priN j), .string (tyN j), .string (nmN j)] 33); have y2 := op_alloc_new w2 (.cells #[.int .i64 (priN j), .string (tyN j), .string (nmN j)] 33); have hlt3 : w2.heap.size < (w2.alloc (.cells #[.int .i64 (priN j), .string (tyN j), .string (nmN j)] 33)).heap.size := (by simp); refine (hI _ b2').mono ?_; rintro e w3 ⟨rfl, hb3⟩; have b3 := tr b2' hb3; have y3 := (hb3.block _ hlt3).trans y2; obtain ⟨x0, x1, x2, -⟩ := box3 y3)
        | (go_at_call 13; refine (hA _ b1).mono ?_; rintro e w2 ⟨g, cap, rfl, hcap, R, hb2⟩; have b2 := tr b1 hb2; have c0 : w2.cell? ⟨g, n % 26 * 3, none⟩ = some (.int .i64 (priN j)) := (by rw [← HJ.out]; exact (R.row j hj26).1); have c1 : w2.cell? ⟨g, n % 26 * 3 + 1, none⟩ = some (.string (tyN j)) := (by rw [← HJ.out]; exact (R.row j hj26).2.1); have c2 : w2.cell? ⟨g, n % 26 * 3 + 2, none⟩ = some (.string (nmN j)) := (by rw [← HJ.out]; exact (R.row j hj26).2.2); clear R)
        | (go_at_call 8; refine hS.mono ?_; rintro e w1 ⟨rfl, b1⟩))
      go_ret
      exact ⟨rfl, b4⟩
  · have q0 := room2 j hj26 h3
    rw [pre_own hj26 h3] at hP
    rw [(len2 j hj26 h3).1] at hts
    generalize infR (rowAt j).nm = rp at hI
    generalize grt j 1 = x at *
    clear h3
    rcases rp with _ | ⟨u, v, z⟩ <;> dsimp only [infV] at hI
    all_goals
      go_enter Tryd.func6, Tryd.ntmps6
      go_wp2_with (first
        | (go_at_call 11; refine (hP _ b3).mono ?_; rintro e w4 ⟨rfl, hb4⟩; have b4 := tr b3 hb4; have y4 := (hb4.block _ (Nat.lt_of_lt_of_le hlt3 hb3.size)).trans y3; obtain ⟨d0, d1, d2, -⟩ := box3 y4)
        | (go_at_call 9; have b2' := b2.alloc b2.size (.cells #[.int .i64 (priN j), .string (tyN j), .string (nmN j)] 33); have y2 := op_alloc_new w2 (.cells #[.int .i64 (priN j), .string (tyN j), .string (nmN j)] 33); have hlt3 : w2.heap.size < (w2.alloc (.cells #[.int .i64 (priN j), .string (tyN j), .string (nmN j)] 33)).heap.size := (by simp); refine (hI _ b2').mono ?_; rintro e w3 ⟨rfl, hb3⟩; have b3 := tr b2' hb3; have y3 := (hb3.block _ hlt3).trans y2; obtain ⟨x0, x1, x2, -⟩ := box3 y3)
        | (go_at_call 13; refine (hA _ b1).mono ?_; rintro e w2 ⟨g, cap, rfl, hcap, R, hb2⟩; have b2 := tr b1 hb2; have c0 : w2.cell? ⟨g, n % 26 * 3, none⟩ = some (.int .i64 (priN j)) := (by rw [← HJ.out]; exact (R.row j hj26).1); have c1 : w2.cell? ⟨g, n % 26 * 3 + 1, none⟩ = some (.string (tyN j)) := (by rw [← HJ.out]; exact (R.row j hj26).2.1); have c2 : w2.cell? ⟨g, n % 26 * 3 + 2, none⟩ = some (.string (nmN j)) := (by rw [← HJ.out]; exact (R.row j hj26).2.2); clear R)
        | (go_at_call 8; refine hS.mono ?_; rintro e w1 ⟨rfl, b1⟩))
      go_ret
      exact ⟨rfl, b4⟩
end Go.Proofs.YtcjefmalgpbajaaDoor
