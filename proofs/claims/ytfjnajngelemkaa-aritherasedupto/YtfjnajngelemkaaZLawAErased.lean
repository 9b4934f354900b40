/-
  The law ArithErased, walked.
-/
import Derived.Test.YtfjnajngelemkaaZArHn2
import Derived.Test.YtfjnajngelemkaaZSeal5
namespace Go.Proofs.Ytfjnajngelemkaa
open Go.RowKit Go.Shelf
open Classical
set_option linter.unusedVariables false
set_option linter.unusedSimpArgs false

theorem low_num (r : ER) : r.low.num = r.num := by cases r <;> rfl
theorem low_err (r : ER) : r.low.err = r.err := by cases r <;> rfl
theorem low_lv (r : ER) : r.low.lv = 0 := by cases r <;> rfl
set_option maxRecDepth 100000 in
set_option maxHeartbeats 16000000 in
theorem arithErased_at (v : Value) (T : Tm) (w : World) (hT : Has w v T) (sT : T.size ≤ 1048576) : Calls Try.prog 6 #[v] w (Gets w (.bool true)) := by
  obtain ⟨k, n, s, a, l, c, ks, rfl, e, -⟩ := hT.form
  clear e
  obtain ⟨w2, hw2⟩ : ∃ w2, w2 = w.alloc (.cells #[.int .i64 k, .int .i64 n, .string s, .slice a l c] 24) := ⟨_, rfl⟩
  have hb2 : Below w.heap.size w w2 := by rw [hw2]; exact (Below.refl _ w).alloc (Nat.le_refl _) _
  have hx2 : w2.heap[w.heap.size]? = some (.cells #[.int .i64 k, .int .i64 n, .string s, .slice a l c] 24 (0, 0)) := by rw [hw2]; exact World.alloc_heap_new _ _
  have H2 := Lib.hid (And.intro hb2 (And.intro hx2 (Has.below hT hb2)))
  have HW := Lib.hid hw2
  clear hb2 hx2 hT hw2
  go_enter Try.func6, Try.ntmps6
  go_upto_region 1 with fail
  rw [← HW.out]
  go_wp2_with fail
  refine (shown12_at w2).mono ?_
  rintro e w3 ⟨rfl, hb3⟩
  go_wp2_with fail
  refine (chain12_at 8 w3 (by decide)).mono ?_
  rintro e w4 ⟨v4, rfl, hO4, hb4⟩
  go_wp2_with fail
  refine (latt11_at 8 v4 w3 w4 (by decide) hO4).mono ?_
  rintro e w5 ⟨lb, rfl, hL5, hb5⟩
  have hb25 : Below w2.heap.size w2 w5 := hb3.trans ((hb4.trans (hb5.mono hb4.size)).mono hb3.size)
  have H5 := Lib.hid (And.intro hL5 hb25)
  clear hb3 hO4 hb4 hL5 hb5 hb25
  go_wp2_with fail
  refine (new_at10 w5 w2.heap.size H5.out.2.size).mono ?_
  rintro e w6 ⟨rfl, hB6, hlt6, hS6⟩
  have H6 := Lib.hid (And.intro hS6 (And.intro (H5.out.1.below hB6) (H5.out.2.trans (hB6.mono H5.out.2.size))))
  clear hB6 hlt6 hS6 H5
  obtain ⟨y0, y1, y2, y3⟩ := tbox_cells (tbox_below H2.out.2.1 H6.out.2.2)
  have hfew := few12_at _ T w6 (Has.below H2.out.2.2 H6.out.2.2) (by omega)
  by_cases hf : T.size ≤ 300
  case neg =>
    rw [decide_eq_false hf] at hfew
    have HF := Lib.hid hf
    clear hf
    go_wp2_with (go_at_call 30; refine hfew.mono ?_; clear hfew; rintro e w7 ⟨rfl, hb7⟩)
    go_ret
    exact ⟨rfl, H2.out.1.trans ((H6.out.2.2.trans (hb7.mono H6.out.2.2.size)).mono H2.out.1.size)⟩
  rw [decide_eq_true hf] at hfew
  have hchk : ∀ w7, Below w6.heap.size w6 w7 → Calls Try.prog 31 #[.agg #[.int .i64 k, .int .i64 n, .string s, .slice a l c], .int .i64 9] w7 (Gets w7 (.int .i64 (T.check 9))) := fun w7 h => check_at _ T 9 w7 (Has.below H2.out.2.2 (H6.out.2.2.trans (h.mono H6.out.2.2.size))) (by omega)
  have HF := Lib.hid hf
  clear hf
  by_cases hc : T.check 9 = 0
  case neg =>
    obtain ⟨ce, hce⟩ : ∃ x, T.check 9 = x := ⟨_, rfl⟩
    rw [hce] at hchk hc
    have hc' : (ce != 0) = true := by simpa using hc
    clear hc hce
    go_wp2_with (first
      | (go_at_call 30; refine hfew.mono ?_; clear hfew; rintro e w7 ⟨rfl, hb7⟩; obtain ⟨z0, z1, z2, z3⟩ := tbox_cells (tbox_below (tbox_below H2.out.2.1 H6.out.2.2) hb7))
      | (go_at_call 31; refine (hchk w7 hb7).mono ?_; clear hchk; rintro e w8 ⟨rfl, hb8⟩))
    go_ret
    exact ⟨rfl, H2.out.1.trans ((H6.out.2.2.trans ((hb7.trans (hb8.mono hb7.size)).mono H6.out.2.2.size)).mono H2.out.1.size)⟩
  rw [hc] at hchk
  have HC := Lib.hid hc
  clear hc
  go_upto_region 6 with (first
    | (go_at_call 30; refine hfew.mono ?_; clear hfew; rintro e w7 ⟨rfl, hb7⟩; obtain ⟨z0, z1, z2, z3⟩ := tbox_cells (tbox_below (tbox_below H2.out.2.1 H6.out.2.2) hb7))
    | (go_at_call 31; refine (hchk w7 hb7).mono ?_; clear hchk; rintro e w8 ⟨rfl, hb8⟩))
  have hb68 := hb7.trans (hb8.mono hb7.size)
  have H8 := Lib.hid (And.intro (H6.out.1.step hb68) (And.intro (H6.out.2.1.below hb68) (H6.out.2.2.trans (hb68.mono H6.out.2.2.size))))
  clear hb68 hb7 hb8 z0 z1 z2 z3 y0 y1 y2 y3 H6
  obtain ⟨y0, y1, y2, y3⟩ := tbox_cells (tbox_below H2.out.2.1 H8.out.2.2)
  go_wp2_with fail
  refine (aeval_at H8.out.1 H8.out.2.1 _ _ (Has.below H2.out.2.2 H8.out.2.2) (by omega)).mono ?_
  have hlow := evl_low 9 σ0_fin 2000 2000 0 T
  have hle := evl_le (N := 9) (by decide) σ0_fin (M := T.jC 9 0) 2000 2000 0 T (Nat.zero_le _) (Nat.le_refl _)
  generalize σ0.evl 9 2000 2000 0 T = R at *
  have HR := Lib.hid (And.intro hlow hle)
  clear hlow hle
  rintro e w9 ⟨rfl, hb9⟩
  have H9 := Lib.hid (And.intro (H8.out.1.step hb9) (And.intro (H8.out.2.1.below hb9) (H8.out.2.2.trans (hb9.mono H8.out.2.2.size))))
  clear hb9 y0 y1 y2 y3 H8
  obtain ⟨y0, y1, y2, y3⟩ := tbox_cells (tbox_below H2.out.2.1 H9.out.2.2)
  go_wp2_with fail
  refine (erase_at _ T w9 (Has.below H2.out.2.2 H9.out.2.2) (by omega)).mono ?_
  intro e w10 h10
  obtain ⟨k2, n2, s2, a2_, l2, c2, rfl, hN10, hb10⟩ := h10.has2
  have H10 := Lib.hid (And.intro (has_new hN10) hb10)
  clear h10 hN10 hb10 y0 y1 y2 y3
  go_wp2_with fail
  refine (aeval_at (H9.out.1.step H10.out.2) (H9.out.2.1.below H10.out.2) _ _ H10.out.1 (by have := Tm.er_size T; omega)).mono ?_
  rw [HR.out.1]
  rintro e w11 ⟨rfl, hb11⟩
  rw [low_num, low_err, low_lv]
  have hb911 := H10.out.2.trans (hb11.mono H10.out.2.size)
  have H11 := Lib.hid (And.intro (H9.out.2.1.below hb911) (H9.out.2.2.trans (hb911.mono H9.out.2.2.size)))
  clear hb11 hb911 H10 H9
  obtain ⟨rn, hrn⟩ : ∃ x, R.num = x := ⟨_, rfl⟩
  obtain ⟨re, hre⟩ : ∃ x, R.err = x := ⟨_, rfl⟩
  obtain ⟨rl, hrl⟩ : ∃ x, R.lv = x := ⟨_, rfl⟩
  rw [hrn, hre, hrl]
  have hle := HR.out.2
  rw [hrl] at hle
  have hj := jC_le (N := 9) (by decide) T
  have hbot := (ch_bottom H11.out.1).mono (R' := fun e w' => e = .returned (.int .i64 0) ∧ w'.cell? ⟨w.heap.size, 0, none⟩ = some (.int .i64 k) ∧ w'.cell? ⟨w.heap.size, 1, none⟩ = some (.int .i64 n) ∧ w'.cell? ⟨w.heap.size, 2, none⟩ = some (.string s) ∧ w'.cell? ⟨w.heap.size, 3, none⟩ = some (.slice a l c) ∧ Hid (Below w11.heap.size w11 w')) (fun e w' h => by
    obtain ⟨h1, h2⟩ := h.below
    obtain ⟨z0, z1, z2, z3⟩ := tbox_cells (tbox_below H2.out.2.1 (H11.out.2.trans (h2.mono H11.out.2.size)))
    exact ⟨h1, z0, z1, z2, z3, h2⟩)
  have HL := Lib.hid (And.intro hle hj)
  have hd : decide (rl ≤ T.jC 9 0) = true := decide_eq_true hle
  clear hrn hre hrl hle hj HR
  go_wp2_with (first
    | (go_at_call 19; refine hbot.mono ?_; clear hbot; rintro e w12 ⟨rfl, z0, z1, z2, z3, hb12⟩)
    | (go_at_call 34; refine (sjoin_at _ T w12 lb 9 (H11.out.1.below hb12.out) (Has.below H2.out.2.2 (H11.out.2.trans (hb12.out.mono H11.out.2.size))) (by omega)).mono ?_; rintro e w13 ⟨rfl, hb13⟩)
    | (go_at_call 33; refine (ch_leq ((H11.out.1.below hb12.out).below hb13) (x := rl) (y := T.jC 9 0) (by have := HL.out; omega) (by have := HL.out; omega)).mono ?_; rintro e w14 h14; rw [hd] at h14; obtain ⟨rfl, hb14⟩ := h14.below))
  go_ret
  have hb := hb12.out.trans ((hb13.trans (hb14.mono hb13.size)).mono hb12.out.size)
  exact ⟨rfl, H2.out.1.trans ((H11.out.2.trans (hb.mono H11.out.2.size)).mono H2.out.1.size)⟩
end Go.Proofs.Ytfjnajngelemkaa
