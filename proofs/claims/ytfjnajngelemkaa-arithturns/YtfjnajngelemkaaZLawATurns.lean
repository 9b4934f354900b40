/-
  The law ArithTurns, walked.
-/
import Derived.Test.YtfjnajngelemkaaZArHn2
namespace Go.Proofs.Ytfjnajngelemkaa
open Go.RowKit Go.Shelf
open Classical
set_option linter.unusedVariables false
set_option linter.unusedSimpArgs false

theorem one_terms {w : World} {k1 n1 : Int} {s1 : ByteArray} {a1 : Option Addr} {l1 c1 : Nat} {T1 : Tm} (h1 : Has w (.agg #[.int .i64 k1, .int .i64 n1, .string s1, .slice a1 l1 c1]) T1) :
    HasTs (w.alloc (.cells #[.int .i64 k1, .int .i64 n1, .string s1, .slice a1 l1 c1] 24)) (.slice (some ⟨w.heap.size, 0, none⟩) 1 1) [T1] :=
  one_ts (p := fun c => c < w.heap.size) h1 (fun _ h => h) (fun c hc => by have : c < w.heap.size := hc; simp; omega) (by simp)
def num1 (x : Int) : Tm := .mk 2 x e0 []
def neg2 (x : Int) : Tm := .mk 3 0 (ByteArray.mk #[45]) [.mk 3 0 (ByteArray.mk #[45]) [num1 x]]
def abs1 (x : Int) : Tm := .mk 3 0 (ByteArray.mk #[97, 98, 115]) [num1 x]
theorem size_num1 (x : Int) : (num1 x).size = 1 := by unfold num1; rw [Tm.size_mk, Tm.sizes_nil]
theorem size_neg2 (x : Int) : (neg2 x).size = 3 := by unfold neg2; rw [Tm.size_mk, Tm.sizes_cons, Tm.sizes_nil, Tm.size_mk, Tm.sizes_cons, Tm.sizes_nil, size_num1]
theorem size_abs1 (x : Int) : (abs1 x).size = 2 := by unfold abs1; rw [Tm.size_mk, Tm.sizes_cons, Tm.sizes_nil, size_num1]
theorem neg2_run (x : Int) : σ0.evl 1 2000 2000 0 (neg2 x) = (fin1 (fit (-x)) 0 1997).next fun n l r => fin1 (fit (-n)) l r := by
  unfold neg2 num1
  rw [show (2000 : Nat) = 1997 + 1 + 1 + 1 from rfl, evl_fun _ _ _ _ _ _ _ _ (by decide)]
  simp only [evF, a1_neg]
  rw [evl_fun _ _ _ _ _ _ _ _ (by decide)]
  simp only [evF, a1_neg]
  rw [evl_num _ _ _ _ _ _ _ _ (by decide)]
  rfl
theorem abs1_run (x : Int) : σ0.evl 1 2000 2000 0 (abs1 x) = fin1 (fit (if x < 0 then -x else x)) 0 1998 := by
  unfold abs1 num1
  rw [show (2000 : Nat) = 1998 + 1 + 1 from rfl, evl_fun _ _ _ _ _ _ _ _ (by decide)]
  simp only [evF, a1_abs]
  rw [evl_num _ _ _ _ _ _ _ _ (by decide)]
  rfl
set_option maxRecDepth 100000 in
set_option maxHeartbeats 16000000 in
theorem arithTurns_at (a : Int) (ha : i64ok a) (w : World) : Calls Try.prog 9 #[.int .i64 a] w (Gets w (.bool true)) := by
  have HX := Lib.hid ha
  obtain ⟨X, hX⟩ : ∃ X, σ0.evl 1 2000 2000 0 (neg2 a) = X := ⟨_, rfl⟩
  obtain ⟨Y, hY⟩ : ∃ Y, σ0.evl 1 2000 2000 0 (abs1 a) = Y := ⟨_, rfl⟩
  have hZ : σ0.evl 1 2000 2000 0 (nums2 (ByteArray.mk #[45]) a a) = .ok 0 0 1997 := by
    rw [evN_eq a2_sub]
    show fin1 (fit (a - a)) 0 1997 = _
    rw [Int.sub_self, fit_in (x := 0) (by decide)]; rfl
  have HR := Lib.hid (And.intro hX (And.intro hY hZ))
  clear ha hX hY hZ
  have hz := zeroTerm
  go_enter Try.func9, Try.ntmps9
  go_wp2_with fail
  refine (shown12_at w).mono ?_
  rintro e w1 ⟨rfl, hb1⟩
  go_wp2_with fail
  refine (latt11_at 0 (.slice none 0 0) w1 w1 (by decide) (OwnPairs.nil _ _)).mono ?_
  rintro e w2 ⟨lb, rfl, hL2, hb2⟩
  have H2 := Lib.hid (And.intro hL2 (hb1.trans (hb2.mono hb1.size)))
  clear hb1 hL2 hb2
  go_wp2_with fail
  refine (new_at10 w2 w.heap.size H2.out.2.size).mono ?_
  rintro e w3 ⟨rfl, hB3, hlt3, hS3⟩
  have H3 := Lib.hid (And.intro hS3 (And.intro (H2.out.1.below hB3) (H2.out.2.trans (hB3.mono H2.out.2.size))))
  clear hS3 hB3 hlt3 H2
  go_wp2_with fail
  refine (num_at a w3 HX.out).mono ?_
  intro e w4 h4
  obtain ⟨k1, n1, s1, a1, l1, c1, rfl, hN4, hb4⟩ := h4.has2
  obtain ⟨w5, hw5⟩ : ∃ w5, w5 = w4.alloc (.cells #[.int .i64 k1, .int .i64 n1, .string s1, .slice a1 l1 c1] 24) := ⟨_, rfl⟩
  have hb45 : Below w4.heap.size w4 w5 := by rw [hw5]; exact (Below.refl _ _).alloc (Nat.le_refl _) _
  have hx5 : w5.heap[w4.heap.size]? = some (.cells #[.int .i64 k1, .int .i64 n1, .string s1, .slice a1 l1 c1] 24 (0, 0)) := by rw [hw5]; exact World.alloc_heap_new _ _
  have H5 := Lib.hid (And.intro (show Has w5 _ (num1 a) from Has.below (has_new hN4) hb45) (And.intro hx5 (hb4.trans (hb45.mono hb4.size))))
  have HW5 := Lib.hid hw5
  obtain ⟨x0, x1, x2, x3⟩ := tbox_cells hx5
  clear h4 hN4 hb4 hb45 hx5 hw5
  go_upto_region 7 with fail
  rw [← HW5.out]
  go_wp2_with fail
  refine (make_at (ByteArray.mk #[45]) _ [num1 a] _ (by decide) (one_terms H5.out.1) (by rw [Tm.sizes_cons, Tm.sizes_nil, size_num1]; omega)).mono ?_
  intro e w6 h6
  obtain ⟨k2, n2, s2, a2, l2, c2, rfl, hN6, hb6⟩ := h6.has2
  have H6 := Lib.hid (And.intro (has_new hN6) ((Below.refl _ _).alloc (Nat.le_refl _) _ |>.trans (hb6.mono (by simp))))
  clear h6 hN6 hb6 x0 x1 x2 x3
  go_wp2_with fail
  refine (make_at (ByteArray.mk #[45]) _ [.mk 3 0 (ByteArray.mk #[45]) [num1 a]] _ (by decide) (one_terms H6.out.1) (by rw [Tm.sizes_cons, Tm.sizes_nil, Tm.size_mk, Tm.sizes_cons, Tm.sizes_nil, size_num1]; omega)).mono ?_
  intro e w7 h7
  obtain ⟨k3, n3, s3, a3, l3, c3, rfl, hN7, hb7⟩ := h7.has2
  have H7 := Lib.hid (And.intro (show Has w7 _ (neg2 a) from has_new hN7) (H6.out.2.trans (((Below.refl _ _).alloc (Nat.le_refl _) _ |>.trans (hb7.mono (by simp))).mono H6.out.2.size)))
  clear h7 hN7 hb7 H6
  go_wp2_with fail
  have hb37 := H5.out.2.2.trans (H7.out.2.mono H5.out.2.2.size)
  refine (aeval_at (H3.out.1.step hb37) (H3.out.2.1.below hb37) _ _ H7.out.1 (by rw [size_neg2]; omega)).mono ?_
  rw [HR.out.1]
  rintro e w8 ⟨rfl, hb8⟩
  have H8 := Lib.hid (H7.out.2.trans (hb8.mono H7.out.2.size))
  have hx8 := tbox_below H5.out.2.1 H8.out
  obtain ⟨x0, x1, x2, x3⟩ := tbox_cells hx8
  clear hb8 H7 hb37
  go_wp2_with fail
  refine (make_at (ByteArray.mk #[97, 98, 115]) _ [num1 a] _ (by decide) (one_terms (Has.below H5.out.1 H8.out)) (by rw [Tm.sizes_cons, Tm.sizes_nil, size_num1]; omega)).mono ?_
  intro e w9 h9
  obtain ⟨k4, n4, s4, a4, l4, c4, rfl, hN9, hb9⟩ := h9.has2
  have H9 := Lib.hid (And.intro (show Has w9 _ (abs1 a) from has_new hN9) (H8.out.trans (((Below.refl _ _).alloc (Nat.le_refl _) _ |>.trans (hb9.mono (by simp))).mono H8.out.size)))
  clear h9 hN9 hb9 x0 x1 x2 x3 hx8 H8
  go_wp2_with fail
  have hb39 := H5.out.2.2.trans (H9.out.2.mono H5.out.2.2.size)
  refine (aeval_at (H3.out.1.step hb39) (H3.out.2.1.below hb39) _ _ H9.out.1 (by rw [size_abs1]; omega)).mono ?_
  rw [HR.out.2.1]
  rintro e w10 ⟨rfl, hb10⟩
  have H10 := Lib.hid (H9.out.2.trans (hb10.mono H9.out.2.size))
  have hx10 := tbox_below H5.out.2.1 H10.out
  obtain ⟨x0, x1, x2, x3⟩ := tbox_cells hx10
  clear hb10 H9 hb39
  go_wp2_with fail
  refine (make_at (ByteArray.mk #[45]) _ [num1 a, num1 a] _ (by decide) (two_terms (Has.below H5.out.1 H10.out) (Has.below H5.out.1 H10.out)) (by rw [Tm.sizes_cons, Tm.sizes_cons, Tm.sizes_nil, size_num1]; omega)).mono ?_
  intro e w11 h11
  obtain ⟨k5, n5, s5, a5, l5, c5, rfl, hN11, hb11⟩ := h11.has2
  have H11 := Lib.hid (And.intro (show Has w11 _ (nums2 (ByteArray.mk #[45]) a a) from has_new hN11) (H10.out.trans (((Below.refl _ _).alloc (Nat.le_refl _) _ |>.trans (hb11.mono (by simp))).mono H10.out.size)))
  clear h11 hN11 hb11 x0 x1 x2 x3 hx10 H10
  go_wp2_with fail
  have hb311 := H5.out.2.2.trans (H11.out.2.mono H5.out.2.2.size)
  refine (aeval_at (H3.out.1.step hb311) (H3.out.2.1.below hb311) _ _ H11.out.1 (by rw [size2]; omega)).mono ?_
  rw [HR.out.2.2]
  rintro e w12 ⟨rfl, hb12⟩
  have H12 := Lib.hid (H3.out.2.2.trans ((hb311.trans (hb12.mono hb311.size)).mono H3.out.2.2.size))
  clear hb12 H11 hb311 H5 H3 HW5
  have hXr := HR.out.1
  have hYr := HR.out.2.1
  rw [neg2_run] at hXr
  rw [abs1_run] at hYr
  obtain ⟨ha1, ha2⟩ := HX.out
  by_cases h1 : a = -9223372036854775808
  · rw [show fit (-a) = none from fit_out (fun h => by have := h.1; have := h.2; omega)] at hXr
    rw [if_pos (by omega), show fit (-a) = none from fit_out (fun h => by have := h.1; have := h.2; omega)] at hYr
    subst hXr hYr
    clear HR HX ha1 ha2
    subst h1
    simp only [fin1, ER.next, ER.num, ER.err, ER.lv]
    go_wp2_with fail
    go_ret
    exact ⟨rfl, H12.out⟩
  · rw [show fit (-a) = some (-a) from fit_in ⟨by omega, by omega⟩] at hXr
    simp only [fin1, ER.next, Int.neg_neg] at hXr
    rw [fit_in HX.out] at hXr
    have hab : i64ok (if a < 0 then -a else a) := by split <;> exact ⟨by omega, by omega⟩
    rw [fit_in hab] at hYr
    have hwn : wrap64 (-a) = -a := wrap_in ⟨by omega, by omega⟩
    have d1 : (a == -9223372036854775808) = false := by simpa using h1
    by_cases h0 : a < 0
    · rw [if_pos h0] at hYr
      subst hXr hYr
      have hq : ¬ (-a ≤ a) := by omega
      have hq' : decide (-a ≤ a) = false := decide_eq_false hq
      have hq2 : a ≤ -a := by omega
      clear HR HX ha1 ha2 hab h1 h0
      simp only [fin1, ER.next, ER.num, ER.err, ER.lv]
      go_wp2_with fail
      go_ret
      exact ⟨rfl, H12.out⟩
    · rw [if_neg h0] at hYr
      subst hXr hYr
      have hq : -a ≤ a := by omega
      have hq' : decide (-a ≤ a) = true := decide_eq_true hq
      clear HR HX ha1 ha2 hab h1 h0
      simp only [fin1, ER.next, ER.num, ER.err, ER.lv]
      go_wp2_with fail
      go_ret
      exact ⟨rfl, H12.out⟩
end Go.Proofs.Ytfjnajngelemkaa
