/-
  The law TermShifts: its walk.
-/
import Derived.Test.YtmbikojjhdildaaShown
import Derived.Test.YtmbikojjhdildaaSame
import Derived.Test.YtmbikojjhdildaaShiftsM
namespace Go.Proofs.Ytmbikojjhdildaa
open Go.RowKit Go.Shelf
open Classical
set_option linter.unusedVariables false

theorem wrapEq (x : Int) : IntKind.i64.wrap x = wrap64 x := by rw [IntKind.wrap_i64]; simp only [wrap64]

set_option maxRecDepth 100000 in
set_option maxHeartbeats 4000000 in
theorem termShifts_at (d e : Int) (v : Value) (T : Tm) (w : World) (hv : Has w v T) (hs : T.size ≤ 1000000000000) :
    Calls Try.prog 4 #[v, .int .i64 d, .int .i64 e] w fun r w' => r = .returned (.bool true) ∧ Below w.heap.size w w' := by
  obtain ⟨k, n, s, a, len, cap, ks, rfl, e', -⟩ := hv.form
  clear e'
  obtain ⟨w1, hw1⟩ : ∃ w1, w1 = w.alloc (.cells #[.int .i64 k, .int .i64 n, .string s, .slice a len cap] 24) := ⟨_, rfl⟩
  have hB1 : Below w.heap.size w w1 := by rw [hw1]; exact (Below.refl _ w).alloc (Nat.le_refl _) _
  have hx1 : w1.heap[w.heap.size]? = some (.cells #[.int .i64 k, .int .i64 n, .string s, .slice a len cap] 24 (0, 0)) := by rw [hw1]; exact World.alloc_heap_new _ _
  have H1 := Lib.hid (And.intro hw1 (And.intro hB1 hx1))
  clear hw1 hB1 hx1
  go_enter Try.func4, Try.ntmps4
  go_wp2_with fail
  rw [← H1.out.1]
  refine (shown_at w1).mono ?_
  rintro r w1' ⟨rfl, hb⟩
  have hB2 := H1.out.2.1.trans (hb.mono H1.out.2.1.size)
  have hx2 := tbox_below H1.out.2.2 hb
  have hT2 := Has.below hv hB2
  obtain ⟨x0, x1, x2, x3⟩ := tbox_cells hx2
  have H2 := Lib.hid (And.intro hB2 hx2)
  clear hb hB2 hx2 hv H1
  go_wp2_with fail
  refine (few_at _ T w1' hT2 hs).mono ?_
  rintro r w2 ⟨rfl, hb⟩
  by_cases hfew : T.size ≤ 3000
  case neg =>
    rw [decide_eq_false hfew]
    have hB3 := H2.out.1.trans (hb.mono H2.out.1.size)
    have H3 := Lib.hid hB3
    clear hb hB3 H2 hT2 x0 x1 x2 x3
    go_wp2_with fail
    go_ret
    exact ⟨rfl, H3.out⟩
  rw [decide_eq_true hfew]
  have hB3 := H2.out.1.trans (hb.mono H2.out.1.size)
  have hx3 := tbox_below H2.out.2 hb
  have hT3 := Has.below hT2 hb
  obtain ⟨y0, y1, y2, y3⟩ := tbox_cells hx3
  have H3 := Lib.hid (And.intro hB3 hx3)
  clear hb hB3 hx3 H2 hT2 x0 x1 x2 x3
  go_wp2_with fail
  refine (shift_at d T _ w2 hT3 hs).mono ?_
  intro r w3 h3
  obtain ⟨k2, n2, s2, a2, l2, c2, rfl, hX3, hb⟩ := h3.has
  obtain ⟨w4, hw4⟩ : ∃ w4, w4 = w3.alloc (.cells #[.int .i64 k2, .int .i64 n2, .string s2, .slice a2 l2 c2] 24) := ⟨_, rfl⟩
  have ha4 : Below w3.heap.size w3 w4 := by rw [hw4]; exact (Below.refl _ _).alloc (Nat.le_refl _) _
  have hX4 := Has.below hX3 ha4
  have hb24 := hb.trans (ha4.mono hb.size)
  have hT4 := Has.below hT3 hb24
  have hx4 := tbox_below H3.out.2 hb24
  have hz4 : w4.heap[w3.heap.size]? = some (.cells #[.int .i64 k2, .int .i64 n2, .string s2, .slice a2 l2 c2] 24 (0, 0)) := by rw [hw4]; exact World.alloc_heap_new _ _
  have H4 := Lib.hid (And.intro hw4 (And.intro (H3.out.1.trans (hb24.mono H3.out.1.size)) (And.intro hx4 hz4)))
  rw [hw4] at hx4
  obtain ⟨x0, x1, x2, x3⟩ := tbox_cells hx4
  clear h3 hb ha4 hb24 hx4 hz4 H3 hT3 hX3 hw4 y0 y1 y2 y3
  go_wp2_with fail
  rw [← H4.out.1]
  refine (vars_at _ T w4 hT4 hs).mono ?_
  rintro r w5 ⟨r5, rfl, hr5, hb⟩
  have hT5 := Has.below hT4 hb
  have hX5 := Has.below hX4 hb
  have hx5 := tbox_below H4.out.2.2.1 hb
  have hz5 := tbox_below H4.out.2.2.2 hb
  have H5 := Lib.hid (And.intro (H4.out.2.1.trans (hb.mono H4.out.2.1.size)) (And.intro hx5 hz5))
  obtain ⟨y0, y1, y2, y3⟩ := tbox_cells hz5
  clear hb hT4 hX4 hx5 hz5 H4 x0 x1 x2 x3
  go_wp2_with fail
  refine (vars_at _ (T.shift d) w5 hX5 (by rw [Tm.size_shift]; exact hs)).mono ?_
  rintro r w6 ⟨r6, rfl, hr6, hb⟩
  rw [vars_shift hT5] at hr6
  have hr5' := hr5.below hb
  have hT6 := Has.below hT5 hb
  have hX6 := Has.below hX5 hb
  have hx6 := tbox_below H5.out.2.1 hb
  have hz6 := tbox_below H5.out.2.2 hb
  have hB6 := H5.out.1.trans (hb.mono H5.out.1.size)
  have hVl : T.vars.length ≤ 3000 := by have := vars_len_le T; omega
  clear hb hT5 hX5 H5 hr5 y0 y1 y2 y3
  generalize hVV : T.vars = V at hr5' hr6 hVl
  clear hVV
  obtain ⟨a5, c5, rfl, p1, p2, p3, p4⟩ := hr5'
  obtain ⟨a6, c6, rfl, q1, q2, q3, q4⟩ := hr6
  simp only [List.length_map] at q1 q4 ⊢
  have hlt1 : w.heap.size < w6.heap.size := (Array.getElem?_eq_some_iff.1 hx6).1
  have hlt2 : w3.heap.size < w6.heap.size := (Array.getElem?_eq_some_iff.1 hz6).1
  obtain ⟨x0, x1, x2, x3⟩ := tbox_cells hx6
  obtain ⟨y0, y1, y2, y3⟩ := tbox_cells hz6
  have HS : ∀ w', Below w6.heap.size w6 w' → (w'.cell? ⟨w.heap.size, 0, none⟩ = some (.int .i64 k) ∧ w'.cell? ⟨w.heap.size, 1, none⟩ = some (.int .i64 n) ∧ w'.cell? ⟨w.heap.size, 2, none⟩ = some (.string s) ∧ w'.cell? ⟨w.heap.size, 3, none⟩ = some (.slice a len cap) ∧ w'.cell? ⟨w3.heap.size, 0, none⟩ = some (.int .i64 k2) ∧ w'.cell? ⟨w3.heap.size, 1, none⟩ = some (.int .i64 n2) ∧ w'.cell? ⟨w3.heap.size, 2, none⟩ = some (.string s2) ∧ w'.cell? ⟨w3.heap.size, 3, none⟩ = some (.slice a2 l2 c2) ∧ Below w6.heap.size w6 w') := fun w' hb =>
    ⟨(hb.cell (p := ⟨_, _, none⟩) hlt1).trans x0, (hb.cell (p := ⟨_, _, none⟩) hlt1).trans x1, (hb.cell (p := ⟨_, _, none⟩) hlt1).trans x2, (hb.cell (p := ⟨_, _, none⟩) hlt1).trans x3,
     (hb.cell (p := ⟨_, _, none⟩) hlt2).trans y0, (hb.cell (p := ⟨_, _, none⟩) hlt2).trans y1, (hb.cell (p := ⟨_, _, none⟩) hlt2).trans y2, (hb.cell (p := ⟨_, _, none⟩) hlt2).trans y3, hb⟩
  have hsh1 : ∀ w', Below w6.heap.size w6 w' → Calls Try.prog 23 #[.agg #[.int .i64 k2, .int .i64 n2, .string s2, .slice a2 l2 c2], .int .i64 e] w' fun r w'' => ∃ k7 n7 s7 a7 l7 c7, r = .returned (.agg #[.int .i64 k7, .int .i64 n7, .string s7, .slice a7 l7 c7]) ∧ Has w'' (.agg #[.int .i64 k7, .int .i64 n7, .string s7, .slice a7 l7 c7]) ((T.shift d).shift e) ∧ Below w6.heap.size w6 w'' := fun w' hb =>
    (shift_at e (T.shift d) _ w' (Has.below hX6 hb) (by rw [Tm.size_shift]; exact hs)).mono fun r w'' h => by
      obtain ⟨k7, n7, s7, a7, l7, c7, rfl, h7, hb7⟩ := h.has
      exact ⟨k7, n7, s7, a7, l7, c7, rfl, h7, hb.trans (hb7.mono hb.size)⟩
  have hsh2 : ∀ (w' : World) (u : Value), Below w6.heap.size w6 w' → Has w' u ((T.shift d).shift e) → Calls Try.prog 23 #[.agg #[.int .i64 k, .int .i64 n, .string s, .slice a len cap], .int .i64 (IntKind.i64.wrap (d + e))] w' fun r w'' => ∃ k8 n8 s8 a8 l8 c8, r = .returned (.agg #[.int .i64 k8, .int .i64 n8, .string s8, .slice a8 l8 c8]) ∧ Has w'' (.agg #[.int .i64 k8, .int .i64 n8, .string s8, .slice a8 l8 c8]) (T.shift (wrap64 (d + e))) ∧ Has w'' u ((T.shift d).shift e) ∧ Below w6.heap.size w6 w'' := fun w' u hb hu =>
    (show Calls Try.prog 23 #[.agg #[.int .i64 k, .int .i64 n, .string s, .slice a len cap], .int .i64 (IntKind.i64.wrap (d + e))] w' (NewTm w' (T.shift (wrap64 (d + e)))) by rw [wrapEq]; exact shift_at (wrap64 (d + e)) T _ w' (Has.below hT6 hb) hs).mono fun r w'' h => by
      obtain ⟨k7, n7, s7, a7, l7, c7, rfl, h7, hb7⟩ := h.has
      exact ⟨k7, n7, s7, a7, l7, c7, rfl, h7, Has.below hu hb7, hb.trans (hb7.mono hb.size)⟩
  have hsm : ∀ (w' : World) (u1 u2 : Value), Below w6.heap.size w6 w' → Has w' u1 ((T.shift d).shift e) → Has w' u2 (T.shift (wrap64 (d + e))) → Calls Try.prog 21 #[u1, u2] w' fun r w'' => r = .returned (.bool true) ∧ Below w6.heap.size w6 w'' := fun w' u1 u2 hb h1 h2 =>
    (same_at _ _ u1 u2 w' h1 h2 (by rw [Tm.size_shift, Tm.size_shift]; exact hs) (by rw [Tm.size_shift]; exact hs)).mono fun r w'' h => ⟨by rw [h.1, decide_eq_true (Tm.shift_shift d e T)], hb.trans (h.2.mono hb.size)⟩
  have H6 := Lib.hid (And.intro hB6 (And.intro hx6 (And.intro hz6 (And.intro hT6 hX6))))
  clear hB6 hx6 hz6 hT6 hX6 hlt1 hlt2
  have PQ := Lib.hid (And.intro p4 q4)
  clear p4 q4 p1 p2 p3 q1 q2 q3
  go_wp2_with fail
  clear x0 x1 x2 x3 y0 y1 y2 y3
  go_region_held3 (fun w' => w'.cell? ⟨w.heap.size, 0, none⟩ = some (.int .i64 k) ∧ w'.cell? ⟨w.heap.size, 1, none⟩ = some (.int .i64 n) ∧ w'.cell? ⟨w.heap.size, 2, none⟩ = some (.string s) ∧ w'.cell? ⟨w.heap.size, 3, none⟩ = some (.slice a len cap) ∧ w'.cell? ⟨w3.heap.size, 0, none⟩ = some (.int .i64 k2) ∧ w'.cell? ⟨w3.heap.size, 1, none⟩ = some (.int .i64 n2) ∧ w'.cell? ⟨w3.heap.size, 2, none⟩ = some (.string s2) ∧ w'.cell? ⟨w3.heap.size, 3, none⟩ = some (.slice a2 l2 c2) ∧ Below w6.heap.size w6 w')
    (first | exact HS _ (Below.refl _ _).drew | exact HS _ hb9 | exact HS _ hb8 | exact HS _ hb7)
    (first
      | (go_at_call 21; (with_reducible refine (hsm _ _ _ (by go_split_ands; assumption) h7' h8).mono ?_); rintro r w9 ⟨rfl, hb9⟩)
      | (go_at_call 23; (with_reducible refine (hsh1 _ (by go_split_ands; assumption)).mono ?_); rintro r w7 ⟨k7, n7, s7, a7, l7, c7, rfl, h7, hb7⟩)
      | (go_at_call 23; (with_reducible refine (hsh2 _ _ (by go_split_ands; assumption) h7).mono ?_); rintro r w8 ⟨k8, n8, s8, a8, l8, c8, rfl, h8, h7', hb8⟩))
  clear hsh1 hsh2 hsm h7 h7' h8 hb7 hb8
  have H9 := Lib.hid hb9
  clear hb9
  go_wp2_with fail
  go_loopw [11] (fun i wr => ∃ c : Nat, i = .int .i64 c ∧ c ≤ V.length ∧ Below w6.heap.size w6 wr) (fun i _ => V.length - (intOf i).toNat)
  case atStart => exact ⟨0, rfl, Nat.zero_le _, H9.out⟩
  case round =>
    obtain ⟨c, rfl, hcl, hB⟩ := hrel
    by_cases hlt : c < V.length
    · obtain ⟨b1, o1, rfl, hb1, d1⟩ := PQ.out.1 c hlt
      obtain ⟨b2, o2, rfl, hb2, d2⟩ := PQ.out.2 c hlt
      rw [List.getElem_map, ← wrapEq] at d2
      have g1 := (hB.cell (p := ⟨b1, o1 + c, none⟩) hb1).trans d1
      have g2 := (hB.cell (p := ⟨b2, o2 + c, none⟩) hb2).trans d2
      generalize V[c] = x at g1 g2
      have HB := Lib.hid hB
      clear d1 d2 hB HS
      go_wp2_with fail
      go_region
      go_wp2_with fail
      go_roundw
      case rel => exact ⟨c + 1, by simp, hlt, HB.out.drew⟩
      case measure => simp [intOf]; omega
    · have hce : c = V.length := by omega
      subst hce
      obtain ⟨hB6, hx6, hz6, hT6, hX6⟩ := H6.out
      have hsh3 : ∀ w', Below w6.heap.size w6 w' → Calls Try.prog 23 #[.agg #[.int .i64 k2, .int .i64 n2, .string s2, .slice a2 l2 c2], .int .i64 (IntKind.i64.wrap (-d))] w' fun r w'' => ∃ k7 n7 s7 a7 l7 c7, r = .returned (.agg #[.int .i64 k7, .int .i64 n7, .string s7, .slice a7 l7 c7]) ∧ Has w'' (.agg #[.int .i64 k7, .int .i64 n7, .string s7, .slice a7 l7 c7]) T ∧ Below w6.heap.size w6 w'' := fun w' hb =>
        (show Calls Try.prog 23 #[.agg #[.int .i64 k2, .int .i64 n2, .string s2, .slice a2 l2 c2], .int .i64 (IntKind.i64.wrap (-d))] w' (NewTm w' ((T.shift d).shift (wrap64 (-d)))) by rw [wrapEq]; exact shift_at (wrap64 (-d)) (T.shift d) _ w' (Has.below hX6 hb) (by rw [Tm.size_shift]; exact hs)).mono fun r w'' h => by
          obtain ⟨k7, n7, s7, a7, l7, c7, rfl, h7, hb7⟩ := h.has
          rw [Tm.shift_shift, wrap64_back, TmIn.shift_zero hT6] at h7
          exact ⟨k7, n7, s7, a7, l7, c7, rfl, h7, hb.trans (hb7.mono hb.size)⟩
      have hsm3 : ∀ (w' : World) (u1 : Value), Below w6.heap.size w6 w' → Has w' u1 T → Calls Try.prog 21 #[u1, .agg #[.int .i64 k, .int .i64 n, .string s, .slice a len cap]] w' fun r w'' => r = .returned (.bool true) ∧ Below w6.heap.size w6 w'' := fun w' u1 hb h1 =>
        (same_at _ _ u1 _ w' h1 (Has.below hT6 hb) hs hs).mono fun r w'' h => ⟨by rw [h.1, decide_eq_true rfl], hb.trans (h.2.mono hb.size)⟩
      have hs4 : T.size ≤ 4000000000000000000 := by omega
      obtain ⟨sz, hsz⟩ : ∃ sz, T.size = sz := ⟨_, rfl⟩
      obtain ⟨dp, hdp⟩ : ∃ dp, T.deep = dp := ⟨_, rfl⟩
      have hsz1 : ∀ w', Below w6.heap.size w6 w' → Calls Try.prog 14 #[.agg #[.int .i64 k2, .int .i64 n2, .string s2, .slice a2 l2 c2]] w' fun r w'' => r = .returned (.int .i64 (sz : Int)) ∧ Below w6.heap.size w6 w'' := fun w' hb =>
        (size_at _ (T.shift d) w' (Has.below hX6 hb) (by rw [Tm.size_shift]; exact hs4)).mono fun r w'' h => ⟨by rw [h.1, Tm.size_shift, hsz], hb.trans (h.2.mono hb.size)⟩
      have hsz2 : ∀ w', Below w6.heap.size w6 w' → Calls Try.prog 14 #[.agg #[.int .i64 k, .int .i64 n, .string s, .slice a len cap]] w' fun r w'' => r = .returned (.int .i64 (sz : Int)) ∧ Below w6.heap.size w6 w'' := fun w' hb =>
        (size_at _ T w' (Has.below hT6 hb) hs4).mono fun r w'' h => ⟨by rw [h.1, hsz], hb.trans (h.2.mono hb.size)⟩
      have hdp1 : ∀ w', Below w6.heap.size w6 w' → Calls Try.prog 16 #[.agg #[.int .i64 k2, .int .i64 n2, .string s2, .slice a2 l2 c2]] w' fun r w'' => r = .returned (.int .i64 (dp : Int)) ∧ Below w6.heap.size w6 w'' := fun w' hb =>
        (deep_at _ (T.shift d) w' (Has.below hX6 hb) (by rw [Tm.size_shift]; exact hs4)).mono fun r w'' h => ⟨by rw [h.1, Tm.deep_shift, hdp], hb.trans (h.2.mono hb.size)⟩
      have hdp2 : ∀ w', Below w6.heap.size w6 w' → Calls Try.prog 16 #[.agg #[.int .i64 k, .int .i64 n, .string s, .slice a len cap]] w' fun r w'' => r = .returned (.int .i64 (dp : Int)) ∧ Below w6.heap.size w6 w'' := fun w' hb =>
        (deep_at _ T w' (Has.below hT6 hb) hs4).mono fun r w'' h => ⟨by rw [h.1, hdp], hb.trans (h.2.mono hb.size)⟩
      have HB6 := Lib.hid hB6
      have HB := Lib.hid hB
      clear hB6 hx6 hz6 hT6 hX6 hs hs4 hsz hdp hB H6 PQ
      go_wp2_with fail
      go_region_held3 (fun w' => w'.cell? ⟨w.heap.size, 0, none⟩ = some (.int .i64 k) ∧ w'.cell? ⟨w.heap.size, 1, none⟩ = some (.int .i64 n) ∧ w'.cell? ⟨w.heap.size, 2, none⟩ = some (.string s) ∧ w'.cell? ⟨w.heap.size, 3, none⟩ = some (.slice a len cap) ∧ w'.cell? ⟨w3.heap.size, 0, none⟩ = some (.int .i64 k2) ∧ w'.cell? ⟨w3.heap.size, 1, none⟩ = some (.int .i64 n2) ∧ w'.cell? ⟨w3.heap.size, 2, none⟩ = some (.string s2) ∧ w'.cell? ⟨w3.heap.size, 3, none⟩ = some (.slice a2 l2 c2) ∧ Below w6.heap.size w6 w')
        (first | exact HS _ HB.out.drew | exact HS _ hb15 | exact HS _ hb14 | exact HS _ hb13 | exact HS _ hb12 | exact HS _ hb11 | exact HS _ hb10)
        (first
          | (go_at_call 23; (with_reducible refine (hsh3 _ (by go_split_ands; assumption)).mono ?_); rintro r w10 ⟨k7, n7, s7, a7, l7, c7, rfl, h7, hb10⟩)
          | (go_at_call 21; (with_reducible refine (hsm3 _ _ (by go_split_ands; assumption) h7).mono ?_); rintro r w11 ⟨rfl, hb11⟩)
          | (go_at_call 14; (with_reducible refine (hsz1 _ (by go_split_ands; assumption)).mono ?_); rintro r w12 ⟨rfl, hb12⟩)
          | (go_at_call 14; (with_reducible refine (hsz2 _ (by go_split_ands; assumption)).mono ?_); rintro r w13 ⟨rfl, hb13⟩)
          | (go_at_call 16; (with_reducible refine (hdp1 _ (by go_split_ands; assumption)).mono ?_); rintro r w14 ⟨rfl, hb14⟩)
          | (go_at_call 16; (with_reducible refine (hdp2 _ (by go_split_ands; assumption)).mono ?_); rintro r w15 ⟨rfl, hb15⟩))
      go_wp2_with fail
      go_ret
      exact ⟨rfl, HB6.out.trans (hb15.mono HB6.out.size)⟩

end Go.Proofs.Ytmbikojjhdildaa
