/-
  The law TermParts: its walk.
-/
import Derived.Test.YtllggpmmcamkmaaRefE
import Derived.Test.YtllggpmmcamkmaaShiftsM
namespace Go.Proofs.Ytllggpmmcamkmaa
open Go.RowKit Go.Shelf
open Classical
set_option linter.unusedVariables false

theorem check_bounds (L : Int) (T : Tm) : 0 ≤ T.check L ∧ T.check L ≤ 7 := by
  unfold Tm.check
  split
  · decide
  · split
    · decide
    · split <;> decide

set_option maxRecDepth 100000 in
set_option maxHeartbeats 8000000 in
theorem termParts_at (u v : Value) (A B : Tm) (L d : Int) (w : World) (hu : Has w u A) (hv : Has w v B) (hs : A.size ≤ 1000000000000) (ht : B.size ≤ 1000000000000) :
    Calls Try.prog 3 #[u, v, .int .i64 L, .int .i64 d] w fun r w' => r = .returned (.bool true) ∧ Below w.heap.size w w' := by
  obtain ⟨k, n, s, a, len, cap, ks, rfl, e', -⟩ := hu.form
  obtain ⟨k', n', s', a', len', cap', ks', rfl, e'', -⟩ := hv.form
  clear e' e''
  obtain ⟨w1, hw1⟩ : ∃ w1, w1 = (w.alloc (.cells #[.int .i64 k, .int .i64 n, .string s, .slice a len cap] 24)).alloc (.cells #[.int .i64 k', .int .i64 n', .string s', .slice a' len' cap'] 24) := ⟨_, rfl⟩
  have hB1 : Below w.heap.size w w1 := by rw [hw1]; exact ((Below.refl _ w).alloc (Nat.le_refl _) _).alloc (by simp) _
  have hx1 : w1.heap[w.heap.size]? = some (.cells #[.int .i64 k, .int .i64 n, .string s, .slice a len cap] 24 (0, 0)) := by rw [hw1]; exact (Below.heap_alloc _ _ _ (by simp)).trans (World.alloc_heap_new _ _)
  have hy1 : w1.heap[w.heap.size + 1]? = some (.cells #[.int .i64 k', .int .i64 n', .string s', .slice a' len' cap'] 24 (0, 0)) := by rw [hw1]; simpa using World.alloc_heap_new (w.alloc (.cells #[.int .i64 k, .int .i64 n, .string s, .slice a len cap] 24)) (.cells #[.int .i64 k', .int .i64 n', .string s', .slice a' len' cap'] 24)
  have H1 := Lib.hid (And.intro hw1 (And.intro hB1 (And.intro hx1 hy1)))
  clear hw1 hB1 hx1 hy1
  go_enter Try.func3, Try.ntmps3
  go_wp2_with fail
  rw [← H1.out.1]
  refine (shown_at w1).mono ?_
  rintro r w2 ⟨rfl, hb⟩
  have H2 := Lib.hid (And.intro (H1.out.2.1.trans (hb.mono H1.out.2.1.size)) (And.intro (tbox_below H1.out.2.2.1 hb) (tbox_below H1.out.2.2.2 hb)))
  obtain ⟨x0, x1, x2, x3⟩ := tbox_cells H2.out.2.1
  have hA2 := Has.below hu H2.out.1
  have hB2 := Has.below hv H2.out.1
  clear hb H1 hu hv
  go_wp2_with fail
  refine (few_at _ A w2 hA2 hs).mono ?_
  rintro r w3 ⟨rfl, hb⟩
  have H3 := Lib.hid (And.intro (H2.out.1.trans (hb.mono H2.out.1.size)) (And.intro (tbox_below H2.out.2.1 hb) (tbox_below H2.out.2.2 hb)))
  have hA3 := Has.below hA2 hb
  have hB3 := Has.below hB2 hb
  clear hb H2 hA2 hB2 x0 x1 x2 x3
  by_cases hfew : A.size ≤ 3000
  case neg =>
    rw [decide_eq_false hfew]
    clear hA3 hB3
    go_wp2_with fail
    go_ret
    exact ⟨rfl, H3.out.1⟩
  rw [decide_eq_true hfew]
  obtain ⟨x0, x1, x2, x3⟩ := tbox_cells H3.out.2.2
  go_wp2_with fail
  refine (few_at _ B w3 hB3 ht).mono ?_
  rintro r w4 ⟨rfl, hb⟩
  have H4 := Lib.hid (And.intro (H3.out.1.trans (hb.mono H3.out.1.size)) (And.intro (tbox_below H3.out.2.1 hb) (tbox_below H3.out.2.2 hb)))
  have hA4 := Has.below hA3 hb
  have hB4 := Has.below hB3 hb
  clear hb H3 hA3 hB3 x0 x1 x2 x3
  by_cases hfew2 : B.size ≤ 3000
  case neg =>
    rw [decide_eq_false hfew2]
    clear hA4 hB4
    go_wp2_with fail
    go_ret
    exact ⟨rfl, H4.out.1⟩
  rw [decide_eq_true hfew2]
  obtain ⟨x0, x1, x2, x3⟩ := tbox_cells H4.out.2.1
  obtain ⟨y0, y1, y2, y3⟩ := tbox_cells H4.out.2.2
  have hl2 : w.heap.size < w4.heap.size := (Array.getElem?_eq_some_iff.1 H4.out.2.1).1
  have hl3 : w.heap.size + 1 < w4.heap.size := (Array.getElem?_eq_some_iff.1 H4.out.2.2).1
  have HS : ∀ w', Below w4.heap.size w4 w' → (w'.cell? ⟨w.heap.size, 0, none⟩ = some (.int .i64 k) ∧ w'.cell? ⟨w.heap.size, 1, none⟩ = some (.int .i64 n) ∧ w'.cell? ⟨w.heap.size, 2, none⟩ = some (.string s) ∧ w'.cell? ⟨w.heap.size, 3, none⟩ = some (.slice a len cap) ∧ w'.cell? ⟨w.heap.size + 1, 0, none⟩ = some (.int .i64 k') ∧ w'.cell? ⟨w.heap.size + 1, 1, none⟩ = some (.int .i64 n') ∧ w'.cell? ⟨w.heap.size + 1, 2, none⟩ = some (.string s') ∧ w'.cell? ⟨w.heap.size + 1, 3, none⟩ = some (.slice a' len' cap') ∧ Below w4.heap.size w4 w') := fun w' hb =>
    ⟨(hb.cell (p := ⟨_, _, none⟩) hl2).trans x0, (hb.cell (p := ⟨_, _, none⟩) hl2).trans x1, (hb.cell (p := ⟨_, _, none⟩) hl2).trans x2, (hb.cell (p := ⟨_, _, none⟩) hl2).trans x3, (hb.cell (p := ⟨_, _, none⟩) hl3).trans y0, (hb.cell (p := ⟨_, _, none⟩) hl3).trans y1, (hb.cell (p := ⟨_, _, none⟩) hl3).trans y2, (hb.cell (p := ⟨_, _, none⟩) hl3).trans y3, hb⟩
  obtain ⟨ck, hck⟩ : ∃ ck, A.check L = ck := ⟨_, rfl⟩
  obtain ⟨sz, hsz⟩ : ∃ sz, A.size = sz := ⟨_, rfl⟩
  obtain ⟨dp, hdp⟩ : ∃ dp, A.deep = dp := ⟨_, rfl⟩
  obtain ⟨V, hV⟩ : ∃ V, A.vars = V := ⟨_, rfl⟩
  obtain ⟨q, hq⟩ : ∃ q : Bool, decide (A = B) = q := ⟨_, rfl⟩
  have hck0 : 0 ≤ ck := by rw [← hck]; exact (check_bounds L A).1
  have hck7 : ck ≤ 7 := by rw [← hck]; exact (check_bounds L A).2
  have hVl : V.length ≤ 1000000000000 := by
    rw [← hV]
    have h := foldl_len_le (A.parts 1) []
    rw [Tm.parts_length] at h
    have e : A.vars = (A.parts 1).foldl addV [] := rfl
    rw [e]; simp at h; omega
  have hSs : (A.shift d).size ≤ 1000000000000 := by rw [Tm.size_shift]; omega
  have ckt : ∀ w', Below w4.heap.size w4 w' → Calls Try.prog 12 #[.agg #[.int .i64 k, .int .i64 n, .string s, .slice a len cap], .int .i64 L] w' fun r w'' => r = .returned (.int .i64 ck) ∧ Below w4.heap.size w4 w'' := fun w' hb =>
    (check_at _ A L w' (hA4.below hb) (by omega)).mono fun r w'' h => ⟨by rw [h.1, hck], hb.trans (h.2.mono hb.size)⟩
  have ckr : ∀ w', Below w4.heap.size w4 w' → Calls Try.prog 13 #[.agg #[.int .i64 k, .int .i64 n, .string s, .slice a len cap], .int .i64 L] w' fun r w'' => r = .returned (.int .i64 ck) ∧ Below w4.heap.size w4 w'' := fun w' hb =>
    (rcheck_at _ A L w' (hA4.below hb) (by omega)).mono fun r w'' h => ⟨by rw [h.1, hck], hb.trans (h.2.mono hb.size)⟩
  have szt : ∀ w', Below w4.heap.size w4 w' → Calls Try.prog 14 #[.agg #[.int .i64 k, .int .i64 n, .string s, .slice a len cap]] w' fun r w'' => r = .returned (.int .i64 (sz : Int)) ∧ Below w4.heap.size w4 w'' := fun w' hb =>
    (size_at _ A w' (hA4.below hb) (by omega)).mono fun r w'' h => ⟨by rw [h.1, hsz], hb.trans (h.2.mono hb.size)⟩
  have szr : ∀ w', Below w4.heap.size w4 w' → Calls Try.prog 15 #[.agg #[.int .i64 k, .int .i64 n, .string s, .slice a len cap]] w' fun r w'' => r = .returned (.int .i64 (sz : Int)) ∧ Below w4.heap.size w4 w'' := fun w' hb =>
    (rsize_at A _ w' (hA4.below hb) (by omega)).mono fun r w'' h => ⟨by rw [h.1, hsz], hb.trans (h.2.mono hb.size)⟩
  have dpt : ∀ w', Below w4.heap.size w4 w' → Calls Try.prog 16 #[.agg #[.int .i64 k, .int .i64 n, .string s, .slice a len cap]] w' fun r w'' => r = .returned (.int .i64 (dp : Int)) ∧ Below w4.heap.size w4 w'' := fun w' hb =>
    (deep_at _ A w' (hA4.below hb) (by omega)).mono fun r w'' h => ⟨by rw [h.1, hdp], hb.trans (h.2.mono hb.size)⟩
  have dpr : ∀ w', Below w4.heap.size w4 w' → Calls Try.prog 17 #[.agg #[.int .i64 k, .int .i64 n, .string s, .slice a len cap]] w' fun r w'' => r = .returned (.int .i64 (dp : Int)) ∧ Below w4.heap.size w4 w'' := fun w' hb =>
    (rdeep_at A _ w' (hA4.below hb) (by omega)).mono fun r w'' h => ⟨by rw [h.1, hdp], hb.trans (h.2.mono hb.size)⟩
  have vrt : ∀ w', Below w4.heap.size w4 w' → Calls Try.prog 19 #[.agg #[.int .i64 k, .int .i64 n, .string s, .slice a len cap]] w' fun r w'' => ∃ a5 c5, r = .returned (.slice a5 V.length c5) ∧ IntsAt w'' (.slice a5 V.length c5) V ∧ Below w4.heap.size w4 w'' := fun w' hb =>
    (vars_at _ A w' (hA4.below hb) (by omega)).mono fun r w'' h => by
      obtain ⟨r, rfl, hr, hb'⟩ := h
      rw [hV] at hr
      obtain ⟨a5, c5, e5, _⟩ := id hr
      subst e5
      exact ⟨a5, c5, rfl, hr, hb.trans (hb'.mono hb.size)⟩
  have vrr : ∀ w' x, Below w4.heap.size w4 w' → IntsAt w' x V → Calls Try.prog 20 #[.agg #[.int .i64 k, .int .i64 n, .string s, .slice a len cap]] w' fun r w'' => ∃ a6 c6, r = .returned (.slice a6 V.length c6) ∧ IntsAt w'' (.slice a6 V.length c6) V ∧ IntsAt w'' x V ∧ Below w4.heap.size w4 w'' := fun w' x hb hx =>
    (rvars_at _ A w' (hA4.below hb) (by omega)).mono fun r w'' h => by
      obtain ⟨a6, c6, rfl, hr, hb'⟩ := h
      rw [hV] at hr
      exact ⟨a6, c6, by rw [hV], hr, hx.below hb', hb.trans (hb'.mono hb.size)⟩
  have ing : ∀ w' x y, Below w4.heap.size w4 w' → IntsAt w' x V → IntsAt w' y V → Calls Try.prog 18 #[x, y] w' fun r w'' => r = .returned (.bool true) ∧ Below w4.heap.size w4 w'' := fun w' x y hb hx hy =>
    (ints_at x y V V w' hx hy hVl hVl).mono fun r w'' h => ⟨by rw [h.1, decide_eq_true rfl], hb.trans (h.2.mono hb.size)⟩
  have smt : ∀ w', Below w4.heap.size w4 w' → Calls Try.prog 21 #[.agg #[.int .i64 k, .int .i64 n, .string s, .slice a len cap], .agg #[.int .i64 k', .int .i64 n', .string s', .slice a' len' cap']] w' fun r w'' => r = .returned (.bool q) ∧ Below w4.heap.size w4 w'' := fun w' hb =>
    (same_at A B _ _ w' (hA4.below hb) (hB4.below hb) hs ht).mono fun r w'' h => ⟨by rw [h.1, ← hq], hb.trans (h.2.mono hb.size)⟩
  have smr : ∀ w', Below w4.heap.size w4 w' → Calls Try.prog 22 #[.agg #[.int .i64 k, .int .i64 n, .string s, .slice a len cap], .agg #[.int .i64 k', .int .i64 n', .string s', .slice a' len' cap']] w' fun r w'' => r = .returned (.bool q) ∧ Below w4.heap.size w4 w'' := fun w' hb =>
    (rsame_at A B _ _ w' (hA4.below hb) (hB4.below hb) hs ht).mono fun r w'' h => ⟨by rw [h.1, ← hq], hb.trans (h.2.mono hb.size)⟩
  have sht : ∀ w', Below w4.heap.size w4 w' → Calls Try.prog 23 #[.agg #[.int .i64 k, .int .i64 n, .string s, .slice a len cap], .int .i64 d] w' fun r w'' => ∃ k5 n5 s5 a5 l5 c5, r = .returned (.agg #[.int .i64 k5, .int .i64 n5, .string s5, .slice a5 l5 c5]) ∧ Has w'' (.agg #[.int .i64 k5, .int .i64 n5, .string s5, .slice a5 l5 c5]) (A.shift d) ∧ Below w4.heap.size w4 w'' := fun w' hb =>
    (shift_at d A _ w' (hA4.below hb) (by omega)).mono fun r w'' h => by
      obtain ⟨r, rfl, hr, hb'⟩ := h
      obtain ⟨k5, n5, s5, a5, l5, c5, ks5, rfl, -⟩ := hr.form
      exact ⟨k5, n5, s5, a5, l5, c5, rfl, hr.carry (fun _ _ => rfl) (fun b hb => hb.2), hb.trans (hb'.mono hb.size)⟩
  have shr : ∀ w' x, Below w4.heap.size w4 w' → Has w' x (A.shift d) → Calls Try.prog 24 #[.agg #[.int .i64 k, .int .i64 n, .string s, .slice a len cap], .int .i64 d] w' fun r w'' => ∃ k6 n6 s6 a6 l6 c6, r = .returned (.agg #[.int .i64 k6, .int .i64 n6, .string s6, .slice a6 l6 c6]) ∧ Has w'' (.agg #[.int .i64 k6, .int .i64 n6, .string s6, .slice a6 l6 c6]) (A.shift d) ∧ Has w'' x (A.shift d) ∧ Below w4.heap.size w4 w'' := fun w' x hb hx =>
    (rshift_at d A _ w' (hA4.below hb) (by omega)).mono fun r w'' h => by
      obtain ⟨r, rfl, hr, hb'⟩ := h
      obtain ⟨k5, n5, s5, a5, l5, c5, ks5, rfl, -⟩ := hr.form
      exact ⟨k5, n5, s5, a5, l5, c5, rfl, hr.carry (fun _ _ => rfl) (fun b hb => hb.2), Has.below hx hb', hb.trans (hb'.mono hb.size)⟩
  have sms : ∀ w' x y, Below w4.heap.size w4 w' → Has w' x (A.shift d) → Has w' y (A.shift d) → Calls Try.prog 22 #[x, y] w' fun r w'' => r = .returned (.bool true) ∧ Below w4.heap.size w4 w'' := fun w' x y hb hx hy =>
    (rsame_at _ _ x y w' hx hy hSs hSs).mono fun r w'' h => ⟨by rw [h.1, decide_eq_true rfl], hb.trans (h.2.mono hb.size)⟩
  have HB4 := Lib.hid H4.out.1
  clear hA4 hB4 hs ht hfew hfew2 hck hsz hdp hV hq hVl hSs x0 x1 x2 x3 y0 y1 y2 y3 hl2 hl3 H4
  go_wp2_with fail
  go_region_held3 (fun w' => w'.cell? ⟨w.heap.size, 0, none⟩ = some (.int .i64 k) ∧ w'.cell? ⟨w.heap.size, 1, none⟩ = some (.int .i64 n) ∧ w'.cell? ⟨w.heap.size, 2, none⟩ = some (.string s) ∧ w'.cell? ⟨w.heap.size, 3, none⟩ = some (.slice a len cap) ∧ w'.cell? ⟨w.heap.size + 1, 0, none⟩ = some (.int .i64 k') ∧ w'.cell? ⟨w.heap.size + 1, 1, none⟩ = some (.int .i64 n') ∧ w'.cell? ⟨w.heap.size + 1, 2, none⟩ = some (.string s') ∧ w'.cell? ⟨w.heap.size + 1, 3, none⟩ = some (.slice a' len' cap') ∧ Below w4.heap.size w4 w')
    (first | exact HS _ (Below.refl _ _).drew | exact HS _ hb14 | exact HS _ hb13 | exact HS _ hb12 | exact HS _ hb11 | exact HS _ hb10 | exact HS _ hb9 | exact HS _ hb8 | exact HS _ hb7 | exact HS _ hb6 | exact HS _ hb5 | exact HS _ hb4 | exact HS _ hb3 | exact HS _ hb2 | exact HS _ hb1)
    (first
      | (go_at_call 12; (with_reducible refine (ckt _ (by go_split_ands; assumption)).mono ?_); rintro r wa ⟨rfl, hb1⟩)
      | (go_at_call 13; (with_reducible refine (ckr _ (by go_split_ands; assumption)).mono ?_); rintro r wb ⟨rfl, hb2⟩)
      | (go_at_call 14; (with_reducible refine (szt _ (by go_split_ands; assumption)).mono ?_); rintro r wc ⟨rfl, hb3⟩)
      | (go_at_call 15; (with_reducible refine (szr _ (by go_split_ands; assumption)).mono ?_); rintro r wd ⟨rfl, hb4⟩)
      | (go_at_call 16; (with_reducible refine (dpt _ (by go_split_ands; assumption)).mono ?_); rintro r we ⟨rfl, hb5⟩)
      | (go_at_call 17; (with_reducible refine (dpr _ (by go_split_ands; assumption)).mono ?_); rintro r wf ⟨rfl, hb6⟩)
      | (go_at_call 19; (with_reducible refine (vrt _ (by go_split_ands; assumption)).mono ?_); rintro r wg ⟨a5, c5, rfl, hi5, hb7⟩)
      | (go_at_call 20; (with_reducible refine (vrr _ _ (by go_split_ands; assumption) hi5).mono ?_); rintro r wh ⟨a6, c6, rfl, hi6, hi7, hb8⟩)
      | (go_at_call 18; (with_reducible refine (ing _ _ _ (by go_split_ands; assumption) hi7 hi6).mono ?_); rintro r wi ⟨rfl, hb9⟩)
      | (go_at_call 21; (with_reducible refine (smt _ (by go_split_ands; assumption)).mono ?_); rintro r wj ⟨rfl, hb10⟩)
      | (go_at_call 22; (with_reducible refine (smr _ (by go_split_ands; assumption)).mono ?_); rintro r wk ⟨rfl, hb11⟩)
      | (go_at_call 23; (with_reducible refine (sht _ (by go_split_ands; assumption)).mono ?_); rintro r wl ⟨k7, n7, s7, a7, l7, c7, rfl, hh7, hb12⟩)
      | (go_at_call 24; (with_reducible refine (shr _ _ (by go_split_ands; assumption) hh7).mono ?_); rintro r wm ⟨k8, n8, s8, a8, l8, c8, rfl, hh8, hh9, hb13⟩)
      | (go_at_call 22; (with_reducible refine (sms _ _ _ (by go_split_ands; assumption) hh9 hh8).mono ?_); rintro r wn ⟨rfl, hb14⟩))
  clear ckt ckr szt szr dpt dpr vrt vrr ing smt smr sht shr sms HS
  go_wp2_with fail
  go_ret
  exact ⟨rfl, HB4.out.trans (hb14.mono HB4.out.size)⟩

end Go.Proofs.Ytllggpmmcamkmaa
