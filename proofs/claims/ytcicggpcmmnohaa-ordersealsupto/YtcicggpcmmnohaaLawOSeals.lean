/-
  The law OrderSeals: its walk.
-/
import Derived.Test.YtcicggpcmmnohaaOShow
namespace Go.Proofs.Ytcicggpcmmnohaa
open Go.RowKit Go.Shelf
open Classical
set_option linter.unusedVariables false

set_option maxRecDepth 100000 in
set_option maxHeartbeats 8000000 in
theorem orderSeals_at (u v : Value) (A B : Tm) (x y : Int) (w : World) (hu : Has w u A) (hv : Has w v B) (hs : A.size ≤ 1000000000000) (ht : B.size ≤ 1000000000000) (hx0 : 0 ≤ x) (hx1 : x ≤ 255) (hy0 : 0 ≤ y) (hy1 : y ≤ 255) :
    Calls Try.prog 9 #[u, v, .int .u8 x, .int .u8 y] w fun r w' => r = .returned (.bool true) ∧ Below w.heap.size w w' := by
  obtain ⟨k1, n1, s1, a1, l1, c1, ks1, rfl, e', -⟩ := hu.form
  obtain ⟨k2, n2, s2, a2, l2, c2, ks2, rfl, e'', -⟩ := hv.form
  clear e' e''
  obtain ⟨qa, hqa⟩ : ∃ qa, decide (A.size ≤ 500) = qa := ⟨_, rfl⟩
  obtain ⟨qb, hqb⟩ : ∃ qb, decide (B.size ≤ 500) = qb := ⟨_, rfl⟩
  obtain ⟨cv, hcv⟩ : ∃ c, A.er.cmp B.er = c := ⟨_, rfl⟩
  have Hqa := Lib.hid hqa
  have Hqb := Lib.hid hqb
  have Hcv := Lib.hid hcv
  have Hs := Lib.hid (And.intro hs ht)
  have fa : ∀ w', Has w' (.agg #[.int .i64 k1, .int .i64 n1, .string s1, .slice a1 l1 c1]) A → Calls Try.prog 11 #[.agg #[.int .i64 k1, .int .i64 n1, .string s1, .slice a1 l1 c1]] w' (Gets w' (.bool qa)) := fun w' h => by rw [← Hqa.out]; exact ofew_at _ A w' h Hs.out.1
  have fb : ∀ w', Has w' (.agg #[.int .i64 k2, .int .i64 n2, .string s2, .slice a2 l2 c2]) B → Calls Try.prog 11 #[.agg #[.int .i64 k2, .int .i64 n2, .string s2, .slice a2 l2 c2]] w' (Gets w' (.bool qb)) := fun w' h => by rw [← Hqb.out]; exact ofew_at _ B w' h Hs.out.2
  have cc : ∀ (U V : Tm) (u v : Value) (w' : World), U.er = A.er → V.er = B.er → U.size ≤ 1000000000000 → V.size ≤ 1000000000000 → Has w' u U → Has w' v V → Calls Try.prog 12 #[u, v] w' (Gets w' (.int .i64 cv)) := fun U V u v w' e1 e2 h1 h2 hu hv => by
    rw [← Hcv.out, ← e1, ← e2]; exact compare_at u v U V w' hu hv h1 h2
  have cz : ∀ (U V : Tm) (u v : Value) (w' : World), U.er = V.er → U.size ≤ 1000000000000 → V.size ≤ 1000000000000 → Has w' u U → Has w' v V → Calls Try.prog 12 #[u, v] w' (Gets w' (.int .i64 0)) := fun U V u v w' e h1 h2 hu hv => by
    have h := compare_at u v U V w' hu hv h1 h2
    rwa [e, Tm.cmp_self] at h
  clear hqa hqb hcv hs ht
  have HB1 := Lib.hid (show Below w.heap.size w ((w.alloc (.cells #[.int .i64 k1, .int .i64 n1, .string s1, .slice a1 l1 c1] 24)).alloc (.cells #[.int .i64 k2, .int .i64 n2, .string s2, .slice a2 l2 c2] 24)) from (((Below.refl _ w).alloc (Nat.le_refl _) _).alloc (by simp) _))
  have HX2 := Lib.hid (show ((w.alloc (.cells #[.int .i64 k1, .int .i64 n1, .string s1, .slice a1 l1 c1] 24)).alloc (.cells #[.int .i64 k2, .int .i64 n2, .string s2, .slice a2 l2 c2] 24)).heap[w.heap.size]? = some (.cells #[.int .i64 k1, .int .i64 n1, .string s1, .slice a1 l1 c1] 24 (0, 0)) from ((Below.heap_alloc _ _ _ (by simp)).trans (by simpa using World.alloc_heap_new w (.cells #[.int .i64 k1, .int .i64 n1, .string s1, .slice a1 l1 c1] 24))))
  have HT3 := Lib.hid (Has.below hu HB1.out)
  obtain ⟨p4_0, p4_1, p4_2, p4_3⟩ := tbox_cells HX2.out
  have HX5 := Lib.hid (show ((w.alloc (.cells #[.int .i64 k1, .int .i64 n1, .string s1, .slice a1 l1 c1] 24)).alloc (.cells #[.int .i64 k2, .int .i64 n2, .string s2, .slice a2 l2 c2] 24)).heap[w.heap.size + 1]? = some (.cells #[.int .i64 k2, .int .i64 n2, .string s2, .slice a2 l2 c2] 24 (0, 0)) from (by simpa using World.alloc_heap_new (w.alloc (.cells #[.int .i64 k1, .int .i64 n1, .string s1, .slice a1 l1 c1] 24)) (.cells #[.int .i64 k2, .int .i64 n2, .string s2, .slice a2 l2 c2] 24)))
  have HT6 := Lib.hid (Has.below hv HB1.out)
  obtain ⟨p7_0, p7_1, p7_2, p7_3⟩ := tbox_cells HX5.out
  clear hu hv
  go_enter Try.func9, Try.ntmps9
  go_wp2_with fail
  refine Calls.mono (oshown_at _) ?_
  rintro r w8 ⟨rfl, bw8⟩
  have st9 : Below ((w.alloc (.cells #[.int .i64 k1, .int .i64 n1, .string s1, .slice a1 l1 c1] 24)).alloc (.cells #[.int .i64 k2, .int .i64 n2, .string s2, .slice a2 l2 c2] 24)).heap.size ((w.alloc (.cells #[.int .i64 k1, .int .i64 n1, .string s1, .slice a1 l1 c1] 24)).alloc (.cells #[.int .i64 k2, .int .i64 n2, .string s2, .slice a2 l2 c2] 24)) w8 := bw8
  have HB10 := Lib.hid (HB1.out.trans (st9.mono HB1.out.size))
  have HX11 := Lib.hid (tbox_below HX2.out st9)
  have HX12 := Lib.hid (tbox_below HX5.out st9)
  have HT13 := Lib.hid (Has.below HT3.out st9)
  have HT14 := Lib.hid (Has.below HT6.out st9)
  clear p4_0 p4_1 p4_2 p4_3
  obtain ⟨p15_0, p15_1, p15_2, p15_3⟩ := tbox_cells HX11.out
  clear p7_0 p7_1 p7_2 p7_3
  obtain ⟨p16_0, p16_1, p16_2, p16_3⟩ := tbox_cells HX12.out
  clear st9 HB1 HX2 HX5 HT3 HT6
  clear bw8
  go_wp2_with fail
  refine Calls.mono (fa _ HT13.out) ?_
  rintro r w17 ⟨rfl, bw17⟩
  have st18 : Below w8.heap.size w8 w17 := bw17
  have HB19 := Lib.hid (HB10.out.trans (st18.mono HB10.out.size))
  have HX20 := Lib.hid (tbox_below HX11.out st18)
  have HX21 := Lib.hid (tbox_below HX12.out st18)
  have HT22 := Lib.hid (Has.below HT13.out st18)
  have HT23 := Lib.hid (Has.below HT14.out st18)
  clear p15_0 p15_1 p15_2 p15_3
  obtain ⟨p24_0, p24_1, p24_2, p24_3⟩ := tbox_cells HX20.out
  clear p16_0 p16_1 p16_2 p16_3
  obtain ⟨p25_0, p25_1, p25_2, p25_3⟩ := tbox_cells HX21.out
  clear st18 HB10 HX11 HX12 HT13 HT14
  clear bw17
  cases qa with
  | false =>
    go_wp2_with fail
    go_ret
    exact ⟨rfl, HB19.out⟩
  | true =>
    go_wp2_with fail
    refine Calls.mono (fb _ HT23.out) ?_
    rintro r w26 ⟨rfl, bw26⟩
    have st27 : Below w17.heap.size w17 w26 := bw26
    have HB28 := Lib.hid (HB19.out.trans (st27.mono HB19.out.size))
    have HX29 := Lib.hid (tbox_below HX20.out st27)
    have HX30 := Lib.hid (tbox_below HX21.out st27)
    have HT31 := Lib.hid (Has.below HT22.out st27)
    have HT32 := Lib.hid (Has.below HT23.out st27)
    clear p24_0 p24_1 p24_2 p24_3
    obtain ⟨p33_0, p33_1, p33_2, p33_3⟩ := tbox_cells HX29.out
    clear p25_0 p25_1 p25_2 p25_3
    obtain ⟨p34_0, p34_1, p34_2, p34_3⟩ := tbox_cells HX30.out
    clear st27 HB19 HX20 HX21 HT22 HT23
    clear bw26
    cases qb with
    | false =>
      go_wp2_with fail
      go_ret
      exact ⟨rfl, HB28.out⟩
    | true =>
      have hA := Lib.hid (of_decide_eq_true Hqa.out)
      have hB := Lib.hid (of_decide_eq_true Hqb.out)
      go_wp2_with fail
      refine Calls.mono (cc A B _ _ _ rfl rfl Hs.out.1 Hs.out.2 HT31.out HT32.out) ?_
      rintro r w35 ⟨rfl, bw35⟩
      have st36 : Below w26.heap.size w26 w35 := bw35
      have HB37 := Lib.hid (HB28.out.trans (st36.mono HB28.out.size))
      have HX38 := Lib.hid (tbox_below HX29.out st36)
      have HX39 := Lib.hid (tbox_below HX30.out st36)
      have HT40 := Lib.hid (Has.below HT31.out st36)
      have HT41 := Lib.hid (Has.below HT32.out st36)
      clear p33_0 p33_1 p33_2 p33_3
      obtain ⟨p42_0, p42_1, p42_2, p42_3⟩ := tbox_cells HX38.out
      clear p34_0 p34_1 p34_2 p34_3
      obtain ⟨p43_0, p43_1, p43_2, p43_3⟩ := tbox_cells HX39.out
      clear st36 HB28 HX29 HX30 HT31 HT32
      clear bw35
      obtain ⟨wz, hwz0⟩ : ∃ wz, wz = w35 := ⟨_, rfl⟩
      have hwz := Lib.hid hwz0
      clear hwz0
      have y0 : wz.heap[w.heap.size]? = some (.cells #[.int .i64 k1, .int .i64 n1, .string s1, .slice a1 l1 c1] 24 (0, 0)) := by rw [hwz.out]; exact HX38.out
      have lt0 := (Array.getElem?_eq_some_iff.1 y0).1
      obtain ⟨g0_0, g0_1, g0_2, g0_3⟩ := tbox_cells y0
      have y1 : wz.heap[w.heap.size + 1]? = some (.cells #[.int .i64 k2, .int .i64 n2, .string s2, .slice a2 l2 c2] 24 (0, 0)) := by rw [hwz.out]; exact HX39.out
      have lt1 := (Array.getElem?_eq_some_iff.1 y1).1
      obtain ⟨g1_0, g1_1, g1_2, g1_3⟩ := tbox_cells y1
      have z1 : Has wz (.agg #[.int .i64 k1, .int .i64 n1, .string s1, .slice a1 l1 c1]) A := by rw [hwz.out]; exact HT40.out
      have z2 : Has wz (.agg #[.int .i64 k2, .int .i64 n2, .string s2, .slice a2 l2 c2]) B := by rw [hwz.out]; exact HT41.out
      have HZ := Lib.hid (show Below w.heap.size w wz by rw [hwz.out]; exact HB37.out)
      have HS : ∀ w', Below wz.heap.size wz w' → (w'.cell? ⟨w.heap.size, 0, none⟩ = some (.int .i64 k1) ∧ w'.cell? ⟨w.heap.size, 1, none⟩ = some (.int .i64 n1) ∧ w'.cell? ⟨w.heap.size, 2, none⟩ = some (.string s1) ∧ w'.cell? ⟨w.heap.size, 3, none⟩ = some (.slice a1 l1 c1) ∧ w'.cell? ⟨w.heap.size + 1, 0, none⟩ = some (.int .i64 k2) ∧ w'.cell? ⟨w.heap.size + 1, 1, none⟩ = some (.int .i64 n2) ∧ w'.cell? ⟨w.heap.size + 1, 2, none⟩ = some (.string s2) ∧ w'.cell? ⟨w.heap.size + 1, 3, none⟩ = some (.slice a2 l2 c2) ∧ Below wz.heap.size wz w') := fun w' hb =>
        ⟨(hb.cell (p := ⟨_, _, none⟩) lt0).trans g0_0, (hb.cell (p := ⟨_, _, none⟩) lt0).trans g0_1, (hb.cell (p := ⟨_, _, none⟩) lt0).trans g0_2, (hb.cell (p := ⟨_, _, none⟩) lt0).trans g0_3, (hb.cell (p := ⟨_, _, none⟩) lt1).trans g1_0, (hb.cell (p := ⟨_, _, none⟩) lt1).trans g1_1, (hb.cell (p := ⟨_, _, none⟩) lt1).trans g1_2, (hb.cell (p := ⟨_, _, none⟩) lt1).trans g1_3, hb⟩
      have oQ := Lib.hid (show (putT A x).size ≤ 1000000000000 by have := hA.out; rw [put_size]; omega)
      have oQB := Lib.hid (show (putT B y).size ≤ 1000000000000 by have := hB.out; rw [put_size]; omega)
      have oE := Lib.hid (show A.er.size ≤ 1000000000000 by have := hA.out; have := A.er_size; omega)
      have eQ := Lib.hid (put_er A x)
      have eQB := Lib.hid (put_er B y)
      have ee := Lib.hid (Tm.er_er A)
      have ix := Lib.hid (show i64ok x from ⟨by omega, by omega⟩)
      have iy := Lib.hid (show i64ok y from ⟨by omega, by omega⟩)
      have hwx : IntKind.i64.wrap x = x := by rw [wrapEq]; exact wrap64_id ix.out
      have hwy : IntKind.i64.wrap y = y := by rw [wrapEq]; exact wrap64_id iy.out
      clear y0 lt0 g0_0 g0_1 g0_2 g0_3 y1 lt1 g1_0 g1_1 g1_2 g1_3 fa fb
      go_wp2_with fail
      rw [← hwz.out]
      go_region_held3 (fun w' => w'.cell? ⟨w.heap.size, 0, none⟩ = some (.int .i64 k1) ∧ w'.cell? ⟨w.heap.size, 1, none⟩ = some (.int .i64 n1) ∧ w'.cell? ⟨w.heap.size, 2, none⟩ = some (.string s1) ∧ w'.cell? ⟨w.heap.size, 3, none⟩ = some (.slice a1 l1 c1) ∧ w'.cell? ⟨w.heap.size + 1, 0, none⟩ = some (.int .i64 k2) ∧ w'.cell? ⟨w.heap.size + 1, 1, none⟩ = some (.int .i64 n2) ∧ w'.cell? ⟨w.heap.size + 1, 2, none⟩ = some (.string s2) ∧ w'.cell? ⟨w.heap.size + 1, 3, none⟩ = some (.slice a2 l2 c2) ∧ Below wz.heap.size wz w')
        (exact HS _ (by (repeat (first | with_reducible exact Below.refl _ _ | with_reducible apply below_al | with_reducible apply below_dr | ((with_reducible apply below_tr); (with_reducible assumption))))))
        (first
              | (go_at_call 12; (have hq := h9; clear hq); (with_reducible refine Calls.mono (cz (putT A x) A _ _ _ eQ.out oQ.out Hs.out.1 ?_ ?_) ?_); ((with_reducible refine Has.below h9 ?_); (repeat (first | with_reducible exact Below.refl _ _ | with_reducible apply below_al | with_reducible apply below_dr | ((with_reducible apply below_tr); (with_reducible assumption))))); ((with_reducible refine Has.below z1 ?_); (repeat (first | with_reducible exact Below.refl _ _ | with_reducible apply below_al | with_reducible apply below_dr | ((with_reducible apply below_tr); (with_reducible assumption))))); rintro r w10 ⟨rfl, b10⟩)
              | (go_at_call 28; (have hq := b8; clear hq); (with_reducible refine Calls.mono (put_at _ A x _ ix.out ?_ Hs.out.1) ?_); (skip; (with_reducible refine Has.below z1 ?_); (repeat (first | with_reducible exact Below.refl _ _ | with_reducible apply below_al | with_reducible apply below_dr | ((with_reducible apply below_tr); (with_reducible assumption))))); intro r w9 h9; obtain ⟨k9, n9, s9, a9, l9, c9, rfl, h9, b9⟩ := h9.has)
              | (go_at_call 12; (have hq := h7; clear hq); (with_reducible refine Calls.mono (cc A.er B _ _ _ ee.out rfl oE.out Hs.out.2 ?_ ?_) ?_); ((with_reducible refine Has.below h7 ?_); (repeat (first | with_reducible exact Below.refl _ _ | with_reducible apply below_al | with_reducible apply below_dr | ((with_reducible apply below_tr); (with_reducible assumption))))); ((with_reducible refine Has.below z2 ?_); (repeat (first | with_reducible exact Below.refl _ _ | with_reducible apply below_al | with_reducible apply below_dr | ((with_reducible apply below_tr); (with_reducible assumption))))); rintro r w8 ⟨rfl, b8⟩)
              | (go_at_call 19; (with_reducible refine Calls.mono (erase_at _ A _ ?_ Hs.out.1) ?_); ((with_reducible refine Has.below z1 ?_); (repeat (first | with_reducible exact Below.refl _ _ | with_reducible apply below_al | with_reducible apply below_dr | ((with_reducible apply below_tr); (with_reducible assumption))))); intro r w7 h7; obtain ⟨k7, n7, s7, a7, l7, c7, rfl, h7, b7⟩ := h7.has)
              | (go_at_call 12; (have hq := h5; clear hq); (with_reducible refine Calls.mono (cc A (putT B y) _ _ _ rfl eQB.out Hs.out.1 oQB.out ?_ ?_) ?_); ((with_reducible refine Has.below z1 ?_); (repeat (first | with_reducible exact Below.refl _ _ | with_reducible apply below_al | with_reducible apply below_dr | ((with_reducible apply below_tr); (with_reducible assumption))))); ((with_reducible refine Has.below h5 ?_); (repeat (first | with_reducible exact Below.refl _ _ | with_reducible apply below_al | with_reducible apply below_dr | ((with_reducible apply below_tr); (with_reducible assumption))))); rintro r w6 ⟨rfl, b6⟩)
              | (go_at_call 28; (have hq := b4; clear hq); (with_reducible refine Calls.mono (put_at _ B y _ iy.out ?_ Hs.out.2) ?_); (skip; (with_reducible refine Has.below z2 ?_); (repeat (first | with_reducible exact Below.refl _ _ | with_reducible apply below_al | with_reducible apply below_dr | ((with_reducible apply below_tr); (with_reducible assumption))))); intro r w5 h5; obtain ⟨k5, n5, s5, a5, l5, c5, rfl, h5, b5⟩ := h5.has)
              | (go_at_call 12; (have hq := h3; clear hq); (with_reducible refine Calls.mono (cc (putT A x) B _ _ _ eQ.out rfl oQ.out Hs.out.2 ?_ ?_) ?_); ((with_reducible refine Has.below h3 ?_); (repeat (first | with_reducible exact Below.refl _ _ | with_reducible apply below_al | with_reducible apply below_dr | ((with_reducible apply below_tr); (with_reducible assumption))))); ((with_reducible refine Has.below z2 ?_); (repeat (first | with_reducible exact Below.refl _ _ | with_reducible apply below_al | with_reducible apply below_dr | ((with_reducible apply below_tr); (with_reducible assumption))))); rintro r w4 ⟨rfl, b4⟩)
              | (go_at_call 28; (with_reducible refine Calls.mono (put_at _ A x _ ix.out ?_ Hs.out.1) ?_); (skip; (with_reducible refine Has.below z1 ?_); (repeat (first | with_reducible exact Below.refl _ _ | with_reducible apply below_al | with_reducible apply below_dr | ((with_reducible apply below_tr); (with_reducible assumption))))); intro r w3 h3; obtain ⟨k3, n3, s3, a3, l3, c3, rfl, h3, b3⟩ := h3.has))
      all_goals
        go_wp2_with fail
        go_ret
        exact ⟨rfl, below_tr (by (repeat (first | with_reducible exact Below.refl _ _ | with_reducible apply below_al | with_reducible apply below_dr | ((with_reducible apply below_tr); (with_reducible assumption))))) HZ.out⟩

end Go.Proofs.Ytcicggpcmmnohaa
