/-
  The law SealErases: its walk.
-/
import Derived.Test.YtllggpmmcamkmaaSLaw0
namespace Go.Proofs.Ytllggpmmcamkmaa
open Go.RowKit Go.Shelf
open Classical
set_option linter.unusedVariables false

theorem wrapEq (x : Int) : IntKind.i64.wrap x = wrap64 x := by rw [IntKind.wrap_i64]; simp only [wrap64]
theorem two_at {X W : World} {B : Nat} {k1 n1 k2 n2 : Int} {s1 s2 : ByteArray} {a1 a2 : Option Addr} {l1 c1 l2 c2 : Nat} {T1 T2 : Tm} (e : X.heap.size = B) (h1 : Has X (.agg #[.int .i64 k1, .int .i64 n1, .string s1, .slice a1 l1 c1]) T1) (h2 : Has X (.agg #[.int .i64 k2, .int .i64 n2, .string s2, .slice a2 l2 c2]) T2)
    (k : Below (X.alloc (.cells #[.int .i64 k1, .int .i64 n1, .string s1, .slice a1 l1 c1, .int .i64 k2, .int .i64 n2, .string s2, .slice a2 l2 c2] 24)).heap.size (X.alloc (.cells #[.int .i64 k1, .int .i64 n1, .string s1, .slice a1 l1 c1, .int .i64 k2, .int .i64 n2, .string s2, .slice a2 l2 c2] 24)) W) :
    HasTs W (.slice (some ⟨B, 0, none⟩) 2 2) [T1, T2] := by
  subst e
  exact HasTs.below (two_terms h1 h2) k

def pairF (A B : Tm) : Tm := .mk 3 0 (ByteArray.mk #[102]) [A, B]
theorem pairF_size (A B : Tm) : (pairF A B).size = A.size + B.size + 1 := by rw [pairF, Tm.size_mk, Tm.sizes_cons, Tm.sizes_cons, Tm.sizes_nil]; omega
theorem pairF_at (v : Value) (A B : Tm) (w : World) (hv : HasTs w v [A, B]) (hs : A.size + B.size ≤ 1000000000) : Calls Try.prog 39 #[.string (ByteArray.mk #[102]), v] w (NewTm w (pairF A B)) :=
  make_at _ v [A, B] w (by unfold maxLen; decide) hv (by rw [Tm.sizes_cons, Tm.sizes_cons, Tm.sizes_nil]; omega)
theorem pairF_er (A B : Tm) : (pairF A B).er = pairF A.er B.er := by
  unfold pairF
  rw [Tm.er_else (fun e => absurd e.1 (by decide))]
  rfl
theorem put_er (A : Tm) (l : Int) : (putT A l).er = A.er := Tm.er_wraps l _ A
theorem put_size (A : Tm) (l : Int) : (putT A l).size = A.size + 1 := by rw [putT, Tm.size_mk, Tm.sizes_cons, Tm.sizes_nil]; omega

set_option maxRecDepth 100000 in
set_option maxHeartbeats 8000000 in
theorem sealErases_at (u v : Value) (A B : Tm) (x : Int) (w : World) (hu : Has w u A) (hv : Has w v B) (hs : A.size ≤ 1000000000000) (ht : B.size ≤ 1000000000000) (hx0 : 0 ≤ x) (hx1 : x ≤ 255) :
    Calls Try.prog 8 #[u, v, .int .u8 x] w fun r w' => r = .returned (.bool true) ∧ Below w.heap.size w w' := by
  obtain ⟨k1, n1, s1, a1, l1, c1, ks1, rfl, e', -⟩ := hu.form
  obtain ⟨k2, n2, s2, a2, l2, c2, ks2, rfl, e'', -⟩ := hv.form
  clear e' e''
  obtain ⟨qa, hqa⟩ : ∃ qa, decide (A.size ≤ 2000) = qa := ⟨_, rfl⟩
  obtain ⟨qb, hqb⟩ : ∃ qb, decide (B.size ≤ 2000) = qb := ⟨_, rfl⟩
  have Hqa := Lib.hid hqa
  have Hqb := Lib.hid hqb
  have Hs := Lib.hid (And.intro hs ht)
  have fa : ∀ w', Has w' (.agg #[.int .i64 k1, .int .i64 n1, .string s1, .slice a1 l1 c1]) A → Calls Try.prog 27 #[.agg #[.int .i64 k1, .int .i64 n1, .string s1, .slice a1 l1 c1]] w' (Gets w' (.bool qa)) := fun w' h => by rw [← Hqa.out]; exact sfew_at _ A w' h Hs.out.1
  have fb : ∀ w', Has w' (.agg #[.int .i64 k2, .int .i64 n2, .string s2, .slice a2 l2 c2]) B → Calls Try.prog 27 #[.agg #[.int .i64 k2, .int .i64 n2, .string s2, .slice a2 l2 c2]] w' (Gets w' (.bool qb)) := fun w' h => by rw [← Hqb.out]; exact sfew_at _ B w' h Hs.out.2
  clear hqa hqb hs ht
  have HB1 := Lib.hid (show Below w.heap.size w ((w.alloc (.cells #[.int .i64 k1, .int .i64 n1, .string s1, .slice a1 l1 c1] 24)).alloc (.cells #[.int .i64 k2, .int .i64 n2, .string s2, .slice a2 l2 c2] 24)) from (((Below.refl _ w).alloc (Nat.le_refl _) _).alloc (by simp) _))
  have HX2 := Lib.hid (show ((w.alloc (.cells #[.int .i64 k1, .int .i64 n1, .string s1, .slice a1 l1 c1] 24)).alloc (.cells #[.int .i64 k2, .int .i64 n2, .string s2, .slice a2 l2 c2] 24)).heap[w.heap.size]? = some (.cells #[.int .i64 k1, .int .i64 n1, .string s1, .slice a1 l1 c1] 24 (0, 0)) from ((Below.heap_alloc _ _ _ (by simp)).trans (by simpa using World.alloc_heap_new w (.cells #[.int .i64 k1, .int .i64 n1, .string s1, .slice a1 l1 c1] 24))))
  have HT3 := Lib.hid (Has.below hu HB1.out)
  obtain ⟨p4_0, p4_1, p4_2, p4_3⟩ := tbox_cells HX2.out
  have HX5 := Lib.hid (show ((w.alloc (.cells #[.int .i64 k1, .int .i64 n1, .string s1, .slice a1 l1 c1] 24)).alloc (.cells #[.int .i64 k2, .int .i64 n2, .string s2, .slice a2 l2 c2] 24)).heap[w.heap.size + 1]? = some (.cells #[.int .i64 k2, .int .i64 n2, .string s2, .slice a2 l2 c2] 24 (0, 0)) from (by simpa using World.alloc_heap_new (w.alloc (.cells #[.int .i64 k1, .int .i64 n1, .string s1, .slice a1 l1 c1] 24)) (.cells #[.int .i64 k2, .int .i64 n2, .string s2, .slice a2 l2 c2] 24)))
  have HT6 := Lib.hid (Has.below hv HB1.out)
  obtain ⟨p7_0, p7_1, p7_2, p7_3⟩ := tbox_cells HX5.out
  clear hu hv
  go_enter Try.func8, Try.ntmps8
  go_wp2_with fail
  refine Calls.mono (sshown_at _) ?_
  rintro r w8 ⟨rfl, bw8⟩
  have st9 : Below ((w.alloc (.cells #[.int .i64 k1, .int .i64 n1, .string s1, .slice a1 l1 c1] 24)).alloc (.cells #[.int .i64 k2, .int .i64 n2, .string s2, .slice a2 l2 c2] 24)).heap.size ((w.alloc (.cells #[.int .i64 k1, .int .i64 n1, .string s1, .slice a1 l1 c1] 24)).alloc (.cells #[.int .i64 k2, .int .i64 n2, .string s2, .slice a2 l2 c2] 24)) w8 := bw8
  have HB10 := Lib.hid (HB1.out.trans (st9.mono HB1.out.size))
  have HX11 := Lib.hid (tbox_below HX2.out st9)
  have HX12 := Lib.hid (tbox_below HX5.out st9)
  have HT13 := Lib.hid (Has.below HT3.out st9)
  have HT14 := Lib.hid (Has.below HT6.out st9)
  clear p4_0 p4_1 p4_2 p4_3
  obtain ⟨p15_0, p15_1, p15_2, p15_3⟩ := tbox_cells HX11.out
  clear p7_0 p7_1 p7_2 p7_3
  obtain ⟨p16_0, p16_1, p16_2, p16_3⟩ := tbox_cells HX12.out
  clear st9 HB1 HX2 HX5 HT3 HT6
  clear bw8
  go_wp2_with fail
  refine Calls.mono (fa _ HT13.out) ?_
  rintro r w17 ⟨rfl, bw17⟩
  have st18 : Below w8.heap.size w8 w17 := bw17
  have HB19 := Lib.hid (HB10.out.trans (st18.mono HB10.out.size))
  have HX20 := Lib.hid (tbox_below HX11.out st18)
  have HX21 := Lib.hid (tbox_below HX12.out st18)
  have HT22 := Lib.hid (Has.below HT13.out st18)
  have HT23 := Lib.hid (Has.below HT14.out st18)
  clear p15_0 p15_1 p15_2 p15_3
  obtain ⟨p24_0, p24_1, p24_2, p24_3⟩ := tbox_cells HX20.out
  clear p16_0 p16_1 p16_2 p16_3
  obtain ⟨p25_0, p25_1, p25_2, p25_3⟩ := tbox_cells HX21.out
  clear st18 HB10 HX11 HX12 HT13 HT14
  clear bw17
  cases qa with
  | false =>
    go_wp2_with fail
    go_ret
    exact ⟨rfl, HB19.out⟩
  | true =>
    go_wp2_with fail
    refine Calls.mono (fb _ HT23.out) ?_
    rintro r w26 ⟨rfl, bw26⟩
    have st27 : Below w17.heap.size w17 w26 := bw26
    have HB28 := Lib.hid (HB19.out.trans (st27.mono HB19.out.size))
    have HX29 := Lib.hid (tbox_below HX20.out st27)
    have HX30 := Lib.hid (tbox_below HX21.out st27)
    have HT31 := Lib.hid (Has.below HT22.out st27)
    have HT32 := Lib.hid (Has.below HT23.out st27)
    clear p24_0 p24_1 p24_2 p24_3
    obtain ⟨p33_0, p33_1, p33_2, p33_3⟩ := tbox_cells HX29.out
    clear p25_0 p25_1 p25_2 p25_3
    obtain ⟨p34_0, p34_1, p34_2, p34_3⟩ := tbox_cells HX30.out
    clear st27 HB19 HX20 HX21 HT22 HT23
    clear bw26
    cases qb with
    | false =>
      go_wp2_with fail
      go_ret
      exact ⟨rfl, HB28.out⟩
    | true =>
      have hA := Lib.hid (of_decide_eq_true Hqa.out)
      have hB := Lib.hid (of_decide_eq_true Hqb.out)
      go_wp2_with fail
      refine Calls.mono (erase_at _ A _ HT31.out Hs.out.1) ?_
      intro r w35 h3
      obtain ⟨k3, n3, s3, a3, l3, c3, rfl, hh3, b3⟩ := h3.has
      clear h3
      have HT36 := Lib.hid hh3
      clear hh3
      have st37 : Below w26.heap.size w26 w35 := b3
      have HB38 := Lib.hid (HB28.out.trans (st37.mono HB28.out.size))
      have HX39 := Lib.hid (tbox_below HX29.out st37)
      have HX40 := Lib.hid (tbox_below HX30.out st37)
      have HT41 := Lib.hid (Has.below HT31.out st37)
      have HT42 := Lib.hid (Has.below HT32.out st37)
      clear p33_0 p33_1 p33_2 p33_3
      obtain ⟨p43_0, p43_1, p43_2, p43_3⟩ := tbox_cells HX39.out
      clear p34_0 p34_1 p34_2 p34_3
      obtain ⟨p44_0, p44_1, p44_2, p44_3⟩ := tbox_cells HX40.out
      clear st37 HB28 HX29 HX30 HT31 HT32
      clear b3
      have st45 : Below w35.heap.size w35 (w35.alloc (.cells #[.int .i64 k3, .int .i64 n3, .string s3, .slice a3 l3 c3] 24)) := (Below.refl _ _).alloc (Nat.le_refl _) _
      have HB46 := Lib.hid (HB38.out.trans (st45.mono HB38.out.size))
      have HX47 := Lib.hid (tbox_below HX39.out st45)
      have HX48 := Lib.hid (tbox_below HX40.out st45)
      have HT49 := Lib.hid (Has.below HT41.out st45)
      have HT50 := Lib.hid (Has.below HT42.out st45)
      have HT51 := Lib.hid (Has.below HT36.out st45)
      clear p43_0 p43_1 p43_2 p43_3
      obtain ⟨p52_0, p52_1, p52_2, p52_3⟩ := tbox_cells HX47.out
      clear p44_0 p44_1 p44_2 p44_3
      obtain ⟨p53_0, p53_1, p53_2, p53_3⟩ := tbox_cells HX48.out
      clear st45 HB38 HX39 HX40 HT41 HT42 HT36
      have HX54 := Lib.hid (World.alloc_heap_new w35 (.cells #[.int .i64 k3, .int .i64 n3, .string s3, .slice a3 l3 c3] 24))
      obtain ⟨p55_0, p55_1, p55_2, p55_3⟩ := tbox_cells HX54.out
      go_wp2_with fail
      refine Calls.mono (erase_at _ B _ HT50.out Hs.out.2) ?_
      intro r w56 h4
      obtain ⟨k4, n4, s4, a4, l4, c4, rfl, hh4, b4⟩ := h4.has
      clear h4
      have HT57 := Lib.hid hh4
      clear hh4
      have st58 : Below (w35.alloc (.cells #[.int .i64 k3, .int .i64 n3, .string s3, .slice a3 l3 c3] 24)).heap.size (w35.alloc (.cells #[.int .i64 k3, .int .i64 n3, .string s3, .slice a3 l3 c3] 24)) w56 := b4
      have HB59 := Lib.hid (HB46.out.trans (st58.mono HB46.out.size))
      have HX60 := Lib.hid (tbox_below HX47.out st58)
      have HX61 := Lib.hid (tbox_below HX48.out st58)
      have HX62 := Lib.hid (tbox_below HX54.out st58)
      have HT63 := Lib.hid (Has.below HT49.out st58)
      have HT64 := Lib.hid (Has.below HT50.out st58)
      have HT65 := Lib.hid (Has.below HT51.out st58)
      clear p52_0 p52_1 p52_2 p52_3
      obtain ⟨p66_0, p66_1, p66_2, p66_3⟩ := tbox_cells HX60.out
      clear p53_0 p53_1 p53_2 p53_3
      obtain ⟨p67_0, p67_1, p67_2, p67_3⟩ := tbox_cells HX61.out
      clear p55_0 p55_1 p55_2 p55_3
      obtain ⟨p68_0, p68_1, p68_2, p68_3⟩ := tbox_cells HX62.out
      clear st58 HB46 HX47 HX48 HX54 HT49 HT50 HT51
      clear b4
      have st69 : Below w56.heap.size w56 (w56.alloc (.cells #[.int .i64 k4, .int .i64 n4, .string s4, .slice a4 l4 c4] 24)) := (Below.refl _ _).alloc (Nat.le_refl _) _
      have HB70 := Lib.hid (HB59.out.trans (st69.mono HB59.out.size))
      have HX71 := Lib.hid (tbox_below HX60.out st69)
      have HX72 := Lib.hid (tbox_below HX61.out st69)
      have HX73 := Lib.hid (tbox_below HX62.out st69)
      have HT74 := Lib.hid (Has.below HT63.out st69)
      have HT75 := Lib.hid (Has.below HT64.out st69)
      have HT76 := Lib.hid (Has.below HT65.out st69)
      have HT77 := Lib.hid (Has.below HT57.out st69)
      clear p66_0 p66_1 p66_2 p66_3
      obtain ⟨p78_0, p78_1, p78_2, p78_3⟩ := tbox_cells HX71.out
      clear p67_0 p67_1 p67_2 p67_3
      obtain ⟨p79_0, p79_1, p79_2, p79_3⟩ := tbox_cells HX72.out
      clear p68_0 p68_1 p68_2 p68_3
      obtain ⟨p80_0, p80_1, p80_2, p80_3⟩ := tbox_cells HX73.out
      clear st69 HB59 HX60 HX61 HX62 HT63 HT64 HT65 HT57
      have HX81 := Lib.hid (World.alloc_heap_new w56 (.cells #[.int .i64 k4, .int .i64 n4, .string s4, .slice a4 l4 c4] 24))
      obtain ⟨p82_0, p82_1, p82_2, p82_3⟩ := tbox_cells HX81.out
      obtain ⟨wz, hwz0⟩ : ∃ wz, wz = (w56.alloc (.cells #[.int .i64 k4, .int .i64 n4, .string s4, .slice a4 l4 c4] 24)) := ⟨_, rfl⟩
      have hwz := Lib.hid hwz0
      clear hwz0
      have y0 : wz.heap[w.heap.size]? = some (.cells #[.int .i64 k1, .int .i64 n1, .string s1, .slice a1 l1 c1] 24 (0, 0)) := by rw [hwz.out]; exact HX71.out
      have lt0 := (Array.getElem?_eq_some_iff.1 y0).1
      obtain ⟨g0_0, g0_1, g0_2, g0_3⟩ := tbox_cells y0
      have y1 : wz.heap[w.heap.size + 1]? = some (.cells #[.int .i64 k2, .int .i64 n2, .string s2, .slice a2 l2 c2] 24 (0, 0)) := by rw [hwz.out]; exact HX72.out
      have lt1 := (Array.getElem?_eq_some_iff.1 y1).1
      obtain ⟨g1_0, g1_1, g1_2, g1_3⟩ := tbox_cells y1
      have y2 : wz.heap[w35.heap.size]? = some (.cells #[.int .i64 k3, .int .i64 n3, .string s3, .slice a3 l3 c3] 24 (0, 0)) := by rw [hwz.out]; exact HX73.out
      have lt2 := (Array.getElem?_eq_some_iff.1 y2).1
      obtain ⟨g2_0, g2_1, g2_2, g2_3⟩ := tbox_cells y2
      have y3 : wz.heap[w56.heap.size]? = some (.cells #[.int .i64 k4, .int .i64 n4, .string s4, .slice a4 l4 c4] 24 (0, 0)) := by rw [hwz.out]; exact HX81.out
      have lt3 := (Array.getElem?_eq_some_iff.1 y3).1
      obtain ⟨g3_0, g3_1, g3_2, g3_3⟩ := tbox_cells y3
      have z1 : Has wz (.agg #[.int .i64 k1, .int .i64 n1, .string s1, .slice a1 l1 c1]) A := by rw [hwz.out]; exact HT74.out
      have z2 : Has wz (.agg #[.int .i64 k2, .int .i64 n2, .string s2, .slice a2 l2 c2]) B := by rw [hwz.out]; exact HT75.out
      have z3 : Has wz (.agg #[.int .i64 k3, .int .i64 n3, .string s3, .slice a3 l3 c3]) A.er := by rw [hwz.out]; exact HT76.out
      have z4 : Has wz (.agg #[.int .i64 k4, .int .i64 n4, .string s4, .slice a4 l4 c4]) B.er := by rw [hwz.out]; exact HT77.out
      have HZ := Lib.hid (show Below w.heap.size w wz by rw [hwz.out]; exact HB70.out)
      have HS : ∀ w', Below wz.heap.size wz w' → (w'.cell? ⟨w.heap.size, 0, none⟩ = some (.int .i64 k1) ∧ w'.cell? ⟨w.heap.size, 1, none⟩ = some (.int .i64 n1) ∧ w'.cell? ⟨w.heap.size, 2, none⟩ = some (.string s1) ∧ w'.cell? ⟨w.heap.size, 3, none⟩ = some (.slice a1 l1 c1) ∧ w'.cell? ⟨w.heap.size + 1, 0, none⟩ = some (.int .i64 k2) ∧ w'.cell? ⟨w.heap.size + 1, 1, none⟩ = some (.int .i64 n2) ∧ w'.cell? ⟨w.heap.size + 1, 2, none⟩ = some (.string s2) ∧ w'.cell? ⟨w.heap.size + 1, 3, none⟩ = some (.slice a2 l2 c2) ∧ w'.cell? ⟨w35.heap.size, 0, none⟩ = some (.int .i64 k3) ∧ w'.cell? ⟨w35.heap.size, 1, none⟩ = some (.int .i64 n3) ∧ w'.cell? ⟨w35.heap.size, 2, none⟩ = some (.string s3) ∧ w'.cell? ⟨w35.heap.size, 3, none⟩ = some (.slice a3 l3 c3) ∧ w'.cell? ⟨w56.heap.size, 0, none⟩ = some (.int .i64 k4) ∧ w'.cell? ⟨w56.heap.size, 1, none⟩ = some (.int .i64 n4) ∧ w'.cell? ⟨w56.heap.size, 2, none⟩ = some (.string s4) ∧ w'.cell? ⟨w56.heap.size, 3, none⟩ = some (.slice a4 l4 c4) ∧ Below wz.heap.size wz w') := fun w' hb =>
        ⟨(hb.cell (p := ⟨_, _, none⟩) lt0).trans g0_0, (hb.cell (p := ⟨_, _, none⟩) lt0).trans g0_1, (hb.cell (p := ⟨_, _, none⟩) lt0).trans g0_2, (hb.cell (p := ⟨_, _, none⟩) lt0).trans g0_3, (hb.cell (p := ⟨_, _, none⟩) lt1).trans g1_0, (hb.cell (p := ⟨_, _, none⟩) lt1).trans g1_1, (hb.cell (p := ⟨_, _, none⟩) lt1).trans g1_2, (hb.cell (p := ⟨_, _, none⟩) lt1).trans g1_3, (hb.cell (p := ⟨_, _, none⟩) lt2).trans g2_0, (hb.cell (p := ⟨_, _, none⟩) lt2).trans g2_1, (hb.cell (p := ⟨_, _, none⟩) lt2).trans g2_2, (hb.cell (p := ⟨_, _, none⟩) lt2).trans g2_3, (hb.cell (p := ⟨_, _, none⟩) lt3).trans g3_0, (hb.cell (p := ⟨_, _, none⟩) lt3).trans g3_1, (hb.cell (p := ⟨_, _, none⟩) lt3).trans g3_2, (hb.cell (p := ⟨_, _, none⟩) lt3).trans g3_3, hb⟩
      have oAB := Lib.hid (show A.size + B.size ≤ 1000000000 by have := hA.out; have := hB.out; omega)
      have oE := Lib.hid (show A.er.size + B.er.size ≤ 1000000000 by have := hA.out; have := hB.out; have := A.er_size; have := B.er_size; omega)
      have oP := Lib.hid (show (pairF A B).size ≤ 1000000000000 by have := hA.out; have := hB.out; rw [pairF_size]; omega)
      have oPE := Lib.hid (show (pairF A B).er.size ≤ 1000000000000 by have := (pairF A B).er_size; have := oP.out; omega)
      have oQ := Lib.hid (show (putT A x).size ≤ 1000000000000 by have := hA.out; rw [put_size]; omega)
      have oQE := Lib.hid (show (putT A x).er.size ≤ 1000000000000 by have := (putT A x).er_size; have := oQ.out; omega)
      have eP := Lib.hid (pairF_er A B)
      have eQ := Lib.hid (put_er A x)
      have ix := Lib.hid (show i64ok x from ⟨by omega, by omega⟩)
      have hwx : IntKind.i64.wrap x = x := by rw [wrapEq]; exact wrap64_id ix.out
      have hd : ((A.er.deep : Int) ≤ (A.deep : Int)) := by have := A.er_deep; omega
      obtain ⟨d1, hd1⟩ : ∃ d1, A.er.deep = d1 := ⟨_, rfl⟩
      obtain ⟨d2, hd2⟩ : ∃ d2, A.deep = d2 := ⟨_, rfl⟩
      rw [hd1, hd2] at hd
      have D1 := Lib.hid hd1
      have D2 := Lib.hid hd2
      have de : ∀ (u : Value) (w' : World), Has w' u A.er → Calls Try.prog 16 #[u] w' (Gets w' (.int .i64 (d1 : Int))) := fun u w' h => by rw [← D1.out]; exact deep_at u A.er w' h (by have := A.er_size; have := hA.out; omega)
      have dd : ∀ (u : Value) (w' : World), Has w' u A → Calls Try.prog 16 #[u] w' (Gets w' (.int .i64 (d2 : Int))) := fun u w' h => by rw [← D2.out]; exact deep_at u A w' h (by have := hA.out; omega)
      have hdd : decide ((d1 : Int) ≤ (d2 : Int)) = true := decide_eq_true hd
      clear y0 lt0 g0_0 g0_1 g0_2 g0_3 y1 lt1 g1_0 g1_1 g1_2 g1_3 y2 lt2 g2_0 g2_1 g2_2 g2_3 y3 lt3 g3_0 g3_1 g3_2 g3_3 fa fb hd1 hd2
      go_wp2_with fail
      rw [← hwz.out]
      go_region_held3 (fun w' => w'.cell? ⟨w.heap.size, 0, none⟩ = some (.int .i64 k1) ∧ w'.cell? ⟨w.heap.size, 1, none⟩ = some (.int .i64 n1) ∧ w'.cell? ⟨w.heap.size, 2, none⟩ = some (.string s1) ∧ w'.cell? ⟨w.heap.size, 3, none⟩ = some (.slice a1 l1 c1) ∧ w'.cell? ⟨w.heap.size + 1, 0, none⟩ = some (.int .i64 k2) ∧ w'.cell? ⟨w.heap.size + 1, 1, none⟩ = some (.int .i64 n2) ∧ w'.cell? ⟨w.heap.size + 1, 2, none⟩ = some (.string s2) ∧ w'.cell? ⟨w.heap.size + 1, 3, none⟩ = some (.slice a2 l2 c2) ∧ w'.cell? ⟨w35.heap.size, 0, none⟩ = some (.int .i64 k3) ∧ w'.cell? ⟨w35.heap.size, 1, none⟩ = some (.int .i64 n3) ∧ w'.cell? ⟨w35.heap.size, 2, none⟩ = some (.string s3) ∧ w'.cell? ⟨w35.heap.size, 3, none⟩ = some (.slice a3 l3 c3) ∧ w'.cell? ⟨w56.heap.size, 0, none⟩ = some (.int .i64 k4) ∧ w'.cell? ⟨w56.heap.size, 1, none⟩ = some (.int .i64 n4) ∧ w'.cell? ⟨w56.heap.size, 2, none⟩ = some (.string s4) ∧ w'.cell? ⟨w56.heap.size, 3, none⟩ = some (.slice a4 l4 c4) ∧ Below wz.heap.size wz w')
        (exact HS _ (by (repeat (first | with_reducible exact Below.refl _ _ | with_reducible apply below_al | with_reducible apply below_dr | ((with_reducible apply below_tr); (with_reducible assumption))))))
        (first
              | (go_at_call 16; (with_reducible refine Calls.mono (dd _ _ ?_) ?_); ((with_reducible refine Has.below z1 ?_); (repeat (first | with_reducible exact Below.refl _ _ | with_reducible apply below_al | with_reducible apply below_dr | ((with_reducible apply below_tr); (with_reducible assumption))))); rintro r w13 ⟨rfl, b13⟩)
              | (go_at_call 16; (with_reducible refine Calls.mono (de _ _ ?_) ?_); ((with_reducible refine Has.below z3 ?_); (repeat (first | with_reducible exact Below.refl _ _ | with_reducible apply below_al | with_reducible apply below_dr | ((with_reducible apply below_tr); (with_reducible assumption))))); rintro r w12 ⟨rfl, b12⟩)
              | (go_at_call 21; (with_reducible refine Calls.mono (same_yes eQ.out _ _ _ ?_ ?_ oQE.out) ?_); ((with_reducible refine Has.below h10 ?_); (repeat (first | with_reducible exact Below.refl _ _ | with_reducible apply below_al | with_reducible apply below_dr | ((with_reducible apply below_tr); (with_reducible assumption))))); ((with_reducible refine Has.below z3 ?_); (repeat (first | with_reducible exact Below.refl _ _ | with_reducible apply below_al | with_reducible apply below_dr | ((with_reducible apply below_tr); (with_reducible assumption))))); rintro r w11 ⟨rfl, b11⟩)
              | (go_at_call 30; (with_reducible refine Calls.mono (erase_at _ (putT A x) _ ?_ oQ.out) ?_); ((with_reducible refine Has.below h9 ?_); (repeat (first | with_reducible exact Below.refl _ _ | with_reducible apply below_al | with_reducible apply below_dr | ((with_reducible apply below_tr); (with_reducible assumption))))); intro r w10 h10; obtain ⟨k10, n10, s10, a10, l10, c10, rfl, h10, b10⟩ := h10.has)
              | (go_at_call 38; (with_reducible refine Calls.mono (put_at _ A x _ ix.out ?_ Hs.out.1) ?_); (skip; (with_reducible refine Has.below z1 ?_); (repeat (first | with_reducible exact Below.refl _ _ | with_reducible apply below_al | with_reducible apply below_dr | ((with_reducible apply below_tr); (with_reducible assumption))))); intro r w9 h9; obtain ⟨k9, n9, s9, a9, l9, c9, rfl, h9, b9⟩ := h9.has)
              | (go_at_call 21; (with_reducible refine Calls.mono (same_yes eP.out _ _ _ ?_ ?_ oPE.out) ?_); ((with_reducible refine Has.below h6 ?_); (repeat (first | with_reducible exact Below.refl _ _ | with_reducible apply below_al | with_reducible apply below_dr | ((with_reducible apply below_tr); (with_reducible assumption))))); ((with_reducible refine Has.below h7 ?_); (repeat (first | with_reducible exact Below.refl _ _ | with_reducible apply below_al | with_reducible apply below_dr | ((with_reducible apply below_tr); (with_reducible assumption))))); rintro r w8 ⟨rfl, b8⟩)
              | (go_at_call 39; (with_reducible refine Calls.mono (pairF_at _ A.er B.er _ ?_ oE.out) ?_); (first | (with_reducible refine HasTs.below (two_terms (k1 := k3) (n1 := n3) (s1 := s3) (a1 := a3) (l1 := l3) (c1 := c3) (k2 := k4) (n2 := n4) (s2 := s4) (a2 := a4) (l2 := l4) (c2 := c4) ?_ ?_) ?_) | (with_reducible refine two_at (X := wz.alloc (.cells #[.int .i64 k1, .int .i64 n1, .string s1, .slice a1 l1 c1, .int .i64 k2, .int .i64 n2, .string s2, .slice a2 l2 c2] 24)) (k1 := k3) (n1 := n3) (s1 := s3) (a1 := a3) (l1 := l3) (c1 := c3) (k2 := k4) (n2 := n4) (s2 := s4) (a2 := a4) (l2 := l4) (c2 := c4) ?_ ?_ ?_ ?_; focus (simp; done))); ((with_reducible refine Has.below z3 ?_); (repeat (first | with_reducible exact Below.refl _ _ | with_reducible apply below_al | with_reducible apply below_dr | ((with_reducible apply below_tr); (with_reducible assumption))))); ((with_reducible refine Has.below z4 ?_); (repeat (first | with_reducible exact Below.refl _ _ | with_reducible apply below_al | with_reducible apply below_dr | ((with_reducible apply below_tr); (with_reducible assumption))))); ((repeat (first | with_reducible exact Below.refl _ _ | with_reducible apply below_al | with_reducible apply below_dr | ((with_reducible apply below_tr); (with_reducible assumption))))); intro r w7 h7; obtain ⟨k7, n7, s7, a7, l7, c7, rfl, h7, b7⟩ := h7.has)
              | (go_at_call 30; (with_reducible refine Calls.mono (erase_at _ (pairF A B) _ ?_ oP.out) ?_); ((with_reducible refine Has.below h5 ?_); (repeat (first | with_reducible exact Below.refl _ _ | with_reducible apply below_al | with_reducible apply below_dr | ((with_reducible apply below_tr); (with_reducible assumption))))); intro r w6 h6; obtain ⟨k6, n6, s6, a6, l6, c6, rfl, h6, b6⟩ := h6.has)
              | (go_at_call 39; (with_reducible refine Calls.mono (pairF_at _ A B _ ?_ oAB.out) ?_); (first | (with_reducible refine HasTs.below (two_terms (k1 := k1) (n1 := n1) (s1 := s1) (a1 := a1) (l1 := l1) (c1 := c1) (k2 := k2) (n2 := n2) (s2 := s2) (a2 := a2) (l2 := l2) (c2 := c2) ?_ ?_) ?_) | (with_reducible refine two_at (X := wz.alloc (.cells #[.int .i64 k3, .int .i64 n3, .string s3, .slice a3 l3 c3, .int .i64 k4, .int .i64 n4, .string s4, .slice a4 l4 c4] 24)) (k1 := k1) (n1 := n1) (s1 := s1) (a1 := a1) (l1 := l1) (c1 := c1) (k2 := k2) (n2 := n2) (s2 := s2) (a2 := a2) (l2 := l2) (c2 := c2) ?_ ?_ ?_ ?_; focus (simp; done))); ((with_reducible refine Has.below z1 ?_); (repeat (first | with_reducible exact Below.refl _ _ | with_reducible apply below_al | with_reducible apply below_dr | ((with_reducible apply below_tr); (with_reducible assumption))))); ((with_reducible refine Has.below z2 ?_); (repeat (first | with_reducible exact Below.refl _ _ | with_reducible apply below_al | with_reducible apply below_dr | ((with_reducible apply below_tr); (with_reducible assumption))))); ((repeat (first | with_reducible exact Below.refl _ _ | with_reducible apply below_al | with_reducible apply below_dr | ((with_reducible apply below_tr); (with_reducible assumption))))); intro r w5 h5; obtain ⟨k5, n5, s5, a5, l5, c5, rfl, h5, b5⟩ := h5.has))
      all_goals
        go_wp2_with fail
        go_ret
        exact ⟨rfl, below_tr (by (repeat (first | with_reducible exact Below.refl _ _ | with_reducible apply below_al | with_reducible apply below_dr | ((with_reducible apply below_tr); (with_reducible assumption))))) HZ.out⟩

end Go.Proofs.Ytllggpmmcamkmaa
