/-
  The law UnifyTwice, walked.
-/
import Derived.Test.YtfifgffcjnnhaaaZUniK
import Derived.Test.YtfifgffcjnnhaaaZUniL
import Derived.Deep.DeepCutAuto
namespace Go.Proofs.Ytfifgffcjnnhaaa
open Go.RowKit Go.Shelf
open Classical
set_option linter.unusedVariables false
set_option linter.unusedSimpArgs false

set_option maxRecDepth 100000 in
set_option maxHeartbeats 16000000 in
theorem unifyTwice_at (v1 : Value) (A : Tm) (v2 : Value) (B : Tm) (v3 : Value) (C : Tm) (w : World) (hA : Has w v1 A) (hB : Has w v2 B) (hC : Has w v3 C) (sA : A.size ≤ 1048576) (sB : B.size ≤ 1048576) (sC : C.size ≤ 1048576) : Calls Try.prog 8 #[v1, v2, v3] w (Gets w (.bool true)) := by
  obtain ⟨k1, n1, s1, a1, l1, c1, ks1, rfl, e1, -⟩ := hA.form
  obtain ⟨k2, n2, s2, a2, l2, c2, ks2, rfl, e2, -⟩ := hB.form
  obtain ⟨k3, n3, s3, a3, l3, c3, ks3, rfl, e3, -⟩ := hC.form
  clear e1 e2 e3
  obtain ⟨w2, hw2⟩ : ∃ w2, w2 = ((w.alloc (.cells #[.int .i64 k1, .int .i64 n1, .string s1, .slice a1 l1 c1] 24)).alloc (.cells #[.int .i64 k2, .int .i64 n2, .string s2, .slice a2 l2 c2] 24)).alloc (.cells #[.int .i64 k3, .int .i64 n3, .string s3, .slice a3 l3 c3] 24) := ⟨_, rfl⟩
  have hb2 : Below w.heap.size w w2 := by rw [hw2]; exact (((Below.refl _ w).alloc (by simp) _).alloc (by simp) _).alloc (by simp; omega) _
  have x1 : w2.heap[w.heap.size]? = some (.cells #[.int .i64 k1, .int .i64 n1, .string s1, .slice a1 l1 c1] 24 (0, 0)) := by rw [hw2]; exact (Below.heap_alloc _ _ _ (by simp; omega)).trans ((Below.heap_alloc _ _ _ (by simp)).trans (World.alloc_heap_new _ _))
  have x2 : w2.heap[w.heap.size + 1]? = some (.cells #[.int .i64 k2, .int .i64 n2, .string s2, .slice a2 l2 c2] 24 (0, 0)) := by rw [hw2]; exact (Below.heap_alloc _ _ _ (by simp)).trans ((by simpa using World.alloc_heap_new (w.alloc (.cells #[.int .i64 k1, .int .i64 n1, .string s1, .slice a1 l1 c1] 24)) (.cells #[.int .i64 k2, .int .i64 n2, .string s2, .slice a2 l2 c2] 24)))
  have x3 : w2.heap[w.heap.size + 1 + 1]? = some (.cells #[.int .i64 k3, .int .i64 n3, .string s3, .slice a3 l3 c3] 24 (0, 0)) := by rw [hw2]; exact (by simpa using World.alloc_heap_new ((w.alloc (.cells #[.int .i64 k1, .int .i64 n1, .string s1, .slice a1 l1 c1] 24)).alloc (.cells #[.int .i64 k2, .int .i64 n2, .string s2, .slice a2 l2 c2] 24)) (.cells #[.int .i64 k3, .int .i64 n3, .string s3, .slice a3 l3 c3] 24))
  have t1 : Has w2 (.agg #[.int .i64 k1, .int .i64 n1, .string s1, .slice a1 l1 c1]) A := Has.below hA hb2
  have t2 : Has w2 (.agg #[.int .i64 k2, .int .i64 n2, .string s2, .slice a2 l2 c2]) B := Has.below hB hb2
  have t3 : Has w2 (.agg #[.int .i64 k3, .int .i64 n3, .string s3, .slice a3 l3 c3]) C := Has.below hC hb2
  have H2 := Lib.hid (And.intro hb2 (And.intro x1 (And.intro t1 (And.intro x2 (And.intro t2 (And.intro x3 t3))))))
  have HW := Lib.hid hw2
  clear hb2 hw2 x1 t1 hA x2 t2 hB x3 t3 hC
  go_enter Try.func8, Try.ntmps8
  go_upto_region 1 with fail
  rw [← HW.out]
  go_wp2_with fail
  refine (shown11_at w2).mono ?_
  rintro e w3 ⟨rfl, hb3⟩
  go_wp2_with fail
  refine (chain11_at 8 w3 (by decide)).mono ?_
  rintro e w4 ⟨v4, rfl, hO4, hb4⟩
  go_wp2_with fail
  refine (latt11_at 8 v4 w3 w4 (by decide) hO4).mono ?_
  rintro e w5 ⟨lb, rfl, hL5, hb5⟩
  have hb25 : Below w2.heap.size w2 w5 := hb3.trans ((hb4.trans (hb5.mono hb4.size)).mono hb3.size)
  go_wp2_with fail
  refine (vars11_at w5 w5.heap.size (Nat.le_refl _)).mono ?_
  rintro e w6 ⟨rfl, V, L6, hS6, hb6⟩
  have hst6 := hS6.base hb25.size
  have hch6 := hL5.below hb6
  have hlo6 := Mut.lo hS6 hb6.size hL5.lt
  have hbl6 : Below w2.heap.size w2 w6 := hb25.trans (hb6.mono hb25.size)
  clear hS6
  obtain ⟨b, hbe⟩ : ∃ b, b = w5.heap.size := ⟨_, rfl⟩
  rw [← hbe] at hst6 hlo6 ⊢
  have HL6 : Hid (LW w2 w6 b V L6 lb σ12) := ⟨hst6, hbl6, hch6, hlo6⟩
  clear hb3 hO4 hb4 hL5 hb5 hb25 hb6 hst6 hch6 hlo6 hbl6 hbe
  have m1 : ∀ W, Below w6.heap.size w6 W → Calls Try.prog 13 #[.agg #[.int .i64 k1, .int .i64 n1, .string s1, .slice a1 l1 c1]] W (Gets W (.bool A.may11)) := fun W hb => may11_at _ A W (Has.below (HL6.out.has H2.out.2.2.1) hb) (by omega)
  have m2 : ∀ W, Below w6.heap.size w6 W → Calls Try.prog 13 #[.agg #[.int .i64 k2, .int .i64 n2, .string s2, .slice a2 l2 c2]] W (Gets W (.bool B.may11)) := fun W hb => may11_at _ B W (Has.below (HL6.out.has H2.out.2.2.2.2.1) hb) (by omega)
  have m3 : ∀ W, Below w6.heap.size w6 W → Calls Try.prog 13 #[.agg #[.int .i64 k3, .int .i64 n3, .string s3, .slice a3 l3 c3]] W (Gets W (.bool C.may11)) := fun W hb => may11_at _ C W (Has.below (HL6.out.has H2.out.2.2.2.2.2.2) hb) (by omega)
  have y1 := HL6.out.box H2.out.2.1
  have y2 := HL6.out.box H2.out.2.2.2.1
  have y3 := HL6.out.box H2.out.2.2.2.2.2.1
  obtain ⟨y10, y11, y12, y13⟩ := tbox_cells y1
  obtain ⟨y20, y21, y22, y23⟩ := tbox_cells y2
  obtain ⟨y30, y31, y32, y33⟩ := tbox_cells y3
  by_cases may1 : A.may11 = true
  case neg =>
    have mf : A.may11 = false := by simpa using may1
    rw [mf] at m1
    clear may1 mf
    go_wp2_with (first
      | (go_at_call 13; (with_reducible refine (m1 _ (Below.refl _ _)).mono ?_); rintro e wm1 ⟨rfl, bm1⟩))
    go_ret
    exact ⟨rfl, (HL6.out.step (bm1)).done H2.out.1⟩
  rw [may1] at m1
  by_cases may2 : B.may11 = true
  case neg =>
    have mf : B.may11 = false := by simpa using may2
    rw [mf] at m2
    clear may2 mf
    go_wp2_with (first
      | (go_at_call 13; (have hq := bm1; clear hq); (with_reducible refine (m2 _ (bm1)).mono ?_); rintro e wm2 ⟨rfl, bm2⟩)
      | (go_at_call 13; (with_reducible refine (m1 _ (Below.refl _ _)).mono ?_); rintro e wm1 ⟨rfl, bm1⟩; obtain ⟨y20, y21, y22, y23⟩ := tbox_cells (tbox_below y2 (bm1))))
    go_ret
    exact ⟨rfl, (HL6.out.step (bm1.trans (bm2.mono bm1.size))).done H2.out.1⟩
  rw [may2] at m2
  by_cases may3 : C.may11 = true
  case neg =>
    have mf : C.may11 = false := by simpa using may3
    rw [mf] at m3
    clear may3 mf
    go_wp2_with (first
      | (go_at_call 13; (have hq := bm2; clear hq); (with_reducible refine (m3 _ (bm1.trans (bm2.mono bm1.size))).mono ?_); rintro e wm3 ⟨rfl, bm3⟩)
      | (go_at_call 13; (have hq := bm1; clear hq); (with_reducible refine (m2 _ (bm1)).mono ?_); rintro e wm2 ⟨rfl, bm2⟩; obtain ⟨y30, y31, y32, y33⟩ := tbox_cells (tbox_below y3 (bm1.trans (bm2.mono bm1.size))))
      | (go_at_call 13; (with_reducible refine (m1 _ (Below.refl _ _)).mono ?_); rintro e wm1 ⟨rfl, bm1⟩; obtain ⟨y20, y21, y22, y23⟩ := tbox_cells (tbox_below y2 (bm1))))
    go_ret
    exact ⟨rfl, (HL6.out.step ((bm1.trans (bm2.mono bm1.size)).trans (bm3.mono (Nat.le_trans bm1.size bm2.size)))).done H2.out.1⟩
  rw [may3] at m3
  obtain ⟨g1, z1, u1⟩ := may_gv may1
  have HM1 := Lib.hid (And.intro g1 (And.intro z1 u1))
  obtain ⟨g2, z2, u2⟩ := may_gv may2
  have HM2 := Lib.hid (And.intro g2 (And.intro z2 u2))
  obtain ⟨g3, z3, u3⟩ := may_gv may3
  have HM3 := Lib.hid (And.intro g3 (And.intro z3 u3))
  clear g1 z1 u1 may1 g2 z2 u2 may2 g3 z3 u3 may3
  go_upto_region 6 with (first
    | (go_at_call 13; (have hq := bm2; clear hq); (with_reducible refine (m3 _ (bm1.trans (bm2.mono bm1.size))).mono ?_); rintro e wm3 ⟨rfl, bm3⟩)
    | (go_at_call 13; (have hq := bm1; clear hq); (with_reducible refine (m2 _ (bm1)).mono ?_); rintro e wm2 ⟨rfl, bm2⟩; obtain ⟨y30, y31, y32, y33⟩ := tbox_cells (tbox_below y3 (bm1.trans (bm2.mono bm1.size))))
    | (go_at_call 13; (with_reducible refine (m1 _ (Below.refl _ _)).mono ?_); rintro e wm1 ⟨rfl, bm1⟩; obtain ⟨y20, y21, y22, y23⟩ := tbox_cells (tbox_below y2 (bm1))))
  have HLm : Hid (LW w2 wm3 b V L6 lb σ12) := HL6.out.step ((bm1.trans (bm2.mono bm1.size)).trans (bm3.mono (Nat.le_trans bm1.size bm2.size)))
  clear y10 y11 y12 y13 y1 m1 bm1 y20 y21 y22 y23 y2 m2 bm2 y30 y31 y32 y33 y3 m3 bm3
  obtain ⟨q10, q11, q12, q13⟩ := tbox_cells (HLm.out.box H2.out.2.1)
  obtain ⟨q20, q21, q22, q23⟩ := tbox_cells (HLm.out.box H2.out.2.2.2.1)
  have hU := HLm.out.unify (σ12_gv 9) (.agg #[.int .i64 k1, .int .i64 n1, .string s1, .slice a1 l1 c1]) (.agg #[.int .i64 k2, .int .i64 n2, .string s2, .slice a2 l2 c2]) A B (HLm.out.term H2.out.2.2.1) (HLm.out.term H2.out.2.2.2.2.1) HM1.out.1 HM2.out.1 (by omega) (by omega)
  have hgd := good_any (N := 9) (by decide) (good12 9 8) HM1.out.1 HM2.out.1 2000
  have hone := fun h => one_ghost HM1.out.1 HM2.out.1 (good12 9 8) h (τ := (run 9 2000 σ12 [(A, B)] 0).σ) rfl
  generalize run 9 2000 σ12 [(A, B)] 0 = R at *
  obtain ⟨r1, lx1, ee1, τ1⟩ := R
  simp only at hU hgd hone
  have HR := Lib.hid (And.intro hgd hone)
  clear hgd hone
  go_upto_region 7 with (go_at_call 14; refine hU.mono ?_; clear hU; rintro e w7 ⟨rfl, L7, hl7, hm7⟩)
  have HL7 : Hid (LW w2 w7 b V L7 lb τ1) := hl7
  clear q10 q11 q12 q13 q20 q21 q22 q23 hl7 hm7 HLm HL6 HW
  obtain ⟨q10, q11, q12, q13⟩ := tbox_cells (HL7.out.box H2.out.2.2.2.1)
  obtain ⟨q20, q21, q22, q23⟩ := tbox_cells (HL7.out.box H2.out.2.2.2.2.2.1)
  have hU := HL7.out.unify HR.out.1.gv (.agg #[.int .i64 k2, .int .i64 n2, .string s2, .slice a2 l2 c2]) (.agg #[.int .i64 k3, .int .i64 n3, .string s3, .slice a3 l3 c3]) B C (HL7.out.term H2.out.2.2.2.2.1) (HL7.out.term H2.out.2.2.2.2.2.2) HM2.out.1 HM3.out.1 (by omega) (by omega)
  have hgd := good_any (N := 9) (by decide) HR.out.1 HM2.out.1 HM3.out.1 2000
  have hone := fun h => one_ghost HM2.out.1 HM3.out.1 HR.out.1 h (τ := (run 9 2000 τ1 [(B, C)] 0).σ) rfl
  have hext := (run_one (M := 8) (by decide) 2000 τ1 [(B, C)] 0 HR.out.1 (gp_any (by decide) HM2.out.1 HM3.out.1)).1
  generalize run 9 2000 τ1 [(B, C)] 0 = R at *
  obtain ⟨r2, lx2, ee2, τ2⟩ := R
  simp only at hU hgd hone hext
  have HS := Lib.hid (And.intro hgd (And.intro hone hext))
  clear hgd hone hext
  go_upto_region 8 with (go_at_call 14; refine hU.mono ?_; clear hU; rintro e w8 ⟨rfl, L8, hl8, hm8⟩)
  have HL8 : Hid (LW w2 w8 b V L8 lb τ2) := hl8
  clear q10 q11 q12 q13 q20 q21 q22 q23 hl8 hm8 HL7
  cases r1 with
  | false =>
    go_wp2_with fail
    go_ret
    exact ⟨rfl, HL8.out.done H2.out.1⟩
  | true =>
  cases r2 with
  | false =>
    go_wp2_with fail
    go_ret
    exact ⟨rfl, HL8.out.done H2.out.1⟩
  | true =>
    have hev : EV τ2 A C := (HS.out.2.2 _ _ (HR.out.2 (by trivial))).trans (HS.out.2.1 (by trivial))
    obtain ⟨hg1, hg2⟩ := run_again (N := 9) (M := 8) (by decide) 2000 τ2 [(A, C)] 0 HS.out.1 (gp_any (by decide) HM1.out.1 HM3.out.1) (fun p hp => by rw [List.mem_singleton.1 hp]; exact hev)
    have hg12 := Lib.hid (And.intro hg1 hg2)
    clear hg1 hg2
    have hfe := full_er hev
    have hsA := tm_size τ2 A
    have hsB := tm_size τ2 C
    go_wp2_with fail
    refine (mark_at HL8.out.st).mono ?_
    rintro e wm ⟨rfl, rfl⟩
    obtain ⟨q10, q11, q12, q13⟩ := tbox_cells (HL8.out.box H2.out.2.1)
    obtain ⟨q20, q21, q22, q23⟩ := tbox_cells (HL8.out.box H2.out.2.2.2.2.2.1)
    go_wp2_with fail
    refine (HL8.out.unify HS.out.1.gv (.agg #[.int .i64 k1, .int .i64 n1, .string s1, .slice a1 l1 c1]) (.agg #[.int .i64 k3, .int .i64 n3, .string s3, .slice a3 l3 c3]) A C (HL8.out.term H2.out.2.2.1) (HL8.out.term H2.out.2.2.2.2.2.2) HM1.out.1 HM3.out.1 (by omega) (by omega)).mono ?_
    generalize run 9 2000 τ2 [(A, C)] 0 = R2 at *
    obtain ⟨r3, lx3, e3, τ3⟩ := R2
    obtain ⟨hg1, hg2⟩ := hg12.out
    clear hg12
    simp only at hg1 hg2
    subst hg1
    have HG := Lib.hid (And.intro hg2 (And.intro hfe (And.intro hsA hsB)))
    clear hev hg2 hfe hsA hsB
    rintro e w9 ⟨rfl, L9, hl9, hm9⟩
    simp only at hl9 ⊢
    have HL9 := Lib.hid hl9
    clear hl9 hm9 HL8 q10 q11 q12 q13 q20 q21 q22 q23
    obtain ⟨q10, q11, q12, q13⟩ := tbox_cells (HL9.out.box H2.out.2.1)
    go_wp2_with fail
    refine (full_any HL9.out.st _ A (HL9.out.has H2.out.2.2.1)).mono ?_
    rintro e w10 ⟨kf, nf, sf, af, lf, cf, rfl, hTA, hB10⟩
    obtain ⟨w11, hw11⟩ : ∃ w11, w11 = w10.alloc (.cells #[.int .i64 kf, .int .i64 nf, .string sf, .slice af lf cf] 24) := ⟨_, rfl⟩
    have hB11 : Below w9.heap.size w9 w11 := by rw [hw11]; exact hB10.alloc hB10.size _
    have hb11 : w11.heap[w10.heap.size]? = some (.cells #[.int .i64 kf, .int .i64 nf, .string sf, .slice af lf cf] 24 (0, 0)) := by rw [hw11]; exact World.alloc_heap_new _ _
    have hK11 : Kp w11 b V L9 w10.heap.size kf nf sf af lf cf (τ3.fill 60 1000 A).tm := by
      refine ⟨hb11, HL9.out.st.fresh ⟨hB10.size, (Array.getElem?_eq_some_iff.1 hb11).1⟩, ?_⟩
      refine hTA.carry (fun c hc => by rw [hw11]; exact Below.heap_alloc w10 _ c hc.2) fun c hc => HL9.out.st.fresh ⟨hc.1, by rw [hw11]; simp; have := hc.2; omega⟩
    have HK11 := Lib.hid hK11
    have HL11 := Lib.hid (HL9.out.step hB11)
    have HW11 := Lib.hid hw11
    clear hw11 hb11 hK11 hTA hB10 hB11 q10 q11 q12 q13 HL9
    go_upto_region 13 with fail
    rw [← HW11.out]
    generalize w10.heap.size = B9 at *
    clear HW11
    obtain ⟨q20, q21, q22, q23⟩ := tbox_cells (HL11.out.box H2.out.2.2.2.2.2.1)
    go_wp2_with fail
    refine (full_any HL11.out.st _ C (HL11.out.has H2.out.2.2.2.2.2.2)).mono ?_
    rintro e w12 ⟨kg, ng, sg, ag, lg, cg, rfl, hTB, hB12⟩
    obtain ⟨w13, hw13⟩ : ∃ w13, w13 = w12.alloc (.cells #[.int .i64 kg, .int .i64 ng, .string sg, .slice ag lg cg] 24) := ⟨_, rfl⟩
    have hB13 : Below w11.heap.size w11 w13 := by rw [hw13]; exact hB12.alloc hB12.size _
    have hb13 : w13.heap[w12.heap.size]? = some (.cells #[.int .i64 kg, .int .i64 ng, .string sg, .slice ag lg cg] 24 (0, 0)) := by rw [hw13]; exact World.alloc_heap_new _ _
    have hK13 : Kp w13 b V L9 w12.heap.size kg ng sg ag lg cg (τ3.fill 60 1000 C).tm := by
      refine ⟨hb13, HL11.out.st.fresh ⟨hB12.size, (Array.getElem?_eq_some_iff.1 hb13).1⟩, ?_⟩
      refine hTB.carry (fun c hc => by rw [hw13]; exact Below.heap_alloc w12 _ c hc.2) fun c hc => HL11.out.st.fresh ⟨hc.1, by rw [hw13]; simp; have := hc.2; omega⟩
    have HX := Lib.hid (And.intro (HL11.out.step hB13) (And.intro (HK11.out.mut (Mut.of_below (b := b) (V := V) (L := L9) hB13)) hK13))
    have HW13 := Lib.hid hw13
    clear hw13 hb13 hK13 hTB hB12 hB13 q20 q21 q22 q23 HL11 HK11
    go_upto_region 14 with fail
    rw [← HW13.out]
    generalize w12.heap.size = B11 at *
    clear HW13
    generalize (τ3.fill 60 1000 A).err = ea at *
    generalize (τ3.fill 60 1000 C).err = eb at *
    generalize (τ3.fill 60 1000 A).tm = TA at *
    generalize (τ3.fill 60 1000 C).tm = TB at *
    by_cases he : e3 = 0
    case neg =>
      have he' : (e3 != 0) = true := by simpa using he
      clear he
      go_wp2_with fail
      go_ret
      exact ⟨rfl, HX.out.1.done H2.out.1⟩
    subst he
    by_cases ha : ea = 0
    case neg =>
      have ha' : (ea != 0) = true := by simpa using ha
      clear ha
      go_wp2_with fail
      go_ret
      exact ⟨rfl, HX.out.1.done H2.out.1⟩
    subst ha
    by_cases hb : eb = 0
    case neg =>
      have hb' : (eb != 0) = true := by simpa using hb
      clear hb
      go_wp2_with fail
      go_ret
      exact ⟨rfl, HX.out.1.done H2.out.1⟩
    subst hb
    obtain rfl : r3 = true := by
      rcases HG.out.1 with h | h
      · exact h.1
      · exact absurd h.2 (by decide)
    have HE := Lib.hid (HG.out.2.1 rfl rfl)
    go_upto_region 16 with fail
    have HS : ∀ w' : World, Below w13.heap.size w13 w' → ((w'.cell? ⟨B9, 0, none⟩ = some (.int .i64 kf) ∧ w'.cell? ⟨B9, 1, none⟩ = some (.int .i64 nf) ∧ w'.cell? ⟨B9, 2, none⟩ = some (.string sf) ∧ w'.cell? ⟨B9, 3, none⟩ = some (.slice af lf cf)) ∧ (w'.cell? ⟨B11, 0, none⟩ = some (.int .i64 kg) ∧ w'.cell? ⟨B11, 1, none⟩ = some (.int .i64 ng) ∧ w'.cell? ⟨B11, 2, none⟩ = some (.string sg) ∧ w'.cell? ⟨B11, 3, none⟩ = some (.slice ag lg cg))) := fun w' hb => ⟨tbox_cells (tbox_below HX.out.2.1.box hb), tbox_cells (tbox_below HX.out.2.2.box hb)⟩
    have hTf := Has.below HX.out.2.1.has (Below.refl _ w13).drew
    have hTg := Has.below HX.out.2.2.has (Below.refl _ w13).drew
    refine wp_region_held_drew (S := (fun w' : World => (w'.cell? ⟨B9, 0, none⟩ = some (.int .i64 kf) ∧ w'.cell? ⟨B9, 1, none⟩ = some (.int .i64 nf) ∧ w'.cell? ⟨B9, 2, none⟩ = some (.string sf) ∧ w'.cell? ⟨B9, 3, none⟩ = some (.slice af lf cf)) ∧ (w'.cell? ⟨B11, 0, none⟩ = some (.int .i64 kg) ∧ w'.cell? ⟨B11, 1, none⟩ = some (.int .i64 ng) ∧ w'.cell? ⟨B11, 2, none⟩ = some (.string sg) ∧ w'.cell? ⟨B11, 3, none⟩ = some (.slice ag lg cg)))) (by kernel_rfl) (HS _ (Below.refl _ _).drew) (fun hHeld => ?_)
    have hE0 : Below w13.heap.size w13 w13.drew := (Below.refl _ _).drew
    refine wpAnyH_take (i := 0) (v := ?_) rfl (by kernel_rfl) (by kernel_rfl) (by kernel_rfl) (fun _ _ _ h => h) (Or.inl ⟨by kernel_rfl, ?_⟩) hHeld ?_
    rotate_left
    · intro w0 hSw
      (try dsimp only at hSw)
      go_simp
      try (with_reducible rfl)
    try simp only [Act.put, List.setIfInBounds_toArray, List.set_cons_zero, List.set_cons_succ]
    refine wpAnyH_take (i := 1) (v := ?_) rfl (by kernel_rfl) (by kernel_rfl) (by kernel_rfl) (fun _ _ _ h => h) (Or.inl ⟨by kernel_rfl, ?_⟩) hHeld ?_
    rotate_left
    · intro w0 hSw
      (try dsimp only at hSw)
      go_simp
      try (with_reducible rfl)
    try simp only [Act.put, List.setIfInBounds_toArray, List.set_cons_zero, List.set_cons_succ]
    refine wpAnyH_take (i := 2) (v := ?_) rfl (by kernel_rfl) (by kernel_rfl) (by kernel_rfl) (fun _ _ _ h => h) (Or.inl ⟨by kernel_rfl, ?_⟩) hHeld ?_
    rotate_left
    · intro w0 hSw
      (try dsimp only at hSw)
      go_simp
      try (with_reducible rfl)
    try simp only [Act.put, List.setIfInBounds_toArray, List.set_cons_zero, List.set_cons_succ]
    refine wpAnyH_take (i := 3) (v := ?_) rfl (by kernel_rfl) (by kernel_rfl) (by kernel_rfl) (fun _ _ _ h => h) (Or.inl ⟨by kernel_rfl, ?_⟩) hHeld ?_
    rotate_left
    · intro w0 hSw
      (try dsimp only at hSw)
      go_simp
      try (with_reducible rfl)
    try simp only [Act.put, List.setIfInBounds_toArray, List.set_cons_zero, List.set_cons_succ]
    refine wpAnyH_take (i := 4) (v := ?_) rfl (by kernel_rfl) (by kernel_rfl) (by kernel_rfl) (fun _ _ _ h => h) (Or.inl ⟨by kernel_rfl, ?_⟩) hHeld ?_
    rotate_left
    · intro w0 hSw
      (try dsimp only at hSw)
      go_simp
      try (with_reducible rfl)
    try simp only [Act.put, List.setIfInBounds_toArray, List.set_cons_zero, List.set_cons_succ]
    refine wpAnyH_take (i := 5) (v := ?_) rfl (by kernel_rfl) (by kernel_rfl) (by kernel_rfl) (fun _ _ _ h => h) (Or.inl ⟨by kernel_rfl, ?_⟩) hHeld ?_
    rotate_left
    · intro w0 hSw
      (try dsimp only at hSw)
      go_simp
      try (with_reducible rfl)
    try simp only [Act.put, List.setIfInBounds_toArray, List.set_cons_zero, List.set_cons_succ]
    refine wpAnyH_take (i := 7) (v := ?_) rfl (by kernel_rfl) (by kernel_rfl) (by kernel_rfl) (fun _ _ _ h => h) (Or.inl ⟨by kernel_rfl, ?_⟩) hHeld ?_
    rotate_left
    · intro w0 hSw
      (try dsimp only at hSw)
      go_simp
      try (with_reducible rfl)
    try simp only [Act.put, List.setIfInBounds_toArray, List.set_cons_zero, List.set_cons_succ]
    generalize w13.drew = wD at hHeld hE0 hTf hTg ⊢
    refine wpAnyH_ready (rs := [6]) (by kernel_rfl) (by simp) ?_
    refine AllReadyH.cons rfl (fun K hK => ?_) AllReadyH.nil
    go_simp
    refine (mark_at (HX.out.1.st.step hE0)).mono ?_
    rintro e wm ⟨rfl, rfl⟩
    go_wp2_with fail
    refine hK.out _ _ (HS _ hE0) (fun hhm => ?_)
    clear hK K
    try simp only [Act.put, List.setIfInBounds_toArray, List.set_cons_zero, List.set_cons_succ]
    refine wpAnyH_take (i := 8) (v := ?_) rfl (by kernel_rfl) (by kernel_rfl) (by kernel_rfl) (fun _ _ _ h => h) (Or.inl ⟨by kernel_rfl, ?_⟩) hhm ?_
    rotate_left
    · intro w0 hSw
      (try dsimp only at hSw)
      go_simp
      try (with_reducible rfl)
    try simp only [Act.put, List.setIfInBounds_toArray, List.set_cons_zero, List.set_cons_succ]
    refine wpAnyH_take (i := 9) (v := ?_) rfl (by kernel_rfl) (by kernel_rfl) (by kernel_rfl) (fun _ _ _ h => h) (Or.inl ⟨by kernel_rfl, ?_⟩) hhm ?_
    rotate_left
    · intro w0 hSw
      (try dsimp only at hSw)
      go_simp
      try (with_reducible rfl)
    try simp only [Act.put, List.setIfInBounds_toArray, List.set_cons_zero, List.set_cons_succ]
    refine wpAnyH_take (i := 10) (v := ?_) rfl (by kernel_rfl) (by kernel_rfl) (by kernel_rfl) (fun _ _ _ h => h) (Or.inl ⟨by kernel_rfl, ?_⟩) hhm ?_
    rotate_left
    · intro w0 hSw
      (try dsimp only at hSw)
      go_simp
      try (with_reducible rfl)
    try simp only [Act.put, List.setIfInBounds_toArray, List.set_cons_zero, List.set_cons_succ]
    refine wpAnyH_take (i := 11) (v := ?_) rfl (by kernel_rfl) (by kernel_rfl) (by kernel_rfl) (fun _ _ _ h => h) (Or.inl ⟨by kernel_rfl, ?_⟩) hhm ?_
    rotate_left
    · intro w0 hSw
      (try dsimp only at hSw)
      go_simp
      try (with_reducible rfl)
    try simp only [Act.put, List.setIfInBounds_toArray, List.set_cons_zero, List.set_cons_succ]
    refine wpAnyH_take (i := 13) (v := ?_) rfl (by kernel_rfl) (by kernel_rfl) (by kernel_rfl) (fun _ _ _ h => h) (Or.inl ⟨by kernel_rfl, ?_⟩) hhm ?_
    rotate_left
    · intro w0 hSw
      (try dsimp only at hSw)
      go_simp
      try (with_reducible rfl)
    try simp only [Act.put, List.setIfInBounds_toArray, List.set_cons_zero, List.set_cons_succ]
    refine wpAnyH_ready (rs := [12]) (by kernel_rfl) (by simp) ?_
    refine AllReadyH.cons rfl (fun K hK => ?_) AllReadyH.nil
    go_simp
    refine (erase_at (.agg #[.int .i64 kf, .int .i64 nf, .string sf, .slice af lf cf]) TA wm hTf (by have := HG.out.2.2.1; omega)).mono ?_
    intro e W2 hh_
    obtain ⟨ku, nu, su, au, lu, cu, rfl, hNu, hb2⟩ := hh_.has2
    have hTu := has_new hNu
    go_wp2_with fail
    have hE2 : Below w13.heap.size w13 W2 := hE0.trans (hb2.mono hE0.size)
    have hTf := Has.below hTf hb2
    have hTg := Has.below hTg hb2
    refine hK.out _ _ (HS _ hE2) (fun hh3 => ?_)
    clear hK K
    try simp only [Act.put, List.setIfInBounds_toArray, List.set_cons_zero, List.set_cons_succ]
    refine wpAnyH_ready (rs := [14]) (by kernel_rfl) (by simp) ?_
    refine AllReadyH.cons rfl (fun K hK => ?_) AllReadyH.nil
    go_simp
    refine (erase_at (.agg #[.int .i64 kg, .int .i64 ng, .string sg, .slice ag lg cg]) TB W2 hTg (by have := HG.out.2.2.2; omega)).mono ?_
    intro e W4 hh_
    obtain ⟨kv, nv, sv, av, lv, cv, rfl, hNv, hb4⟩ := hh_.has2
    have hTv := has_new hNv
    go_wp2_with fail
    have hE4 : Below w13.heap.size w13 W4 := hE2.trans (hb4.mono hE2.size)
    have hTf := Has.below hTf hb4
    have hTg := Has.below hTg hb4
    have hTu := Has.below hTu hb4
    refine hK.out _ _ (HS _ hE4) (fun hh5 => ?_)
    clear hK K
    try simp only [Act.put, List.setIfInBounds_toArray, List.set_cons_zero, List.set_cons_succ]
    refine wpAnyH_ready (rs := [15]) (by kernel_rfl) (by simp) ?_
    refine AllReadyH.cons rfl (fun K hK => ?_) AllReadyH.nil
    go_simp
    refine (same_at TA.er TB.er (.agg #[.int .i64 ku, .int .i64 nu, .string su, .slice au lu cu]) (.agg #[.int .i64 kv, .int .i64 nv, .string sv, .slice av lv cv]) W4 hTu hTv (by have := Tm.er_size TA; have := HG.out.2.2.1; omega) (by have := Tm.er_size TB; have := HG.out.2.2.2; omega)).mono ?_
    rintro e W6 ⟨rfl, hb6⟩
    go_wp2_with fail
    have hE6 : Below w13.heap.size w13 W6 := hE4.trans (hb6.mono hE4.size)
    have hTf := Has.below hTf hb6
    have hTg := Has.below hTg hb6
    have hTu := Has.below hTu hb6
    have hTv := Has.below hTv hb6
    refine hK.out _ _ (HS _ hE6) (fun hh7 => ?_)
    clear hK K
    try simp only [Act.put, List.setIfInBounds_toArray, List.set_cons_zero, List.set_cons_succ]
    rw [decide_eq_true HE.out] at *
    refine wpAnyH_take (i := 16) (v := ?_) rfl (by kernel_rfl) (by kernel_rfl) (by kernel_rfl) (fun _ _ _ h => h) (Or.inl ⟨by kernel_rfl, ?_⟩) hh7 ?_
    rotate_left
    · intro w0 hSw
      (try dsimp only at hSw)
      go_simp
      try (with_reducible rfl)
    try simp only [Act.put, List.setIfInBounds_toArray, List.set_cons_zero, List.set_cons_succ]
    refine wpAnyH_ready (rs := [17]) (by kernel_rfl) (by simp) ?_
    refine AllReadyH.cons rfl (fun K hK => ?_) AllReadyH.nil
    go_simp
    refine hK.out _ _ (HS _ hE6) (fun hhz => ?_)
    clear hK K
    try simp only [Act.put, List.setIfInBounds_toArray, List.set_cons_zero, List.set_cons_succ]
    refine wpAnyH_done (by kernel_rfl) ?_ _
    go_wp2_with fail
    go_ret
    exact ⟨rfl, (HX.out.1.step hE6).done H2.out.1⟩
end Go.Proofs.Ytfifgffcjnnhaaa
