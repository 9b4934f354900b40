/-
  The law UnifyLists, walked.
-/
import Derived.Test.YtfjnajngelemkaaZUniK
import Derived.Test.YtfjnajngelemkaaZUniLn2
import Derived.Deep.DeepCutAuto
namespace Go.Proofs.Ytfjnajngelemkaa
open Go.RowKit Go.Shelf
open Classical
set_option linter.unusedVariables false
set_option linter.unusedSimpArgs false

theorem two_tsq {p q : Nat → Prop} {w : World} {k1 n1 k2 n2 : Int} {s1 s2 : ByteArray} {a1 a2 : Option Addr} {l1 c1 l2 c2 : Nat} {T1 T2 : Tm} (h1 : TmIn p w (.agg #[.int .i64 k1, .int .i64 n1, .string s1, .slice a1 l1 c1]) T1) (h2 : TmIn p w (.agg #[.int .i64 k2, .int .i64 n2, .string s2, .slice a2 l2 c2]) T2) (hp : ∀ c, p c → c < w.heap.size) (hq : ∀ c, p c → q c) (hn : q w.heap.size) :
    TsIn q (w.alloc (.cells #[.int .i64 k1, .int .i64 n1, .string s1, .slice a1 l1 c1, .int .i64 k2, .int .i64 n2, .string s2, .slice a2 l2 c2] 24)) (.slice (some ⟨w.heap.size, 0, none⟩) 2 2) [T1, T2] := by
  have hb : Below w.heap.size w (w.alloc (.cells #[.int .i64 k1, .int .i64 n1, .string s1, .slice a1 l1 c1, .int .i64 k2, .int .i64 n2, .string s2, .slice a2 l2 c2] 24)) := (Below.refl _ w).alloc (Nat.le_refl _) _
  refine ⟨some ⟨w.heap.size, 0, none⟩, 2, rfl, by simp, by unfold maxLen; omega, (fun h => by cases h), fun i hi => ?_⟩
  have hi' : i = 0 ∨ i = 1 := by simp at hi; omega
  rcases hi' with rfl | rfl
  · exact ⟨w.heap.size, 0, k1, n1, s1, a1, l1, c1, rfl, hn, (World.cell?_alloc_new w _ _ _).trans rfl, (World.cell?_alloc_new w _ _ _).trans rfl, (World.cell?_alloc_new w _ _ _).trans rfl, (World.cell?_alloc_new w _ _ _).trans rfl, h1.carry (fun c hc => hb.block c (hp c hc)) hq⟩
  · exact ⟨w.heap.size, 0, k2, n2, s2, a2, l2, c2, rfl, hn, (World.cell?_alloc_new w _ _ _).trans rfl, (World.cell?_alloc_new w _ _ _).trans rfl, (World.cell?_alloc_new w _ _ _).trans rfl, (World.cell?_alloc_new w _ _ _).trans rfl, h2.carry (fun c hc => hb.block c (hp c hc)) hq⟩
set_option maxRecDepth 100000 in
theorem mark_box (w : World) (b : Nat) (V : Value) (a : Option Addr) (n c : Nat) (hb : w.heap[b]? = some (.cells #[V, .slice a n c] 89 (0, 0))) : Calls Try.prog 24 #[.pointer (some ⟨b, 0, none⟩)] w fun e w' => e = .returned (.int .i64 (n : Int)) ∧ w' = w := by
  obtain ⟨x0, x1⟩ := two_cells hb
  clear hb
  go_enter Try.func24, Try.ntmps24
  go_wp2_with fail
  go_ret
  exact ⟨rfl, rfl⟩
set_option maxRecDepth 100000 in
set_option maxHeartbeats 16000000 in
theorem unifyLists_at (v1 : Value) (A : Tm) (v2 : Value) (B : Tm) (v3 : Value) (C : Tm) (v4 : Value) (D : Tm) (w : World) (hA : Has w v1 A) (hB : Has w v2 B) (hC : Has w v3 C) (hD : Has w v4 D) (sA : A.size ≤ 1048576) (sB : B.size ≤ 1048576) (sC : C.size ≤ 1048576) (sD : D.size ≤ 1048576) : Calls Try.prog 5 #[v1, v2, v3, v4] w (Gets w (.bool true)) := by
  obtain ⟨k1, n1, s1, a1, l1, c1, ks1, rfl, e1, -⟩ := hA.form
  obtain ⟨k2, n2, s2, a2, l2, c2, ks2, rfl, e2, -⟩ := hB.form
  obtain ⟨k3, n3, s3, a3, l3, c3, ks3, rfl, e3, -⟩ := hC.form
  obtain ⟨k4, n4, s4, a4, l4, c4, ks4, rfl, e4, -⟩ := hD.form
  clear e1 e2 e3 e4
  obtain ⟨w2, hw2⟩ : ∃ w2, w2 = (((w.alloc (.cells #[.int .i64 k1, .int .i64 n1, .string s1, .slice a1 l1 c1] 24)).alloc (.cells #[.int .i64 k2, .int .i64 n2, .string s2, .slice a2 l2 c2] 24)).alloc (.cells #[.int .i64 k3, .int .i64 n3, .string s3, .slice a3 l3 c3] 24)).alloc (.cells #[.int .i64 k4, .int .i64 n4, .string s4, .slice a4 l4 c4] 24) := ⟨_, rfl⟩
  have hb2 : Below w.heap.size w w2 := by rw [hw2]; exact ((((Below.refl _ w).alloc (by simp) _).alloc (by simp) _).alloc (by simp <;> omega) _).alloc (by simp <;> omega) _
  have x1 : w2.heap[w.heap.size]? = some (.cells #[.int .i64 k1, .int .i64 n1, .string s1, .slice a1 l1 c1] 24 (0, 0)) := by rw [hw2]; exact (Below.heap_alloc _ _ _ (by simp <;> omega)).trans ((Below.heap_alloc _ _ _ (by simp <;> omega)).trans ((Below.heap_alloc _ _ _ (by simp)).trans (World.alloc_heap_new _ _)))
  have x2 : w2.heap[w.heap.size + 1]? = some (.cells #[.int .i64 k2, .int .i64 n2, .string s2, .slice a2 l2 c2] 24 (0, 0)) := by rw [hw2]; exact (Below.heap_alloc _ _ _ (by simp <;> omega)).trans ((Below.heap_alloc _ _ _ (by simp)).trans ((by simpa using World.alloc_heap_new (w.alloc (.cells #[.int .i64 k1, .int .i64 n1, .string s1, .slice a1 l1 c1] 24)) (.cells #[.int .i64 k2, .int .i64 n2, .string s2, .slice a2 l2 c2] 24))))
  have x3 : w2.heap[w.heap.size + 1 + 1]? = some (.cells #[.int .i64 k3, .int .i64 n3, .string s3, .slice a3 l3 c3] 24 (0, 0)) := by rw [hw2]; exact (Below.heap_alloc _ _ _ (by simp)).trans ((by simpa using World.alloc_heap_new ((w.alloc (.cells #[.int .i64 k1, .int .i64 n1, .string s1, .slice a1 l1 c1] 24)).alloc (.cells #[.int .i64 k2, .int .i64 n2, .string s2, .slice a2 l2 c2] 24)) (.cells #[.int .i64 k3, .int .i64 n3, .string s3, .slice a3 l3 c3] 24)))
  have x4 : w2.heap[w.heap.size + 1 + 1 + 1]? = some (.cells #[.int .i64 k4, .int .i64 n4, .string s4, .slice a4 l4 c4] 24 (0, 0)) := by rw [hw2]; exact (by simpa using World.alloc_heap_new (((w.alloc (.cells #[.int .i64 k1, .int .i64 n1, .string s1, .slice a1 l1 c1] 24)).alloc (.cells #[.int .i64 k2, .int .i64 n2, .string s2, .slice a2 l2 c2] 24)).alloc (.cells #[.int .i64 k3, .int .i64 n3, .string s3, .slice a3 l3 c3] 24)) (.cells #[.int .i64 k4, .int .i64 n4, .string s4, .slice a4 l4 c4] 24))
  have t1 : Has w2 (.agg #[.int .i64 k1, .int .i64 n1, .string s1, .slice a1 l1 c1]) A := Has.below hA hb2
  have t2 : Has w2 (.agg #[.int .i64 k2, .int .i64 n2, .string s2, .slice a2 l2 c2]) B := Has.below hB hb2
  have t3 : Has w2 (.agg #[.int .i64 k3, .int .i64 n3, .string s3, .slice a3 l3 c3]) C := Has.below hC hb2
  have t4 : Has w2 (.agg #[.int .i64 k4, .int .i64 n4, .string s4, .slice a4 l4 c4]) D := Has.below hD hb2
  have H2 := Lib.hid (And.intro hb2 (And.intro x1 (And.intro t1 (And.intro x2 (And.intro t2 (And.intro x3 (And.intro t3 (And.intro x4 t4))))))))
  have HW := Lib.hid hw2
  clear hb2 hw2 x1 t1 hA x2 t2 hB x3 t3 hC x4 t4 hD
  go_enter Try.func5, Try.ntmps5
  go_upto_region 1 with fail
  rw [← HW.out]
  go_wp2_with fail
  refine (shown11_at w2).mono ?_
  rintro e w3 ⟨rfl, hb3⟩
  go_wp2_with fail
  refine (chain11_at 8 w3 (by decide)).mono ?_
  rintro e w4 ⟨v4, rfl, hO4, hb4⟩
  go_wp2_with fail
  refine (latt11_at 8 v4 w3 w4 (by decide) hO4).mono ?_
  rintro e w5 ⟨lb, rfl, hL5, hb5⟩
  have hb25 : Below w2.heap.size w2 w5 := hb3.trans ((hb4.trans (hb5.mono hb4.size)).mono hb3.size)
  go_wp2_with fail
  refine (vars11_at w5 w5.heap.size (Nat.le_refl _)).mono ?_
  rintro e w6 ⟨rfl, V, L6, hS6, hb6⟩
  have hst6 := hS6.base hb25.size
  have hch6 := hL5.below hb6
  have hlo6 := Mut.lo hS6 hb6.size hL5.lt
  have hbl6 : Below w2.heap.size w2 w6 := hb25.trans (hb6.mono hb25.size)
  clear hS6
  obtain ⟨b, hbe⟩ : ∃ b, b = w5.heap.size := ⟨_, rfl⟩
  rw [← hbe] at hst6 hlo6 ⊢
  have HL6 : Hid (LW w2 w6 b V L6 lb σ12) := ⟨hst6, hbl6, hch6, hlo6⟩
  clear hb3 hO4 hb4 hL5 hb5 hb25 hb6 hst6 hch6 hlo6 hbl6 hbe
  go_wp2_with fail
  refine (vars11_at w6 w6.heap.size (Nat.le_refl _)).mono ?_
  rintro e w7 ⟨rfl, Vt, Lt7, hS7, hb7⟩
  obtain ⟨bt, hbt⟩ : ∃ x, x = w6.heap.size := ⟨_, rfl⟩
  rw [← hbt] at hS7 ⊢
  have hS7' : StAt (Oth w7 bt Vt Lt7) w6.heap.size w7 bt Vt Lt7 σ12 := by have h := hS7; rw [hbt] at h ⊢; exact h
  obtain ⟨hT7, hL7, hA7, hB7⟩ := HL6.out.second hS7' hb7
  have HL7 : Hid (LW w2 w7 b V L6 lb σ12) := hL7
  have HT7 : Hid (LW w2 w7 bt Vt Lt7 lb σ12) := hT7
  have HA7 := Lib.hid (And.intro hA7 hB7)
  clear hS7 hS7' hb7 hT7 hL7 hA7 hB7 hbt HL6
  have m1 : ∀ W, Below w7.heap.size w7 W → Calls Try.prog 16 #[.agg #[.int .i64 k1, .int .i64 n1, .string s1, .slice a1 l1 c1]] W (Gets W (.bool A.may11)) := fun W hb => may11_at _ A W (Has.below (HL7.out.has H2.out.2.2.1) hb) (by omega)
  have m2 : ∀ W, Below w7.heap.size w7 W → Calls Try.prog 16 #[.agg #[.int .i64 k2, .int .i64 n2, .string s2, .slice a2 l2 c2]] W (Gets W (.bool B.may11)) := fun W hb => may11_at _ B W (Has.below (HL7.out.has H2.out.2.2.2.2.1) hb) (by omega)
  have m3 : ∀ W, Below w7.heap.size w7 W → Calls Try.prog 16 #[.agg #[.int .i64 k3, .int .i64 n3, .string s3, .slice a3 l3 c3]] W (Gets W (.bool C.may11)) := fun W hb => may11_at _ C W (Has.below (HL7.out.has H2.out.2.2.2.2.2.2.1) hb) (by omega)
  have m4 : ∀ W, Below w7.heap.size w7 W → Calls Try.prog 16 #[.agg #[.int .i64 k4, .int .i64 n4, .string s4, .slice a4 l4 c4]] W (Gets W (.bool D.may11)) := fun W hb => may11_at _ D W (Has.below (HL7.out.has H2.out.2.2.2.2.2.2.2.2) hb) (by omega)
  have y1 := HL7.out.box H2.out.2.1
  have y2 := HL7.out.box H2.out.2.2.2.1
  have y3 := HL7.out.box H2.out.2.2.2.2.2.1
  have y4 := HL7.out.box H2.out.2.2.2.2.2.2.2.1
  obtain ⟨y10, y11, y12, y13⟩ := tbox_cells y1
  obtain ⟨y20, y21, y22, y23⟩ := tbox_cells y2
  obtain ⟨y30, y31, y32, y33⟩ := tbox_cells y3
  obtain ⟨y40, y41, y42, y43⟩ := tbox_cells y4
  by_cases may1 : A.may11 = true
  case neg =>
    have mf : A.may11 = false := by simpa using may1
    rw [mf] at m1
    clear may1 mf
    go_wp2_with (first
      | (go_at_call 16; (with_reducible refine (m1 _ (Below.refl _ _)).mono ?_); rintro e wm1 ⟨rfl, bm1⟩))
    go_ret
    exact ⟨rfl, (HL7.out.step (bm1)).done H2.out.1⟩
  rw [may1] at m1
  by_cases may2 : B.may11 = true
  case neg =>
    have mf : B.may11 = false := by simpa using may2
    rw [mf] at m2
    clear may2 mf
    go_wp2_with (first
      | (go_at_call 16; (have hq := bm1; clear hq); (with_reducible refine (m2 _ (bm1)).mono ?_); rintro e wm2 ⟨rfl, bm2⟩)
      | (go_at_call 16; (with_reducible refine (m1 _ (Below.refl _ _)).mono ?_); rintro e wm1 ⟨rfl, bm1⟩; obtain ⟨y20, y21, y22, y23⟩ := tbox_cells (tbox_below y2 (bm1))))
    go_ret
    exact ⟨rfl, (HL7.out.step ((bm1).trans (bm2.mono (bm1).size))).done H2.out.1⟩
  rw [may2] at m2
  by_cases may3 : C.may11 = true
  case neg =>
    have mf : C.may11 = false := by simpa using may3
    rw [mf] at m3
    clear may3 mf
    go_wp2_with (first
      | (go_at_call 16; (have hq := bm2; clear hq); (with_reducible refine (m3 _ ((bm1).trans (bm2.mono (bm1).size))).mono ?_); rintro e wm3 ⟨rfl, bm3⟩)
      | (go_at_call 16; (have hq := bm1; clear hq); (with_reducible refine (m2 _ (bm1)).mono ?_); rintro e wm2 ⟨rfl, bm2⟩; obtain ⟨y30, y31, y32, y33⟩ := tbox_cells (tbox_below y3 ((bm1).trans (bm2.mono (bm1).size))))
      | (go_at_call 16; (with_reducible refine (m1 _ (Below.refl _ _)).mono ?_); rintro e wm1 ⟨rfl, bm1⟩; obtain ⟨y20, y21, y22, y23⟩ := tbox_cells (tbox_below y2 (bm1))))
    go_ret
    exact ⟨rfl, (HL7.out.step (((bm1).trans (bm2.mono (bm1).size)).trans (bm3.mono ((bm1).trans (bm2.mono (bm1).size)).size))).done H2.out.1⟩
  rw [may3] at m3
  by_cases may4 : D.may11 = true
  case neg =>
    have mf : D.may11 = false := by simpa using may4
    rw [mf] at m4
    clear may4 mf
    go_wp2_with (first
      | (go_at_call 16; (have hq := bm3; clear hq); (with_reducible refine (m4 _ (((bm1).trans (bm2.mono (bm1).size)).trans (bm3.mono ((bm1).trans (bm2.mono (bm1).size)).size))).mono ?_); rintro e wm4 ⟨rfl, bm4⟩)
      | (go_at_call 16; (have hq := bm2; clear hq); (with_reducible refine (m3 _ ((bm1).trans (bm2.mono (bm1).size))).mono ?_); rintro e wm3 ⟨rfl, bm3⟩; obtain ⟨y40, y41, y42, y43⟩ := tbox_cells (tbox_below y4 (((bm1).trans (bm2.mono (bm1).size)).trans (bm3.mono ((bm1).trans (bm2.mono (bm1).size)).size))))
      | (go_at_call 16; (have hq := bm1; clear hq); (with_reducible refine (m2 _ (bm1)).mono ?_); rintro e wm2 ⟨rfl, bm2⟩; obtain ⟨y30, y31, y32, y33⟩ := tbox_cells (tbox_below y3 ((bm1).trans (bm2.mono (bm1).size))))
      | (go_at_call 16; (with_reducible refine (m1 _ (Below.refl _ _)).mono ?_); rintro e wm1 ⟨rfl, bm1⟩; obtain ⟨y20, y21, y22, y23⟩ := tbox_cells (tbox_below y2 (bm1))))
    go_ret
    exact ⟨rfl, (HL7.out.step ((((bm1).trans (bm2.mono (bm1).size)).trans (bm3.mono ((bm1).trans (bm2.mono (bm1).size)).size)).trans (bm4.mono (((bm1).trans (bm2.mono (bm1).size)).trans (bm3.mono ((bm1).trans (bm2.mono (bm1).size)).size)).size))).done H2.out.1⟩
  rw [may4] at m4
  obtain ⟨g1, z1, u1⟩ := may_gv may1
  have HM1 := Lib.hid (And.intro g1 (And.intro z1 u1))
  obtain ⟨g2, z2, u2⟩ := may_gv may2
  have HM2 := Lib.hid (And.intro g2 (And.intro z2 u2))
  obtain ⟨g3, z3, u3⟩ := may_gv may3
  have HM3 := Lib.hid (And.intro g3 (And.intro z3 u3))
  obtain ⟨g4, z4, u4⟩ := may_gv may4
  have HM4 := Lib.hid (And.intro g4 (And.intro z4 u4))
  clear g1 z1 u1 may1 g2 z2 u2 may2 g3 z3 u3 may3 g4 z4 u4 may4
  go_upto_region 7 with (first
    | (go_at_call 16; (have hq := bm3; clear hq); (with_reducible refine (m4 _ (((bm1).trans (bm2.mono (bm1).size)).trans (bm3.mono ((bm1).trans (bm2.mono (bm1).size)).size))).mono ?_); rintro e wm4 ⟨rfl, bm4⟩)
    | (go_at_call 16; (have hq := bm2; clear hq); (with_reducible refine (m3 _ ((bm1).trans (bm2.mono (bm1).size))).mono ?_); rintro e wm3 ⟨rfl, bm3⟩; obtain ⟨y40, y41, y42, y43⟩ := tbox_cells (tbox_below y4 (((bm1).trans (bm2.mono (bm1).size)).trans (bm3.mono ((bm1).trans (bm2.mono (bm1).size)).size))))
    | (go_at_call 16; (have hq := bm1; clear hq); (with_reducible refine (m2 _ (bm1)).mono ?_); rintro e wm2 ⟨rfl, bm2⟩; obtain ⟨y30, y31, y32, y33⟩ := tbox_cells (tbox_below y3 ((bm1).trans (bm2.mono (bm1).size))))
    | (go_at_call 16; (with_reducible refine (m1 _ (Below.refl _ _)).mono ?_); rintro e wm1 ⟨rfl, bm1⟩; obtain ⟨y20, y21, y22, y23⟩ := tbox_cells (tbox_below y2 (bm1))))
  have HLm : Hid (LW w2 wm4 b V L6 lb σ12) := HL7.out.step ((((bm1).trans (bm2.mono (bm1).size)).trans (bm3.mono ((bm1).trans (bm2.mono (bm1).size)).size)).trans (bm4.mono (((bm1).trans (bm2.mono (bm1).size)).trans (bm3.mono ((bm1).trans (bm2.mono (bm1).size)).size)).size))
  have HTm : Hid (LW w2 wm4 bt Vt Lt7 lb σ12) := HT7.out.step ((((bm1).trans (bm2.mono (bm1).size)).trans (bm3.mono ((bm1).trans (bm2.mono (bm1).size)).size)).trans (bm4.mono (((bm1).trans (bm2.mono (bm1).size)).trans (bm3.mono ((bm1).trans (bm2.mono (bm1).size)).size)).size))
  have HAm := Lib.hid (And.intro (HA7.out.1.step ((((bm1).trans (bm2.mono (bm1).size)).trans (bm3.mono ((bm1).trans (bm2.mono (bm1).size)).size)).trans (bm4.mono (((bm1).trans (bm2.mono (bm1).size)).trans (bm3.mono ((bm1).trans (bm2.mono (bm1).size)).size)).size))) (HA7.out.2.step ((((bm1).trans (bm2.mono (bm1).size)).trans (bm3.mono ((bm1).trans (bm2.mono (bm1).size)).size)).trans (bm4.mono (((bm1).trans (bm2.mono (bm1).size)).trans (bm3.mono ((bm1).trans (bm2.mono (bm1).size)).size)).size))))
  clear y10 y11 y12 y13 y1 m1 bm1 y20 y21 y22 y23 y2 m2 bm2 y30 y31 y32 y33 y3 m3 bm3 y40 y41 y42 y43 y4 m4 bm4 HL7 HT7 HA7
  obtain ⟨q10, q11, q12, q13⟩ := tbox_cells (HLm.out.box H2.out.2.1)
  obtain ⟨q20, q21, q22, q23⟩ := tbox_cells (HLm.out.box H2.out.2.2.2.1)
  obtain ⟨q30, q31, q32, q33⟩ := tbox_cells (HLm.out.box H2.out.2.2.2.2.2.1)
  obtain ⟨q40, q41, q42, q43⟩ := tbox_cells (HLm.out.box H2.out.2.2.2.2.2.2.2.1)
  obtain ⟨w8, hw8⟩ : ∃ w8, w8 = (wm4.alloc (.cells #[.int .i64 k1, .int .i64 n1, .string s1, .slice a1 l1 c1, .int .i64 k2, .int .i64 n2, .string s2, .slice a2 l2 c2] 24)).alloc (.cells #[.int .i64 k3, .int .i64 n3, .string s3, .slice a3 l3 c3, .int .i64 k4, .int .i64 n4, .string s4, .slice a4 l4 c4] 24) := ⟨_, rfl⟩
  have hb8 : Below wm4.heap.size wm4 w8 := by rw [hw8]; exact ((Below.refl _ _).alloc (Nat.le_refl _) _).alloc (by simp) _
  have HL8 := Lib.hid (HLm.out.step hb8)
  have HT8 := Lib.hid (HTm.out.step hb8)
  have HA8 := Lib.hid (And.intro (HAm.out.1.step hb8) (HAm.out.2.step hb8))
  have hbA : Below wm4.heap.size wm4 (wm4.alloc (.cells #[.int .i64 k1, .int .i64 n1, .string s1, .slice a1 l1 c1, .int .i64 k2, .int .i64 n2, .string s2, .slice a2 l2 c2] 24)) := (Below.refl _ _).alloc (Nat.le_refl _) _
  have tA : TsIn (Oth w8 b V L6) w8 (.slice (some ⟨wm4.heap.size, 0, none⟩) 2 2) [A, B] := by
    have h1 := two_tsq (q := Oth (wm4.alloc (.cells #[.int .i64 k1, .int .i64 n1, .string s1, .slice a1 l1 c1, .int .i64 k2, .int .i64 n2, .string s2, .slice a2 l2 c2] 24)) b V L6) (HLm.out.term H2.out.2.2.1) (HLm.out.term H2.out.2.2.2.2.1) (fun c hc => hc.1) (fun c hc => hc.below hbA) (HLm.out.st.fresh (w' := wm4.alloc (.cells #[.int .i64 k1, .int .i64 n1, .string s1, .slice a1 l1 c1, .int .i64 k2, .int .i64 n2, .string s2, .slice a2 l2 c2] 24)) (c := wm4.heap.size) ⟨Nat.le_refl _, by simp⟩)
    rw [hw8]
    have hbB : Below (wm4.alloc (.cells #[.int .i64 k1, .int .i64 n1, .string s1, .slice a1 l1 c1, .int .i64 k2, .int .i64 n2, .string s2, .slice a2 l2 c2] 24)).heap.size (wm4.alloc (.cells #[.int .i64 k1, .int .i64 n1, .string s1, .slice a1 l1 c1, .int .i64 k2, .int .i64 n2, .string s2, .slice a2 l2 c2] 24)) ((wm4.alloc (.cells #[.int .i64 k1, .int .i64 n1, .string s1, .slice a1 l1 c1, .int .i64 k2, .int .i64 n2, .string s2, .slice a2 l2 c2] 24)).alloc (.cells #[.int .i64 k3, .int .i64 n3, .string s3, .slice a3 l3 c3, .int .i64 k4, .int .i64 n4, .string s4, .slice a4 l4 c4] 24)) := (Below.refl _ _).alloc (Nat.le_refl _) _
    exact h1.carry (fun c hc => hbB.block c hc.1) (fun c hc => hc.below hbB)
  have tC : TsIn (Oth w8 b V L6) w8 (.slice (some ⟨wm4.heap.size + 1, 0, none⟩) 2 2) [C, D] := by
    have hLA := HLm.out.step hbA
    have h1 := two_tsq (q := Oth w8 b V L6) (hLA.term H2.out.2.2.2.2.2.2.1) (hLA.term H2.out.2.2.2.2.2.2.2.2) (fun c hc => hc.1) (fun c hc => by rw [hw8]; exact hc.below ((Below.refl _ _).alloc (Nat.le_refl _) _)) (hLA.st.fresh (w' := w8) (c := (wm4.alloc (.cells #[.int .i64 k1, .int .i64 n1, .string s1, .slice a1 l1 c1, .int .i64 k2, .int .i64 n2, .string s2, .slice a2 l2 c2] 24)).heap.size) ⟨Nat.le_refl _, by rw [hw8]; simp⟩)
    rw [World.size_alloc] at h1
    rw [hw8] at h1 ⊢
    exact h1
  have hM := match_at HL8.out.st HL8.out.bl.size HL8.out.ch HL8.out.lo (σ12_gv 9) _ _ [A, B] [C, D] tA tC ⟨rfl, fun t ht => by rcases List.mem_cons.1 ht with rfl | ht; exact ⟨HM1.out.1, by have := HM1.out.2.1; omega⟩; rw [List.mem_singleton.1 ht]; exact ⟨HM2.out.1, by have := HM2.out.2.1; omega⟩, fun t ht => by rcases List.mem_cons.1 ht with rfl | ht; exact ⟨HM3.out.1, by have := HM3.out.2.1; omega⟩; rw [List.mem_singleton.1 ht]; exact ⟨HM4.out.1, by have := HM4.out.2.1; omega⟩⟩
  rw [show [A, B].zip [C, D] = [(A, C), (B, D)] from rfl] at hM
  have hgh := lists2_ghost A B C D
  obtain ⟨R1, hR1⟩ : ∃ R, run 9 2000 σ12 [(A, C), (B, D)] 0 = R := ⟨_, rfl⟩
  obtain ⟨R2, hR2⟩ : ∃ R, run 9 2000 σ12 [(fTwo A B, fTwo C D)] 0 = R := ⟨_, rfl⟩
  rw [hR1, hR2] at hgh
  rw [hR1] at hM
  unfold MatchP at hM
  obtain ⟨r30, r31, r32, r33⟩ := tbox_cells ((HLm.out.step hbA).box H2.out.2.2.2.2.2.1)
  obtain ⟨r40, r41, r42, r43⟩ := tbox_cells ((HLm.out.step hbA).box H2.out.2.2.2.2.2.2.2.1)
  have HG := Lib.hid hgh
  have HR2 := Lib.hid hR2
  have HW8 := Lib.hid hw8
  clear hw8 hb8 hbA tA tC hgh hR1 hR2 HLm HTm HAm
  go_upto_region 8 with (go_at_call 25; rw [← HW8.out]; refine hM.mono ?_; clear hM; rintro e w9 ⟨rfl, L9, hS9, hM9⟩)
  have hL9 := HL8.out.mut hM9 hS9
  have HT9 := Lib.hid (HT8.out.beside HA8.out.1 hM9 hL9 σ12_none)
  have HA9 := HA8.out.1.turn hM9
  have hOb : Oth w9 bt Vt Lt7 b := ⟨hS9.lt, fun e => HA9.box.2.1 e.symm, fun e => (HA9.rV b e).2.1 rfl, fun e => (HA9.rL b e).2.1 rfl⟩
  obtain ⟨la9, lc9, hLf⟩ := hS9.rL.form
  have hbox9 := hS9.box
  rw [hLf] at hbox9
  have HS9 := Lib.hid (And.intro hOb hbox9)
  clear hS9 hM9 hL9 HA9 hOb hLf hbox9 HL8 HT8 HA8 HW8 q10 q11 q12 q13 q20 q21 q22 q23 q30 q31 q32 q33 q40 q41 q42 q43 r30 r31 r32 r33 r40 r41 r42 r43
  have HS : ∀ w' : World, Below w9.heap.size w9 w' → ((w'.cell? ⟨w.heap.size, 0, none⟩ = some (.int .i64 k1) ∧ w'.cell? ⟨w.heap.size, 1, none⟩ = some (.int .i64 n1) ∧ w'.cell? ⟨w.heap.size, 2, none⟩ = some (.string s1) ∧ w'.cell? ⟨w.heap.size, 3, none⟩ = some (.slice a1 l1 c1)) ∧ (w'.cell? ⟨w.heap.size + 1, 0, none⟩ = some (.int .i64 k2) ∧ w'.cell? ⟨w.heap.size + 1, 1, none⟩ = some (.int .i64 n2) ∧ w'.cell? ⟨w.heap.size + 1, 2, none⟩ = some (.string s2) ∧ w'.cell? ⟨w.heap.size + 1, 3, none⟩ = some (.slice a2 l2 c2)) ∧ (w'.cell? ⟨w.heap.size + 1 + 1, 0, none⟩ = some (.int .i64 k3) ∧ w'.cell? ⟨w.heap.size + 1 + 1, 1, none⟩ = some (.int .i64 n3) ∧ w'.cell? ⟨w.heap.size + 1 + 1, 2, none⟩ = some (.string s3) ∧ w'.cell? ⟨w.heap.size + 1 + 1, 3, none⟩ = some (.slice a3 l3 c3)) ∧ (w'.cell? ⟨w.heap.size + 1 + 1 + 1, 0, none⟩ = some (.int .i64 k4) ∧ w'.cell? ⟨w.heap.size + 1 + 1 + 1, 1, none⟩ = some (.int .i64 n4) ∧ w'.cell? ⟨w.heap.size + 1 + 1 + 1, 2, none⟩ = some (.string s4) ∧ w'.cell? ⟨w.heap.size + 1 + 1 + 1, 3, none⟩ = some (.slice a4 l4 c4))) := fun w' hb => ⟨tbox_cells ((HT9.out.step hb).box H2.out.2.1), tbox_cells ((HT9.out.step hb).box H2.out.2.2.2.1), tbox_cells ((HT9.out.step hb).box H2.out.2.2.2.2.2.1), tbox_cells ((HT9.out.step hb).box H2.out.2.2.2.2.2.2.2.1)⟩
  have gP : GV 9 (fTwo A B) := fTwo_gv HM1.out.1 HM2.out.1
  have gQ : GV 9 (fTwo C D) := fTwo_gv HM3.out.1 HM4.out.1
  have zP : (fTwo A B).size ≤ 2000000 := by rw [fTwo_size]; have := HM1.out.2.1; have := HM2.out.2.1; omega
  have zQ : (fTwo C D).size ≤ 2000000 := by rw [fTwo_size]; have := HM3.out.2.1; have := HM4.out.2.1; omega
  have z5 : Tm.sizes [A, B] ≤ 1000000000000 := by rw [Tm.sizes_cons, Tm.sizes_cons, Tm.sizes_nil]; omega
  have z9 : Tm.sizes [C, D] ≤ 1000000000000 := by rw [Tm.sizes_cons, Tm.sizes_cons, Tm.sizes_nil]; omega
  have HZ := Lib.hid (And.intro gP (And.intro gQ (And.intro zP (And.intro zQ (And.intro z5 z9)))))
  clear gP gQ zP zQ z5 z9
  refine wp_region_held_drew (S := (fun w' : World => (w'.cell? ⟨w.heap.size, 0, none⟩ = some (.int .i64 k1) ∧ w'.cell? ⟨w.heap.size, 1, none⟩ = some (.int .i64 n1) ∧ w'.cell? ⟨w.heap.size, 2, none⟩ = some (.string s1) ∧ w'.cell? ⟨w.heap.size, 3, none⟩ = some (.slice a1 l1 c1)) ∧ (w'.cell? ⟨w.heap.size + 1, 0, none⟩ = some (.int .i64 k2) ∧ w'.cell? ⟨w.heap.size + 1, 1, none⟩ = some (.int .i64 n2) ∧ w'.cell? ⟨w.heap.size + 1, 2, none⟩ = some (.string s2) ∧ w'.cell? ⟨w.heap.size + 1, 3, none⟩ = some (.slice a2 l2 c2)) ∧ (w'.cell? ⟨w.heap.size + 1 + 1, 0, none⟩ = some (.int .i64 k3) ∧ w'.cell? ⟨w.heap.size + 1 + 1, 1, none⟩ = some (.int .i64 n3) ∧ w'.cell? ⟨w.heap.size + 1 + 1, 2, none⟩ = some (.string s3) ∧ w'.cell? ⟨w.heap.size + 1 + 1, 3, none⟩ = some (.slice a3 l3 c3)) ∧ (w'.cell? ⟨w.heap.size + 1 + 1 + 1, 0, none⟩ = some (.int .i64 k4) ∧ w'.cell? ⟨w.heap.size + 1 + 1 + 1, 1, none⟩ = some (.int .i64 n4) ∧ w'.cell? ⟨w.heap.size + 1 + 1 + 1, 2, none⟩ = some (.string s4) ∧ w'.cell? ⟨w.heap.size + 1 + 1 + 1, 3, none⟩ = some (.slice a4 l4 c4)))) (by kernel_rfl) (HS _ (Below.refl _ _).drew) (fun hHeld => ?_)
  have hE0 : Below w9.heap.size w9 w9.drew := (Below.refl _ _).drew
  refine wpAnyH_take (i := 0) (v := ?_) rfl (by kernel_rfl) (by kernel_rfl) (by kernel_rfl) (fun _ _ _ h => h) (Or.inl ⟨by kernel_rfl, ?_⟩) hHeld ?_
  rotate_left
  · intro w0 hSw
    (try dsimp only at hSw)
    go_simp
    try (with_reducible rfl)
  try simp only [Act.put, List.setIfInBounds_toArray, List.set_cons_zero, List.set_cons_succ]
  refine wpAnyH_take (i := 1) (v := ?_) rfl (by kernel_rfl) (by kernel_rfl) (by kernel_rfl) (fun _ _ _ h => h) (Or.inl ⟨by kernel_rfl, ?_⟩) hHeld ?_
  rotate_left
  · intro w0 hSw
    (try dsimp only at hSw)
    go_simp
    try (with_reducible rfl)
  try simp only [Act.put, List.setIfInBounds_toArray, List.set_cons_zero, List.set_cons_succ]
  refine wpAnyH_take (i := 2) (v := ?_) rfl (by kernel_rfl) (by kernel_rfl) (by kernel_rfl) (fun _ _ _ h => h) (Or.inl ⟨by kernel_rfl, ?_⟩) hHeld ?_
  rotate_left
  · intro w0 hSw
    (try dsimp only at hSw)
    go_simp
    try (with_reducible rfl)
  try simp only [Act.put, List.setIfInBounds_toArray, List.set_cons_zero, List.set_cons_succ]
  refine wpAnyH_take (i := 3) (v := ?_) rfl (by kernel_rfl) (by kernel_rfl) (by kernel_rfl) (fun _ _ _ h => h) (Or.inl ⟨by kernel_rfl, ?_⟩) hHeld ?_
  rotate_left
  · intro w0 hSw
    (try dsimp only at hSw)
    go_simp
    try (with_reducible rfl)
  try simp only [Act.put, List.setIfInBounds_toArray, List.set_cons_zero, List.set_cons_succ]
  refine wpAnyH_take (i := 6) (v := ?_) rfl (by kernel_rfl) (by kernel_rfl) (by kernel_rfl) (fun _ _ _ h => h) (Or.inl ⟨by kernel_rfl, ?_⟩) hHeld ?_
  rotate_left
  · intro w0 hSw
    (try dsimp only at hSw)
    go_simp
    try (with_reducible rfl)
  try simp only [Act.put, List.setIfInBounds_toArray, List.set_cons_zero, List.set_cons_succ]
  refine wpAnyH_take (i := 7) (v := ?_) rfl (by kernel_rfl) (by kernel_rfl) (by kernel_rfl) (fun _ _ _ h => h) (Or.inl ⟨by kernel_rfl, ?_⟩) hHeld ?_
  rotate_left
  · intro w0 hSw
    (try dsimp only at hSw)
    go_simp
    try (with_reducible rfl)
  try simp only [Act.put, List.setIfInBounds_toArray, List.set_cons_zero, List.set_cons_succ]
  generalize w9.drew = wD at hHeld hE0 ⊢
  refine wpAnyH_ready (rs := [4, 8]) (by kernel_rfl) (by simp) ?_
  refine AllReadyH.cons rfl (fun K hK => ?_) (AllReadyH.cons rfl (fun K hK => ?_) AllReadyH.nil)
  · go_simp
    skip
    obtain ⟨W2, hW2⟩ : ∃ W_, W_ = World.alloc wD (.cells #[.int .i64 k1, .int .i64 n1, .string s1, .slice a1 l1 c1, .int .i64 k2, .int .i64 n2, .string s2, .slice a2 l2 c2] 24) := ⟨_, rfl⟩
    have hb2 : Below wD.heap.size wD W2 := by rw [hW2]; exact (Below.refl _ _).alloc (Nat.le_refl _) _
    have hE2 : Below w9.heap.size w9 W2 := hE0.trans (hb2.mono hE0.size)
    have hTs := two_terms ((HT9.out.step hE0).has H2.out.2.2.1) ((HT9.out.step hE0).has H2.out.2.2.2.2.1)
    rw [← hW2] at hTs
    rw [← hW2]
    clear hW2
    refine hK.out _ _ (HS _ hE2) (fun hh3 => ?_)
    clear hK K
    try simp only [Act.put, List.setIfInBounds_toArray, List.set_cons_zero, List.set_cons_succ]
    refine wpAnyH_ready (rs := [5, 8]) (by kernel_rfl) (by simp) ?_
    refine AllReadyH.cons rfl (fun K hK => ?_) (AllReadyH.cons rfl (fun K hK => ?_) AllReadyH.nil)
    · go_simp
      refine (make_at (ByteArray.mk #[102]) _ [A, B] W2 (by unfold maxLen; decide) hTs HZ.out.2.2.2.2.1).mono ?_
      intro e W4 hh_
      obtain ⟨k5, n5, s5, a5, l5, c5, rfl, hN5, hb4⟩ := hh_.has2
      have hT5 := has_new hN5
      go_wp2_with fail
      have hE4 : Below w9.heap.size w9 W4 := hE2.trans (hb4.mono hE2.size)
      have hTs := HasTs.below hTs hb4
      have hQ5 := HT9.out.st.new (hN5.carry (fun _ _ => rfl) (fun c hc => ⟨Nat.le_trans hE2.size hc.1, hc.2⟩))
      refine hK.out _ _ (HS _ hE4) (fun hh5 => ?_)
      clear hK K
      try simp only [Act.put, List.setIfInBounds_toArray, List.set_cons_zero, List.set_cons_succ]
      refine wpAnyH_ready (rs := [8]) (by kernel_rfl) (by simp) ?_
      refine AllReadyH.cons rfl (fun K hK => ?_) AllReadyH.nil
      go_simp
      skip
      obtain ⟨W6, hW6⟩ : ∃ W_, W_ = World.alloc W4 (.cells #[.int .i64 k3, .int .i64 n3, .string s3, .slice a3 l3 c3, .int .i64 k4, .int .i64 n4, .string s4, .slice a4 l4 c4] 24) := ⟨_, rfl⟩
      have hb6 : Below W4.heap.size W4 W6 := by rw [hW6]; exact (Below.refl _ _).alloc (Nat.le_refl _) _
      have hE6 : Below w9.heap.size w9 W6 := hE4.trans (hb6.mono hE4.size)
      have hTs2 := two_terms ((HT9.out.step hE4).has H2.out.2.2.2.2.2.2.1) ((HT9.out.step hE4).has H2.out.2.2.2.2.2.2.2.2)
      rw [← hW6] at hTs2
      have hT5 := Has.below hT5 hb6
      have hQ5 := oth_below hb6 hQ5
      rw [← hW6]
      clear hW6
      refine hK.out _ _ (HS _ hE6) (fun hh7 => ?_)
      clear hK K
      try simp only [Act.put, List.setIfInBounds_toArray, List.set_cons_zero, List.set_cons_succ]
      refine wpAnyH_ready (rs := [9]) (by kernel_rfl) (by simp) ?_
      refine AllReadyH.cons rfl (fun K hK => ?_) AllReadyH.nil
      go_simp
      refine (make_at (ByteArray.mk #[102]) _ [C, D] W6 (by unfold maxLen; decide) hTs2 HZ.out.2.2.2.2.2).mono ?_
      intro e W8 hh_
      obtain ⟨k9, n9, s9, a9, l9, c9, rfl, hN9, hb8⟩ := hh_.has2
      have hT9 := has_new hN9
      go_wp2_with fail
      have hE8 : Below w9.heap.size w9 W8 := hE6.trans (hb8.mono hE6.size)
      have hT5 := Has.below hT5 hb8
      have hTs2 := HasTs.below hTs2 hb8
      have hQ5 := oth_below hb8 hQ5
      have hQ9 := HT9.out.st.new (hN9.carry (fun _ _ => rfl) (fun c hc => ⟨Nat.le_trans hE6.size hc.1, hc.2⟩))
      refine hK.out _ _ (HS _ hE8) (fun hh9 => ?_)
      clear hK K
      try simp only [Act.put, List.setIfInBounds_toArray, List.set_cons_zero, List.set_cons_succ]
      have hU := (HT9.out.step hE8).unify (σ12_gv 9) _ _ (fTwo A B) (fTwo C D) hQ5 hQ9 HZ.out.1 HZ.out.2.1 HZ.out.2.2.1 HZ.out.2.2.2.1
      rw [HR2.out] at hU
      have hOb := HS9.out.1.below hE8
      have hbU0 := (hE8.block b HS9.out.1.1).trans HS9.out.2
      refine wpAnyH_ready (rs := [10]) (by kernel_rfl) (by simp) ?_
      refine AllReadyH.cons rfl (fun K hK => ?_) AllReadyH.nil
      go_simp
      refine hU.mono ?_
      clear hU
      rintro e wU ⟨rfl, LU, hlU, hmU⟩
      go_wp2_with fail
      have hbU := (hmU.keep b hOb).1.trans hbU0
      clear hmU hOb hbU0
      have hSU : (wU.cell? ⟨w.heap.size, 0, none⟩ = some (.int .i64 k1) ∧ wU.cell? ⟨w.heap.size, 1, none⟩ = some (.int .i64 n1) ∧ wU.cell? ⟨w.heap.size, 2, none⟩ = some (.string s1) ∧ wU.cell? ⟨w.heap.size, 3, none⟩ = some (.slice a1 l1 c1)) ∧ (wU.cell? ⟨w.heap.size + 1, 0, none⟩ = some (.int .i64 k2) ∧ wU.cell? ⟨w.heap.size + 1, 1, none⟩ = some (.int .i64 n2) ∧ wU.cell? ⟨w.heap.size + 1, 2, none⟩ = some (.string s2) ∧ wU.cell? ⟨w.heap.size + 1, 3, none⟩ = some (.slice a2 l2 c2)) ∧ (wU.cell? ⟨w.heap.size + 1 + 1, 0, none⟩ = some (.int .i64 k3) ∧ wU.cell? ⟨w.heap.size + 1 + 1, 1, none⟩ = some (.int .i64 n3) ∧ wU.cell? ⟨w.heap.size + 1 + 1, 2, none⟩ = some (.string s3) ∧ wU.cell? ⟨w.heap.size + 1 + 1, 3, none⟩ = some (.slice a3 l3 c3)) ∧ (wU.cell? ⟨w.heap.size + 1 + 1 + 1, 0, none⟩ = some (.int .i64 k4) ∧ wU.cell? ⟨w.heap.size + 1 + 1 + 1, 1, none⟩ = some (.int .i64 n4) ∧ wU.cell? ⟨w.heap.size + 1 + 1 + 1, 2, none⟩ = some (.string s4) ∧ wU.cell? ⟨w.heap.size + 1 + 1 + 1, 3, none⟩ = some (.slice a4 l4 c4)) := ⟨tbox_cells (hlU.box H2.out.2.1), tbox_cells (hlU.box H2.out.2.2.2.1), tbox_cells (hlU.box H2.out.2.2.2.2.2.1), tbox_cells (hlU.box H2.out.2.2.2.2.2.2.2.1)⟩
      refine hK.out _ _ hSU (fun hhU => ?_)
      clear hK K
      try simp only [Act.put, List.setIfInBounds_toArray, List.set_cons_zero, List.set_cons_succ]
      refine wpAnyH_take (i := 11) (v := ?_) rfl (by kernel_rfl) (by kernel_rfl) (by kernel_rfl) (fun _ _ _ h => h) (Or.inl ⟨by kernel_rfl, ?_⟩) hhU ?_
      rotate_left
      · intro w0 hSw
        (try dsimp only at hSw)
        go_simp
        try (with_reducible rfl)
      try simp only [Act.put, List.setIfInBounds_toArray, List.set_cons_zero, List.set_cons_succ]
      refine wpAnyH_take (i := 12) (v := ?_) rfl (by kernel_rfl) (by kernel_rfl) (by kernel_rfl) (fun _ _ _ h => h) (Or.inl ⟨by kernel_rfl, ?_⟩) hhU ?_
      rotate_left
      · intro w0 hSw
        (try dsimp only at hSw)
        go_simp
        try (with_reducible rfl)
      try simp only [Act.put, List.setIfInBounds_toArray, List.set_cons_zero, List.set_cons_succ]
      refine wpAnyH_take (i := 13) (v := ?_) rfl (by kernel_rfl) (by kernel_rfl) (by kernel_rfl) (fun _ _ _ h => h) (Or.inl ⟨by kernel_rfl, ?_⟩) hhU ?_
      rotate_left
      · intro w0 hSw
        (try dsimp only at hSw)
        go_simp
        try (with_reducible rfl)
      try simp only [Act.put, List.setIfInBounds_toArray, List.set_cons_zero, List.set_cons_succ]
      refine wpAnyH_take (i := 14) (v := ?_) rfl (by kernel_rfl) (by kernel_rfl) (by kernel_rfl) (fun _ _ _ h => h) (Or.inl ⟨by kernel_rfl, ?_⟩) hhU ?_
      rotate_left
      · intro w0 hSw
        (try dsimp only at hSw)
        go_simp
        try (with_reducible rfl)
      try simp only [Act.put, List.setIfInBounds_toArray, List.set_cons_zero, List.set_cons_succ]
      refine wpAnyH_ready (rs := [15]) (by kernel_rfl) (by simp) ?_
      refine AllReadyH.cons rfl (fun K hK => ?_) AllReadyH.nil
      go_simp
      refine hK.out _ _ hSU (fun hhU => ?_)
      clear hK K
      try simp only [Act.put, List.setIfInBounds_toArray, List.set_cons_zero, List.set_cons_succ]
      refine wpAnyH_ready (rs := [16]) (by kernel_rfl) (by simp) ?_
      refine AllReadyH.cons rfl (fun K hK => ?_) AllReadyH.nil
      go_simp
      refine hK.out _ _ hSU (fun hhU => ?_)
      clear hK K
      try simp only [Act.put, List.setIfInBounds_toArray, List.set_cons_zero, List.set_cons_succ]
      refine wpAnyH_ready (rs := [17]) (by kernel_rfl) (by simp) ?_
      refine AllReadyH.cons rfl (fun K hK => ?_) AllReadyH.nil
      go_simp
      refine hK.out _ _ hSU (fun hhU => ?_)
      clear hK K
      try simp only [Act.put, List.setIfInBounds_toArray, List.set_cons_zero, List.set_cons_succ]
      refine wpAnyH_done (by kernel_rfl) ?_ _
      clear hSU
      go_upto_region 9 with fail
      have hEq := HG.out
      have HB := Lib.hid (And.intro hlU hbU)
      clear hlU hbU HG HR2 HS9 HT9 HS hhU
      by_cases h2 : R2.err = 0
      · have e12 := hEq h2
        subst e12
        have HM := mark_box wU b V la9 R1.σ.tr.length lc9 HB.out.2
        have HN := mark_at HB.out.1.st
        obtain ⟨tn, htn⟩ : ∃ x, R1.σ.tr.length = x := ⟨_, rfl⟩
        rw [htn] at HM HN
        obtain ⟨ri, hri⟩ : ∃ x, R1.is = x := ⟨_, rfl⟩
        obtain ⟨rl, hrl⟩ : ∃ x, R1.lv = x := ⟨_, rfl⟩
        rw [h2, hri, hrl]
        clear hEq h2 hri hrl htn
        go_wp2_with (first
          | (go_at_call 24; (with_reducible refine HM.mono ?_); clear HM; rintro e wm ⟨rfl, rfl⟩)
          | (go_at_call 24; (with_reducible refine HN.mono ?_); clear HN; rintro e wm ⟨rfl, rfl⟩))
        go_ret
        exact ⟨rfl, HB.out.1.done H2.out.1⟩
      · have d2 : (R2.err != 0) = true := by simpa using h2
        obtain ⟨x2, hx2⟩ : ∃ x, R2.err = x := ⟨_, rfl⟩
        rw [hx2] at d2 ⊢
        obtain ⟨x1, hx1⟩ : ∃ x, R1.err = x := ⟨_, rfl⟩
        rw [hx1]
        clear hEq h2 hx2 hx1
        by_cases h1 : x1 = 0
        · subst h1
          go_wp2_with fail
          go_ret
          exact ⟨rfl, HB.out.1.done H2.out.1⟩
        · have d1 : (x1 != 0) = true := by simpa using h1
          clear h1
          go_wp2_with fail
          go_ret
          exact ⟨rfl, HB.out.1.done H2.out.1⟩
    · go_simp
      skip
      obtain ⟨W4, hW4⟩ : ∃ W_, W_ = World.alloc W2 (.cells #[.int .i64 k3, .int .i64 n3, .string s3, .slice a3 l3 c3, .int .i64 k4, .int .i64 n4, .string s4, .slice a4 l4 c4] 24) := ⟨_, rfl⟩
      have hb4 : Below W2.heap.size W2 W4 := by rw [hW4]; exact (Below.refl _ _).alloc (Nat.le_refl _) _
      have hE4 : Below w9.heap.size w9 W4 := hE2.trans (hb4.mono hE2.size)
      have hTs2 := two_terms ((HT9.out.step hE2).has H2.out.2.2.2.2.2.2.1) ((HT9.out.step hE2).has H2.out.2.2.2.2.2.2.2.2)
      rw [← hW4] at hTs2
      have hTs := HasTs.below hTs hb4
      rw [← hW4]
      clear hW4
      refine hK.out _ _ (HS _ hE4) (fun hh5 => ?_)
      clear hK K
      try simp only [Act.put, List.setIfInBounds_toArray, List.set_cons_zero, List.set_cons_succ]
      refine wpAnyH_ready (rs := [5]) (by kernel_rfl) (by simp) ?_
      refine AllReadyH.cons rfl (fun K hK => ?_) AllReadyH.nil
      go_simp
      refine (make_at (ByteArray.mk #[102]) _ [A, B] W4 (by unfold maxLen; decide) hTs HZ.out.2.2.2.2.1).mono ?_
      intro e W6 hh_
      obtain ⟨k5, n5, s5, a5, l5, c5, rfl, hN5, hb6⟩ := hh_.has2
      have hT5 := has_new hN5
      go_wp2_with fail
      have hE6 : Below w9.heap.size w9 W6 := hE4.trans (hb6.mono hE4.size)
      have hTs := HasTs.below hTs hb6
      have hTs2 := HasTs.below hTs2 hb6
      have hQ5 := HT9.out.st.new (hN5.carry (fun _ _ => rfl) (fun c hc => ⟨Nat.le_trans hE4.size hc.1, hc.2⟩))
      refine hK.out _ _ (HS _ hE6) (fun hh7 => ?_)
      clear hK K
      try simp only [Act.put, List.setIfInBounds_toArray, List.set_cons_zero, List.set_cons_succ]
      refine wpAnyH_ready (rs := [9]) (by kernel_rfl) (by simp) ?_
      refine AllReadyH.cons rfl (fun K hK => ?_) AllReadyH.nil
      go_simp
      refine (make_at (ByteArray.mk #[102]) _ [C, D] W6 (by unfold maxLen; decide) hTs2 HZ.out.2.2.2.2.2).mono ?_
      intro e W8 hh_
      obtain ⟨k9, n9, s9, a9, l9, c9, rfl, hN9, hb8⟩ := hh_.has2
      have hT9 := has_new hN9
      go_wp2_with fail
      have hE8 : Below w9.heap.size w9 W8 := hE6.trans (hb8.mono hE6.size)
      have hT5 := Has.below hT5 hb8
      have hTs2 := HasTs.below hTs2 hb8
      have hQ5 := oth_below hb8 hQ5
      have hQ9 := HT9.out.st.new (hN9.carry (fun _ _ => rfl) (fun c hc => ⟨Nat.le_trans hE6.size hc.1, hc.2⟩))
      refine hK.out _ _ (HS _ hE8) (fun hh9 => ?_)
      clear hK K
      try simp only [Act.put, List.setIfInBounds_toArray, List.set_cons_zero, List.set_cons_succ]
      have hU := (HT9.out.step hE8).unify (σ12_gv 9) _ _ (fTwo A B) (fTwo C D) hQ5 hQ9 HZ.out.1 HZ.out.2.1 HZ.out.2.2.1 HZ.out.2.2.2.1
      rw [HR2.out] at hU
      have hOb := HS9.out.1.below hE8
      have hbU0 := (hE8.block b HS9.out.1.1).trans HS9.out.2
      refine wpAnyH_ready (rs := [10]) (by kernel_rfl) (by simp) ?_
      refine AllReadyH.cons rfl (fun K hK => ?_) AllReadyH.nil
      go_simp
      refine hU.mono ?_
      clear hU
      rintro e wU ⟨rfl, LU, hlU, hmU⟩
      go_wp2_with fail
      have hbU := (hmU.keep b hOb).1.trans hbU0
      clear hmU hOb hbU0
      have hSU : (wU.cell? ⟨w.heap.size, 0, none⟩ = some (.int .i64 k1) ∧ wU.cell? ⟨w.heap.size, 1, none⟩ = some (.int .i64 n1) ∧ wU.cell? ⟨w.heap.size, 2, none⟩ = some (.string s1) ∧ wU.cell? ⟨w.heap.size, 3, none⟩ = some (.slice a1 l1 c1)) ∧ (wU.cell? ⟨w.heap.size + 1, 0, none⟩ = some (.int .i64 k2) ∧ wU.cell? ⟨w.heap.size + 1, 1, none⟩ = some (.int .i64 n2) ∧ wU.cell? ⟨w.heap.size + 1, 2, none⟩ = some (.string s2) ∧ wU.cell? ⟨w.heap.size + 1, 3, none⟩ = some (.slice a2 l2 c2)) ∧ (wU.cell? ⟨w.heap.size + 1 + 1, 0, none⟩ = some (.int .i64 k3) ∧ wU.cell? ⟨w.heap.size + 1 + 1, 1, none⟩ = some (.int .i64 n3) ∧ wU.cell? ⟨w.heap.size + 1 + 1, 2, none⟩ = some (.string s3) ∧ wU.cell? ⟨w.heap.size + 1 + 1, 3, none⟩ = some (.slice a3 l3 c3)) ∧ (wU.cell? ⟨w.heap.size + 1 + 1 + 1, 0, none⟩ = some (.int .i64 k4) ∧ wU.cell? ⟨w.heap.size + 1 + 1 + 1, 1, none⟩ = some (.int .i64 n4) ∧ wU.cell? ⟨w.heap.size + 1 + 1 + 1, 2, none⟩ = some (.string s4) ∧ wU.cell? ⟨w.heap.size + 1 + 1 + 1, 3, none⟩ = some (.slice a4 l4 c4)) := ⟨tbox_cells (hlU.box H2.out.2.1), tbox_cells (hlU.box H2.out.2.2.2.1), tbox_cells (hlU.box H2.out.2.2.2.2.2.1), tbox_cells (hlU.box H2.out.2.2.2.2.2.2.2.1)⟩
      refine hK.out _ _ hSU (fun hhU => ?_)
      clear hK K
      try simp only [Act.put, List.setIfInBounds_toArray, List.set_cons_zero, List.set_cons_succ]
      refine wpAnyH_take (i := 11) (v := ?_) rfl (by kernel_rfl) (by kernel_rfl) (by kernel_rfl) (fun _ _ _ h => h) (Or.inl ⟨by kernel_rfl, ?_⟩) hhU ?_
      rotate_left
      · intro w0 hSw
        (try dsimp only at hSw)
        go_simp
        try (with_reducible rfl)
      try simp only [Act.put, List.setIfInBounds_toArray, List.set_cons_zero, List.set_cons_succ]
      refine wpAnyH_take (i := 12) (v := ?_) rfl (by kernel_rfl) (by kernel_rfl) (by kernel_rfl) (fun _ _ _ h => h) (Or.inl ⟨by kernel_rfl, ?_⟩) hhU ?_
      rotate_left
      · intro w0 hSw
        (try dsimp only at hSw)
        go_simp
        try (with_reducible rfl)
      try simp only [Act.put, List.setIfInBounds_toArray, List.set_cons_zero, List.set_cons_succ]
      refine wpAnyH_take (i := 13) (v := ?_) rfl (by kernel_rfl) (by kernel_rfl) (by kernel_rfl) (fun _ _ _ h => h) (Or.inl ⟨by kernel_rfl, ?_⟩) hhU ?_
      rotate_left
      · intro w0 hSw
        (try dsimp only at hSw)
        go_simp
        try (with_reducible rfl)
      try simp only [Act.put, List.setIfInBounds_toArray, List.set_cons_zero, List.set_cons_succ]
      refine wpAnyH_take (i := 14) (v := ?_) rfl (by kernel_rfl) (by kernel_rfl) (by kernel_rfl) (fun _ _ _ h => h) (Or.inl ⟨by kernel_rfl, ?_⟩) hhU ?_
      rotate_left
      · intro w0 hSw
        (try dsimp only at hSw)
        go_simp
        try (with_reducible rfl)
      try simp only [Act.put, List.setIfInBounds_toArray, List.set_cons_zero, List.set_cons_succ]
      refine wpAnyH_ready (rs := [15]) (by kernel_rfl) (by simp) ?_
      refine AllReadyH.cons rfl (fun K hK => ?_) AllReadyH.nil
      go_simp
      refine hK.out _ _ hSU (fun hhU => ?_)
      clear hK K
      try simp only [Act.put, List.setIfInBounds_toArray, List.set_cons_zero, List.set_cons_succ]
      refine wpAnyH_ready (rs := [16]) (by kernel_rfl) (by simp) ?_
      refine AllReadyH.cons rfl (fun K hK => ?_) AllReadyH.nil
      go_simp
      refine hK.out _ _ hSU (fun hhU => ?_)
      clear hK K
      try simp only [Act.put, List.setIfInBounds_toArray, List.set_cons_zero, List.set_cons_succ]
      refine wpAnyH_ready (rs := [17]) (by kernel_rfl) (by simp) ?_
      refine AllReadyH.cons rfl (fun K hK => ?_) AllReadyH.nil
      go_simp
      refine hK.out _ _ hSU (fun hhU => ?_)
      clear hK K
      try simp only [Act.put, List.setIfInBounds_toArray, List.set_cons_zero, List.set_cons_succ]
      refine wpAnyH_done (by kernel_rfl) ?_ _
      clear hSU
      go_upto_region 9 with fail
      have hEq := HG.out
      have HB := Lib.hid (And.intro hlU hbU)
      clear hlU hbU HG HR2 HS9 HT9 HS hhU
      by_cases h2 : R2.err = 0
      · have e12 := hEq h2
        subst e12
        have HM := mark_box wU b V la9 R1.σ.tr.length lc9 HB.out.2
        have HN := mark_at HB.out.1.st
        obtain ⟨tn, htn⟩ : ∃ x, R1.σ.tr.length = x := ⟨_, rfl⟩
        rw [htn] at HM HN
        obtain ⟨ri, hri⟩ : ∃ x, R1.is = x := ⟨_, rfl⟩
        obtain ⟨rl, hrl⟩ : ∃ x, R1.lv = x := ⟨_, rfl⟩
        rw [h2, hri, hrl]
        clear hEq h2 hri hrl htn
        go_wp2_with (first
          | (go_at_call 24; (with_reducible refine HM.mono ?_); clear HM; rintro e wm ⟨rfl, rfl⟩)
          | (go_at_call 24; (with_reducible refine HN.mono ?_); clear HN; rintro e wm ⟨rfl, rfl⟩))
        go_ret
        exact ⟨rfl, HB.out.1.done H2.out.1⟩
      · have d2 : (R2.err != 0) = true := by simpa using h2
        obtain ⟨x2, hx2⟩ : ∃ x, R2.err = x := ⟨_, rfl⟩
        rw [hx2] at d2 ⊢
        obtain ⟨x1, hx1⟩ : ∃ x, R1.err = x := ⟨_, rfl⟩
        rw [hx1]
        clear hEq h2 hx2 hx1
        by_cases h1 : x1 = 0
        · subst h1
          go_wp2_with fail
          go_ret
          exact ⟨rfl, HB.out.1.done H2.out.1⟩
        · have d1 : (x1 != 0) = true := by simpa using h1
          clear h1
          go_wp2_with fail
          go_ret
          exact ⟨rfl, HB.out.1.done H2.out.1⟩
  · go_simp
    skip
    obtain ⟨W2, hW2⟩ : ∃ W_, W_ = World.alloc wD (.cells #[.int .i64 k3, .int .i64 n3, .string s3, .slice a3 l3 c3, .int .i64 k4, .int .i64 n4, .string s4, .slice a4 l4 c4] 24) := ⟨_, rfl⟩
    have hb2 : Below wD.heap.size wD W2 := by rw [hW2]; exact (Below.refl _ _).alloc (Nat.le_refl _) _
    have hE2 : Below w9.heap.size w9 W2 := hE0.trans (hb2.mono hE0.size)
    have hTs2 := two_terms ((HT9.out.step hE0).has H2.out.2.2.2.2.2.2.1) ((HT9.out.step hE0).has H2.out.2.2.2.2.2.2.2.2)
    rw [← hW2] at hTs2
    rw [← hW2]
    clear hW2
    refine hK.out _ _ (HS _ hE2) (fun hh3 => ?_)
    clear hK K
    try simp only [Act.put, List.setIfInBounds_toArray, List.set_cons_zero, List.set_cons_succ]
    refine wpAnyH_ready (rs := [4]) (by kernel_rfl) (by simp) ?_
    refine AllReadyH.cons rfl (fun K hK => ?_) AllReadyH.nil
    go_simp
    skip
    obtain ⟨W4, hW4⟩ : ∃ W_, W_ = World.alloc W2 (.cells #[.int .i64 k1, .int .i64 n1, .string s1, .slice a1 l1 c1, .int .i64 k2, .int .i64 n2, .string s2, .slice a2 l2 c2] 24) := ⟨_, rfl⟩
    have hb4 : Below W2.heap.size W2 W4 := by rw [hW4]; exact (Below.refl _ _).alloc (Nat.le_refl _) _
    have hE4 : Below w9.heap.size w9 W4 := hE2.trans (hb4.mono hE2.size)
    have hTs := two_terms ((HT9.out.step hE2).has H2.out.2.2.1) ((HT9.out.step hE2).has H2.out.2.2.2.2.1)
    rw [← hW4] at hTs
    have hTs2 := HasTs.below hTs2 hb4
    rw [← hW4]
    clear hW4
    refine hK.out _ _ (HS _ hE4) (fun hh5 => ?_)
    clear hK K
    try simp only [Act.put, List.setIfInBounds_toArray, List.set_cons_zero, List.set_cons_succ]
    refine wpAnyH_ready (rs := [5]) (by kernel_rfl) (by simp) ?_
    refine AllReadyH.cons rfl (fun K hK => ?_) AllReadyH.nil
    go_simp
    refine (make_at (ByteArray.mk #[102]) _ [A, B] W4 (by unfold maxLen; decide) hTs HZ.out.2.2.2.2.1).mono ?_
    intro e W6 hh_
    obtain ⟨k5, n5, s5, a5, l5, c5, rfl, hN5, hb6⟩ := hh_.has2
    have hT5 := has_new hN5
    go_wp2_with fail
    have hE6 : Below w9.heap.size w9 W6 := hE4.trans (hb6.mono hE4.size)
    have hTs2 := HasTs.below hTs2 hb6
    have hTs := HasTs.below hTs hb6
    have hQ5 := HT9.out.st.new (hN5.carry (fun _ _ => rfl) (fun c hc => ⟨Nat.le_trans hE4.size hc.1, hc.2⟩))
    refine hK.out _ _ (HS _ hE6) (fun hh7 => ?_)
    clear hK K
    try simp only [Act.put, List.setIfInBounds_toArray, List.set_cons_zero, List.set_cons_succ]
    refine wpAnyH_ready (rs := [9]) (by kernel_rfl) (by simp) ?_
    refine AllReadyH.cons rfl (fun K hK => ?_) AllReadyH.nil
    go_simp
    refine (make_at (ByteArray.mk #[102]) _ [C, D] W6 (by unfold maxLen; decide) hTs2 HZ.out.2.2.2.2.2).mono ?_
    intro e W8 hh_
    obtain ⟨k9, n9, s9, a9, l9, c9, rfl, hN9, hb8⟩ := hh_.has2
    have hT9 := has_new hN9
    go_wp2_with fail
    have hE8 : Below w9.heap.size w9 W8 := hE6.trans (hb8.mono hE6.size)
    have hT5 := Has.below hT5 hb8
    have hTs2 := HasTs.below hTs2 hb8
    have hQ5 := oth_below hb8 hQ5
    have hQ9 := HT9.out.st.new (hN9.carry (fun _ _ => rfl) (fun c hc => ⟨Nat.le_trans hE6.size hc.1, hc.2⟩))
    refine hK.out _ _ (HS _ hE8) (fun hh9 => ?_)
    clear hK K
    try simp only [Act.put, List.setIfInBounds_toArray, List.set_cons_zero, List.set_cons_succ]
    have hU := (HT9.out.step hE8).unify (σ12_gv 9) _ _ (fTwo A B) (fTwo C D) hQ5 hQ9 HZ.out.1 HZ.out.2.1 HZ.out.2.2.1 HZ.out.2.2.2.1
    rw [HR2.out] at hU
    have hOb := HS9.out.1.below hE8
    have hbU0 := (hE8.block b HS9.out.1.1).trans HS9.out.2
    refine wpAnyH_ready (rs := [10]) (by kernel_rfl) (by simp) ?_
    refine AllReadyH.cons rfl (fun K hK => ?_) AllReadyH.nil
    go_simp
    refine hU.mono ?_
    clear hU
    rintro e wU ⟨rfl, LU, hlU, hmU⟩
    go_wp2_with fail
    have hbU := (hmU.keep b hOb).1.trans hbU0
    clear hmU hOb hbU0
    have hSU : (wU.cell? ⟨w.heap.size, 0, none⟩ = some (.int .i64 k1) ∧ wU.cell? ⟨w.heap.size, 1, none⟩ = some (.int .i64 n1) ∧ wU.cell? ⟨w.heap.size, 2, none⟩ = some (.string s1) ∧ wU.cell? ⟨w.heap.size, 3, none⟩ = some (.slice a1 l1 c1)) ∧ (wU.cell? ⟨w.heap.size + 1, 0, none⟩ = some (.int .i64 k2) ∧ wU.cell? ⟨w.heap.size + 1, 1, none⟩ = some (.int .i64 n2) ∧ wU.cell? ⟨w.heap.size + 1, 2, none⟩ = some (.string s2) ∧ wU.cell? ⟨w.heap.size + 1, 3, none⟩ = some (.slice a2 l2 c2)) ∧ (wU.cell? ⟨w.heap.size + 1 + 1, 0, none⟩ = some (.int .i64 k3) ∧ wU.cell? ⟨w.heap.size + 1 + 1, 1, none⟩ = some (.int .i64 n3) ∧ wU.cell? ⟨w.heap.size + 1 + 1, 2, none⟩ = some (.string s3) ∧ wU.cell? ⟨w.heap.size + 1 + 1, 3, none⟩ = some (.slice a3 l3 c3)) ∧ (wU.cell? ⟨w.heap.size + 1 + 1 + 1, 0, none⟩ = some (.int .i64 k4) ∧ wU.cell? ⟨w.heap.size + 1 + 1 + 1, 1, none⟩ = some (.int .i64 n4) ∧ wU.cell? ⟨w.heap.size + 1 + 1 + 1, 2, none⟩ = some (.string s4) ∧ wU.cell? ⟨w.heap.size + 1 + 1 + 1, 3, none⟩ = some (.slice a4 l4 c4)) := ⟨tbox_cells (hlU.box H2.out.2.1), tbox_cells (hlU.box H2.out.2.2.2.1), tbox_cells (hlU.box H2.out.2.2.2.2.2.1), tbox_cells (hlU.box H2.out.2.2.2.2.2.2.2.1)⟩
    refine hK.out _ _ hSU (fun hhU => ?_)
    clear hK K
    try simp only [Act.put, List.setIfInBounds_toArray, List.set_cons_zero, List.set_cons_succ]
    refine wpAnyH_take (i := 11) (v := ?_) rfl (by kernel_rfl) (by kernel_rfl) (by kernel_rfl) (fun _ _ _ h => h) (Or.inl ⟨by kernel_rfl, ?_⟩) hhU ?_
    rotate_left
    · intro w0 hSw
      (try dsimp only at hSw)
      go_simp
      try (with_reducible rfl)
    try simp only [Act.put, List.setIfInBounds_toArray, List.set_cons_zero, List.set_cons_succ]
    refine wpAnyH_take (i := 12) (v := ?_) rfl (by kernel_rfl) (by kernel_rfl) (by kernel_rfl) (fun _ _ _ h => h) (Or.inl ⟨by kernel_rfl, ?_⟩) hhU ?_
    rotate_left
    · intro w0 hSw
      (try dsimp only at hSw)
      go_simp
      try (with_reducible rfl)
    try simp only [Act.put, List.setIfInBounds_toArray, List.set_cons_zero, List.set_cons_succ]
    refine wpAnyH_take (i := 13) (v := ?_) rfl (by kernel_rfl) (by kernel_rfl) (by kernel_rfl) (fun _ _ _ h => h) (Or.inl ⟨by kernel_rfl, ?_⟩) hhU ?_
    rotate_left
    · intro w0 hSw
      (try dsimp only at hSw)
      go_simp
      try (with_reducible rfl)
    try simp only [Act.put, List.setIfInBounds_toArray, List.set_cons_zero, List.set_cons_succ]
    refine wpAnyH_take (i := 14) (v := ?_) rfl (by kernel_rfl) (by kernel_rfl) (by kernel_rfl) (fun _ _ _ h => h) (Or.inl ⟨by kernel_rfl, ?_⟩) hhU ?_
    rotate_left
    · intro w0 hSw
      (try dsimp only at hSw)
      go_simp
      try (with_reducible rfl)
    try simp only [Act.put, List.setIfInBounds_toArray, List.set_cons_zero, List.set_cons_succ]
    refine wpAnyH_ready (rs := [15]) (by kernel_rfl) (by simp) ?_
    refine AllReadyH.cons rfl (fun K hK => ?_) AllReadyH.nil
    go_simp
    refine hK.out _ _ hSU (fun hhU => ?_)
    clear hK K
    try simp only [Act.put, List.setIfInBounds_toArray, List.set_cons_zero, List.set_cons_succ]
    refine wpAnyH_ready (rs := [16]) (by kernel_rfl) (by simp) ?_
    refine AllReadyH.cons rfl (fun K hK => ?_) AllReadyH.nil
    go_simp
    refine hK.out _ _ hSU (fun hhU => ?_)
    clear hK K
    try simp only [Act.put, List.setIfInBounds_toArray, List.set_cons_zero, List.set_cons_succ]
    refine wpAnyH_ready (rs := [17]) (by kernel_rfl) (by simp) ?_
    refine AllReadyH.cons rfl (fun K hK => ?_) AllReadyH.nil
    go_simp
    refine hK.out _ _ hSU (fun hhU => ?_)
    clear hK K
    try simp only [Act.put, List.setIfInBounds_toArray, List.set_cons_zero, List.set_cons_succ]
    refine wpAnyH_done (by kernel_rfl) ?_ _
    clear hSU
    go_upto_region 9 with fail
    have hEq := HG.out
    have HB := Lib.hid (And.intro hlU hbU)
    clear hlU hbU HG HR2 HS9 HT9 HS hhU
    by_cases h2 : R2.err = 0
    · have e12 := hEq h2
      subst e12
      have HM := mark_box wU b V la9 R1.σ.tr.length lc9 HB.out.2
      have HN := mark_at HB.out.1.st
      obtain ⟨tn, htn⟩ : ∃ x, R1.σ.tr.length = x := ⟨_, rfl⟩
      rw [htn] at HM HN
      obtain ⟨ri, hri⟩ : ∃ x, R1.is = x := ⟨_, rfl⟩
      obtain ⟨rl, hrl⟩ : ∃ x, R1.lv = x := ⟨_, rfl⟩
      rw [h2, hri, hrl]
      clear hEq h2 hri hrl htn
      go_wp2_with (first
        | (go_at_call 24; (with_reducible refine HM.mono ?_); clear HM; rintro e wm ⟨rfl, rfl⟩)
        | (go_at_call 24; (with_reducible refine HN.mono ?_); clear HN; rintro e wm ⟨rfl, rfl⟩))
      go_ret
      exact ⟨rfl, HB.out.1.done H2.out.1⟩
    · have d2 : (R2.err != 0) = true := by simpa using h2
      obtain ⟨x2, hx2⟩ : ∃ x, R2.err = x := ⟨_, rfl⟩
      rw [hx2] at d2 ⊢
      obtain ⟨x1, hx1⟩ : ∃ x, R1.err = x := ⟨_, rfl⟩
      rw [hx1]
      clear hEq h2 hx2 hx1
      by_cases h1 : x1 = 0
      · subst h1
        go_wp2_with fail
        go_ret
        exact ⟨rfl, HB.out.1.done H2.out.1⟩
      · have d1 : (x1 != 0) = true := by simpa using h1
        clear h1
        go_wp2_with fail
        go_ret
        exact ⟨rfl, HB.out.1.done H2.out.1⟩
end Go.Proofs.Ytfjnajngelemkaa
