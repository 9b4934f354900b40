/-
  order.Sort of at most 19 terms; the document's example.
-/
import Derived.Test.YtbdkakpbhijilaaSrtJ
import Derived.Deep.RegionHeld3
namespace Go.Proofs.Ytbdkakpbhijilaa
open Go.RowKit Go.Shelf Go.Sort
open Classical
set_option linter.unusedVariables false

theorem sort19_at (v : Value) (ks : List Tm) (w : World) (hv : HasTs w v ks) (hn : ks.length < 20) (hs : ∀ t ∈ ks, t.size ≤ 1000000000000) : Calls Try.prog 15 #[v] w (NewTs w (sortT ks)) :=
  sort_at ks.length (by omega) (fun w0 blk hb => stable_small (P := Try.prog) 8 Try.lo Ent.enc Ent.cf Ent.tag Ent.tot 36 #[] w0 blk 0 ks.length ks.length hn (enters_of Try.func36 (by kernel_rfl) rfl) (Ent.row hb) Ent.cmp_says) v ks w hv rfl hs

def sA : Tm := .mk 3 0 (ByteArray.mk #[97]) []
def sF : Tm := .mk 3 0 (ByteArray.mk #[102]) [sA]
def sN : Tm := .mk 2 3 (ByteArray.mk #[]) []
def sV : Tm := .mk 1 2 (ByteArray.mk #[]) []
theorem sA_er : sA.er = sA := by unfold sA; rw [Tm.er_else (fun e => absurd e.1 (by decide))]; rfl
theorem sF_er : sF.er = sF := by unfold sF; rw [Tm.er_else (fun e => absurd e.1 (by decide)), List.map_cons, sA_er]; rfl
theorem sN_er : sN.er = sN := by unfold sN; rw [Tm.er_else (fun e => absurd e.1 (by decide))]; rfl
theorem sV_er : sV.er = sV := by unfold sV; rw [Tm.er_else (fun e => absurd e.1 (by decide))]; rfl
theorem s_FA : tc sF sA = 1 := by unfold tc; rw [sF_er, sA_er]; unfold sF sA; rw [Tm.cmp_mk]; decide
theorem s_AF : tc sA sF = -1 := by have := tc_neg sF sA; rw [s_FA] at this; exact this
theorem s_AN : tc sA sN = 1 := by unfold tc; rw [sA_er, sN_er]; unfold sN sA; rw [Tm.cmp_mk]; decide
theorem s_NV : tc sN sV = 1 := by unfold tc; rw [sN_er, sV_er]; unfold sN sV; rw [Tm.cmp_mk]; decide
theorem s_sorted : sortT [sF, sA, sN, sV] = [sV, sN, sA, sF] := by
  unfold sortT
  simp only [List.foldl_cons, List.foldl_nil, insT, s_FA]
  rfl
theorem four_terms {w : World} {k1 n1 k2 n2 k3 n3 k4 n4 : Int} {s1 s2 s3 s4 : ByteArray} {a1 a2 a3 a4 : Option Addr} {l1 c1 l2 c2 l3 c3 l4 c4 : Nat} {T1 T2 T3 T4 : Tm} (h1 : Has w (.agg #[.int .i64 k1, .int .i64 n1, .string s1, .slice a1 l1 c1]) T1) (h2 : Has w (.agg #[.int .i64 k2, .int .i64 n2, .string s2, .slice a2 l2 c2]) T2) (h3 : Has w (.agg #[.int .i64 k3, .int .i64 n3, .string s3, .slice a3 l3 c3]) T3) (h4 : Has w (.agg #[.int .i64 k4, .int .i64 n4, .string s4, .slice a4 l4 c4]) T4) :
    HasTs (w.alloc (.cells #[.int .i64 k1, .int .i64 n1, .string s1, .slice a1 l1 c1, .int .i64 k2, .int .i64 n2, .string s2, .slice a2 l2 c2, .int .i64 k3, .int .i64 n3, .string s3, .slice a3 l3 c3, .int .i64 k4, .int .i64 n4, .string s4, .slice a4 l4 c4] 24)) (.slice (some ⟨w.heap.size, 0, none⟩) 4 4) [T1, T2, T3, T4] := by
  have hb : Below w.heap.size w (w.alloc (.cells #[.int .i64 k1, .int .i64 n1, .string s1, .slice a1 l1 c1, .int .i64 k2, .int .i64 n2, .string s2, .slice a2 l2 c2, .int .i64 k3, .int .i64 n3, .string s3, .slice a3 l3 c3, .int .i64 k4, .int .i64 n4, .string s4, .slice a4 l4 c4] 24)) := (Below.refl _ w).alloc (Nat.le_refl _) _
  refine ⟨some ⟨w.heap.size, 0, none⟩, 4, rfl, by simp, by unfold maxLen; omega, (fun h => by cases h), fun i hi => ?_⟩
  have hi' : i = 0 ∨ i = 1 ∨ i = 2 ∨ i = 3 := by simp at hi; omega
  rcases hi' with rfl | rfl | rfl | rfl
  · exact ⟨w.heap.size, 0, k1, n1, s1, a1, l1, c1, rfl, by simp, (World.cell?_alloc_new w _ _ _).trans rfl, (World.cell?_alloc_new w _ _ _).trans rfl, (World.cell?_alloc_new w _ _ _).trans rfl, (World.cell?_alloc_new w _ _ _).trans rfl, Has.below h1 hb⟩
  · exact ⟨w.heap.size, 0, k2, n2, s2, a2, l2, c2, rfl, by simp, (World.cell?_alloc_new w _ _ _).trans rfl, (World.cell?_alloc_new w _ _ _).trans rfl, (World.cell?_alloc_new w _ _ _).trans rfl, (World.cell?_alloc_new w _ _ _).trans rfl, Has.below h2 hb⟩
  · exact ⟨w.heap.size, 0, k3, n3, s3, a3, l3, c3, rfl, by simp, (World.cell?_alloc_new w _ _ _).trans rfl, (World.cell?_alloc_new w _ _ _).trans rfl, (World.cell?_alloc_new w _ _ _).trans rfl, (World.cell?_alloc_new w _ _ _).trans rfl, Has.below h3 hb⟩
  · exact ⟨w.heap.size, 0, k4, n4, s4, a4, l4, c4, rfl, by simp, (World.cell?_alloc_new w _ _ _).trans rfl, (World.cell?_alloc_new w _ _ _).trans rfl, (World.cell?_alloc_new w _ _ _).trans rfl, (World.cell?_alloc_new w _ _ _).trans rfl, Has.below h4 hb⟩
theorem sSort_at (v : Value) (w : World) (hv : HasTs w v [sF, sA, sN, sV]) : Calls Try.prog 15 #[v] w (NewTs w [sV, sN, sA, sF]) := by
  have h := sort19_at v [sF, sA, sN, sV] w hv (by simp) (fun t ht => by
    simp only [List.mem_cons, List.not_mem_nil, or_false] at ht
    rcases ht with rfl | rfl | rfl | rfl <;> decide)
  rwa [s_sorted] at h
theorem sA_at (w : World) : Calls Try.prog 29 #[.string (ByteArray.mk #[97])] w (NewTm w sA) := atom_at _ w (by unfold maxLen; decide)
theorem sN_at (w : World) : Calls Try.prog 26 #[.int .i64 3] w (NewTm w sN) := num_at 3 w ⟨by decide, by decide⟩
theorem sV_at (w : World) : Calls Try.prog 25 #[.int .i64 2] w (NewTm w sV) := let_at 2 w ⟨by decide, by decide⟩
theorem sMake_at (v : Value) (w : World) (hv : HasTs w v [sA]) : Calls Try.prog 27 #[.string (ByteArray.mk #[102]), v] w (NewTm w sF) := make_at _ v [sA] w (by unfold maxLen; decide) hv (by decide)
theorem sComp_at (u v : Value) (w : World) (hu : Has w u sA) (hv : Has w v sF) : Calls Try.prog 12 #[u, v] w (Gets w (.int .i64 (-1))) := by
  have h := compare_at u v sA sF w hu hv (by decide) (by decide)
  rwa [show sA.er.cmp sF.er = -1 from s_AF] at h
/-- What the sorted list holds, cell by cell. -/
theorem four_held {W : World} {v : Value} (h : HasTs W v [sV, sN, sA, sF]) : ∃ (b o cap : Nat) (n0 n1 k2 n2 k3 n3 : Int) (s2 s3 : ByteArray) (a2 a3 : Option Addr) (c2 l3 c3 : Nat), v = .slice (some ⟨b, o, none⟩) 4 cap ∧ b < W.heap.size ∧ 4 ≤ cap ∧ cap ≤ maxLen ∧
    W.cell? ⟨b, o, none⟩ = some (.int .i64 1) ∧ W.cell? ⟨b, o + 4, none⟩ = some (.int .i64 2) ∧ W.cell? ⟨b, o + 8, none⟩ = some (.int .i64 k2) ∧ W.cell? ⟨b, o + 8 + 1, none⟩ = some (.int .i64 n2) ∧ W.cell? ⟨b, o + 8 + 2, none⟩ = some (.string s2) ∧ W.cell? ⟨b, o + 8 + 3, none⟩ = some (.slice a2 0 c2) ∧
    W.cell? ⟨b, o + 12, none⟩ = some (.int .i64 k3) ∧ W.cell? ⟨b, o + 12 + 1, none⟩ = some (.int .i64 n3) ∧ W.cell? ⟨b, o + 12 + 2, none⟩ = some (.string s3) ∧ W.cell? ⟨b, o + 12 + 3, none⟩ = some (.slice a3 l3 c3) ∧
    Has W (.agg #[.int .i64 k2, .int .i64 n2, .string s2, .slice a2 0 c2]) sA ∧ Has W (.agg #[.int .i64 k3, .int .i64 n3, .string s3, .slice a3 l3 c3]) sF := by
  obtain ⟨a, cap, rfl, hc, hm, ha, hx⟩ := h
  obtain ⟨b, o, k0, n0, s0, a0, l0, c0, rfl, hb, e00, e01, e02, e03, t0⟩ := hx 0 (by simp)
  obtain ⟨b', o', k1, n1, s1, a1, l1, c1, e, hb', e10, e11, e12, e13, t1⟩ := hx 1 (by simp)
  injection e with e; injection e with eb eo; subst eb eo
  obtain ⟨b', o', k2, n2, s2, a2, l2, c2, e, hbp, e20, e21, e22, e23, t2⟩ := hx 2 (by simp)
  injection e with e; injection e with eb eo; subst eb eo
  obtain ⟨b', o', k3, n3, s3, a3, l3, c3, e, hbq, e30, e31, e32, e33, t3⟩ := hx 3 (by simp)
  injection e with e; injection e with eb eo; subst eb eo
  obtain ⟨q0, f0, g0⟩ := t0.look
  have f0' : sV = Tm.mk k0 n0 s0 q0 := f0
  obtain ⟨q1, f1, g1⟩ := t1.look
  have f1' : sN = Tm.mk k1 n1 s1 q1 := f1
  obtain ⟨q2, f2, g2⟩ := t2.look
  have f2' : sA = Tm.mk k2 n2 s2 q2 := f2
  injection f0' with x1 x2 x3 x4
  injection f1' with y1 y2 y3 y4
  injection f2' with z1 z2 z3 z4
  subst x1 y1
  have hl2 : l2 = 0 := by rw [g2, ← z4]; rfl
  subst hl2
  exact ⟨b, o, cap, n0, n1, k2, n2, k3, n3, s2, s3, a2, a3, c2, l3, c3, rfl, hb, hc, hm, by simpa using e00, by simpa using e10, by simpa using e20, by simpa using e21, by simpa using e22, by simpa using e23, by simpa using e30, by simpa using e31, by simpa using e32, by simpa using e33, t2, t3⟩

set_option maxRecDepth 100000 in
set_option maxHeartbeats 8000000 in
theorem oshown_at (w : World) : Calls Try.prog 10 #[] w (Gets w (.bool true)) := by
  go_enter Try.func10, Try.ntmps10
  go_upto_region 2 with (first
      | (go_at_call 15; (with_reducible refine Calls.mono (sSort_at _ _ ?_) ?_); ((with_reducible refine four_terms ?_ ?_ ?_ ?_); ((with_reducible refine Has.below h4 ?_); (repeat (first | with_reducible exact Below.refl _ _ | with_reducible apply below_al | with_reducible apply below_dr | ((with_reducible apply below_tr); (with_reducible assumption))))); ((with_reducible refine Has.below h5 ?_); (repeat (first | with_reducible exact Below.refl _ _ | with_reducible apply below_al | with_reducible apply below_dr | ((with_reducible apply below_tr); (with_reducible assumption))))); ((with_reducible refine Has.below h6 ?_); (repeat (first | with_reducible exact Below.refl _ _ | with_reducible apply below_al | with_reducible apply below_dr | ((with_reducible apply below_tr); (with_reducible assumption))))); (with_reducible exact h7)); rintro e w9 ⟨r9, rfl, hr9, hb9⟩)
      | (go_at_call 25; (with_reducible refine Calls.mono (sV_at w6) ?_); intro r w7 h7; obtain ⟨k7, n7, s7, a7, l7, c7, rfl, h7, b7⟩ := h7.has)
      | (go_at_call 26; (with_reducible refine Calls.mono (sN_at w5) ?_); intro r w6 h6; obtain ⟨k6, n6, s6, a6, l6, c6, rfl, h6, b6⟩ := h6.has)
      | (go_at_call 29; (with_reducible refine Calls.mono (sA_at w4) ?_); intro r w5 h5; obtain ⟨k5, n5, s5, a5, l5, c5, rfl, h5, b5⟩ := h5.has)
      | (go_at_call 27; (with_reducible refine Calls.mono (sMake_at _ _ ?_) ?_); (with_reducible exact one_term h2); intro r w4 h4; obtain ⟨k4, n4, s4, a4, l4, c4, rfl, h4, b4⟩ := h4.has)
      | (go_at_call 29; (with_reducible refine Calls.mono (sA_at w) ?_); intro r w2 h2; obtain ⟨k2, n2, s2, a2, l2, c2, rfl, h2, b2⟩ := h2.has))
  obtain ⟨b, o, cap, n0, n1, k12, n12, k13, n13, s12, s13, a12, a13, c12, l13, c13, rfl, hbb, hc1, hc2, e0, e1, e20, e21, e22, e23, e30, e31, e32, e33, tA, tF⟩ := four_held (hr9.carry (fun _ _ => rfl) (fun b hb => hb.2))
  have HBW := Lib.hid (show Below w.heap.size w w9 by (repeat (first | with_reducible exact Below.refl _ _ | with_reducible apply below_al | with_reducible apply below_dr | ((with_reducible apply below_tr); (with_reducible assumption)))))
  have HS : ∀ w', Below w9.heap.size w9 w' → (w'.cell? ⟨b, o, none⟩ = some (.int .i64 1) ∧ w'.cell? ⟨b, o + 4, none⟩ = some (.int .i64 2) ∧ w'.cell? ⟨b, o + 8, none⟩ = some (.int .i64 k12) ∧ w'.cell? ⟨b, o + 8 + 1, none⟩ = some (.int .i64 n12) ∧ w'.cell? ⟨b, o + 8 + 2, none⟩ = some (.string s12) ∧ w'.cell? ⟨b, o + 8 + 3, none⟩ = some (.slice a12 0 c12) ∧ w'.cell? ⟨b, o + 12, none⟩ = some (.int .i64 k13) ∧ w'.cell? ⟨b, o + 12 + 1, none⟩ = some (.int .i64 n13) ∧ w'.cell? ⟨b, o + 12 + 2, none⟩ = some (.string s13) ∧ w'.cell? ⟨b, o + 12 + 3, none⟩ = some (.slice a13 l13 c13) ∧ Below w9.heap.size w9 w') := fun w' hb =>
    ⟨(hb.cell (p := ⟨_, _, none⟩) hbb).trans e0, (hb.cell (p := ⟨_, _, none⟩) hbb).trans e1, (hb.cell (p := ⟨_, _, none⟩) hbb).trans e20, (hb.cell (p := ⟨_, _, none⟩) hbb).trans e21, (hb.cell (p := ⟨_, _, none⟩) hbb).trans e22, (hb.cell (p := ⟨_, _, none⟩) hbb).trans e23, (hb.cell (p := ⟨_, _, none⟩) hbb).trans e30, (hb.cell (p := ⟨_, _, none⟩) hbb).trans e31, (hb.cell (p := ⟨_, _, none⟩) hbb).trans e32, (hb.cell (p := ⟨_, _, none⟩) hbb).trans e33, hb⟩
  clear b2 b4 b5 b6 b7 hb9 h2 h4 h5 h6 h7 e0 e1 e20 e21 e22 e23 e30 e31 e32 e33 hr9
  go_region_held3 (fun w' => w'.cell? ⟨b, o, none⟩ = some (.int .i64 1) ∧ w'.cell? ⟨b, o + 4, none⟩ = some (.int .i64 2) ∧ w'.cell? ⟨b, o + 8, none⟩ = some (.int .i64 k12) ∧ w'.cell? ⟨b, o + 8 + 1, none⟩ = some (.int .i64 n12) ∧ w'.cell? ⟨b, o + 8 + 2, none⟩ = some (.string s12) ∧ w'.cell? ⟨b, o + 8 + 3, none⟩ = some (.slice a12 0 c12) ∧ w'.cell? ⟨b, o + 12, none⟩ = some (.int .i64 k13) ∧ w'.cell? ⟨b, o + 12 + 1, none⟩ = some (.int .i64 n13) ∧ w'.cell? ⟨b, o + 12 + 2, none⟩ = some (.string s13) ∧ w'.cell? ⟨b, o + 12 + 3, none⟩ = some (.slice a13 l13 c13) ∧ Below w9.heap.size w9 w')
    (exact HS _ (by (repeat (first | with_reducible exact Below.refl _ _ | with_reducible apply below_al | with_reducible apply below_dr | ((with_reducible apply below_tr); (with_reducible assumption))))))
    (first
      | (go_at_call 12; (with_reducible refine Calls.mono (sComp_at _ _ _ ?_ ?_) ?_); ((with_reducible refine Has.below tA ?_); (repeat (first | with_reducible exact Below.refl _ _ | with_reducible apply below_al | with_reducible apply below_dr | ((with_reducible apply below_tr); (with_reducible assumption))))); ((with_reducible refine Has.below tF ?_); (repeat (first | with_reducible exact Below.refl _ _ | with_reducible apply below_al | with_reducible apply below_dr | ((with_reducible apply below_tr); (with_reducible assumption))))); rintro r w14 ⟨rfl, b14⟩))
  go_wp2_with fail
  go_ret
  exact ⟨rfl, below_tr (by (repeat (first | with_reducible exact Below.refl _ _ | with_reducible apply below_al | with_reducible apply below_dr | ((with_reducible apply below_tr); (with_reducible assumption))))) HBW.out⟩
end Go.Proofs.Ytbdkakpbhijilaa
