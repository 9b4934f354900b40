/-
  The law UnifyVars, walked.
-/
import Derived.Test.YtfjnajngelemkaaZUniK
import Derived.Test.YtfjnajngelemkaaZUniLn2
import Derived.Deep.DeepCutAuto
import Derived.Deep.RegionWith
namespace Go.Proofs.Ytfjnajngelemkaa
open Go.RowKit Go.Shelf
open Classical
set_option linter.unusedVariables false
set_option linter.unusedSimpArgs false

set_option maxRecDepth 100000 in
set_option maxHeartbeats 16000000 in
theorem unifyVars_at (x : Int) (hx0 : 0 ≤ x) (hx1 : x < 256) (v1 : Value) (T : Tm) (w : World) (hT : Has w v1 T) (sT : T.size ≤ 1048576) : Calls Try.prog 4 #[.int .u8 x, v1] w (Gets w (.bool true)) := by
  obtain ⟨k, hk⟩ : ∃ k : Nat, x.tmod 12 = (k : Int) := ⟨(x.tmod 12).toNat, by have : 0 ≤ x.tmod 12 := Int.tmod_nonneg _ hx0; omega⟩
  have hk12 : k < 12 := by have : x.tmod 12 < 12 := Int.tmod_lt_of_pos _ (by decide); omega
  have hwk : wrap64 (k : Int) = (k : Int) := by unfold wrap64; omega
  have HK := Lib.hid (And.intro hx0 (And.intro hx1 hk12))
  clear hx0 hx1 hk12
  obtain ⟨k1, n1, s1, a1, l1, c1, ks1, rfl, e1, -⟩ := hT.form
  clear e1
  obtain ⟨w2, hw2⟩ : ∃ w2, w2 = w.alloc (.cells #[.int .i64 k1, .int .i64 n1, .string s1, .slice a1 l1 c1] 24) := ⟨_, rfl⟩
  have hb2 : Below w.heap.size w w2 := by rw [hw2]; exact (Below.refl _ w).alloc (by simp) _
  have x1 : w2.heap[w.heap.size]? = some (.cells #[.int .i64 k1, .int .i64 n1, .string s1, .slice a1 l1 c1] 24 (0, 0)) := by rw [hw2]; exact World.alloc_heap_new _ _
  have t1 : Has w2 (.agg #[.int .i64 k1, .int .i64 n1, .string s1, .slice a1 l1 c1]) T := Has.below hT hb2
  have H2 := Lib.hid (And.intro hb2 (And.intro x1 t1))
  have HW := Lib.hid hw2
  clear hb2 hw2 x1 t1 hT
  go_enter Try.func4, Try.ntmps4
  go_upto_region 1 with fail
  rw [← HW.out]
  go_wp2_with fail
  refine (shown11_at w2).mono ?_
  rintro e w3 ⟨rfl, hb3⟩
  go_wp2_with fail
  refine (chain11_at 8 w3 (by decide)).mono ?_
  rintro e w4 ⟨v4, rfl, hO4, hb4⟩
  go_wp2_with fail
  refine (latt11_at 8 v4 w3 w4 (by decide) hO4).mono ?_
  rintro e w5 ⟨lb, rfl, hL5, hb5⟩
  have hb25 : Below w2.heap.size w2 w5 := hb3.trans ((hb4.trans (hb5.mono hb4.size)).mono hb3.size)
  go_wp2_with fail
  refine (vars11_at w5 w5.heap.size (Nat.le_refl _)).mono ?_
  rintro e w6 ⟨rfl, V, L6, hS6, hb6⟩
  have hst6 := hS6.base hb25.size
  have hch6 := hL5.below hb6
  have hlo6 := Mut.lo hS6 hb6.size hL5.lt
  have hbl6 : Below w2.heap.size w2 w6 := hb25.trans (hb6.mono hb25.size)
  clear hS6
  obtain ⟨b, hbe⟩ : ∃ b, b = w5.heap.size := ⟨_, rfl⟩
  rw [← hbe] at hst6 hlo6 ⊢
  have HL6 : Hid (LW w2 w6 b V L6 lb σ12) := ⟨hst6, hbl6, hch6, hlo6⟩
  clear hb3 hO4 hb4 hL5 hb5 hb25 hb6 hst6 hch6 hlo6 hbl6 hbe
  have m1 : ∀ W, Below w6.heap.size w6 W → Calls Try.prog 16 #[.agg #[.int .i64 k1, .int .i64 n1, .string s1, .slice a1 l1 c1]] W (Gets W (.bool T.may11)) := fun W hb => may11_at _ T W (Has.below (HL6.out.has H2.out.2.2) hb) (by omega)
  have y1 := HL6.out.box H2.out.2.1
  obtain ⟨y10, y11, y12, y13⟩ := tbox_cells y1
  by_cases may1 : T.may11 = true
  case neg =>
    have mf : T.may11 = false := by simpa using may1
    rw [mf] at m1
    clear may1 mf
    go_wp2_with (first
      | (go_at_call 16; (with_reducible refine (m1 _ (Below.refl _ _)).mono ?_); rintro e wm1 ⟨rfl, bm1⟩))
    go_ret
    exact ⟨rfl, (HL6.out.step (bm1)).done H2.out.1⟩
  rw [may1] at m1
  obtain ⟨g1, z1, u1⟩ := may_gv may1
  have HM1 := Lib.hid (And.intro g1 (And.intro z1 u1))
  clear g1 z1 u1 may1
  go_upto_region 6 with (first
    | (go_at_call 16; (with_reducible refine (m1 _ (Below.refl _ _)).mono ?_); rintro e wm1 ⟨rfl, bm1⟩))
  have HLm : Hid (LW w2 wm1 b V L6 lb σ12) := HL6.out.step (bm1)
  clear y10 y11 y12 y13 y1 m1 bm1
  obtain ⟨q10, q11, q12, q13⟩ := tbox_cells (HLm.out.box H2.out.2.1)
  have hhas := has_at10 HLm.out.st (.agg #[.int .i64 k1, .int .i64 n1, .string s1, .slice a1 l1 c1]) T (HLm.out.has H2.out.2.2) (k : Int) (by have := HM1.out.2.1; omega)
  have hTe : T.kind = k1 ∧ T.num = n1 := by
    obtain ⟨k', n', s', a', l', c', ks', e, eT, -⟩ := (H2.out.2.2 : Has w2 _ T).form
    simp only [Value.agg.injEq, Array.mk.injEq, List.cons.injEq, Value.int.injEq, Value.string.injEq, Value.slice.injEq, true_and, and_true] at e
    obtain ⟨rfl, rfl, -⟩ := e
    rw [eT]; exact ⟨rfl, rfl⟩
  obtain ⟨g1, g2, g3, g4⟩ := vars_ghost HK.out.2.2 T
  rw [hTe.1, hTe.2] at g3 g4
  have HT := Lib.hid hTe
  have hgx : GV 9 (exX k) := .var _
  have hsx : (exX k).size ≤ 2000000 := by unfold exX; rw [Tm.size_mk, Tm.sizes_nil]; omega
  have hst : T.size ≤ 2000000 := by have := HM1.out.2.1; omega
  clear hTe
  generalize hrun : run 9 2000 σ12 [(exX k, T)] 0 = R at *
  obtain ⟨ris, rlv, rerr, τ⟩ := R
  simp only at g1 g2 g3 g4
  subst g1 g2
  by_cases ho : k1 = 1 ∧ n1 = (k : Int)
  · obtain ⟨rfl, rfl⟩ := ho
    obtain rfl : ris = true := g3 ⟨rfl, rfl⟩
    generalize decide (Met σ12 (k : Int) T) = hb at hhas
    clear g3 g4
    go_upto_region 9 with (go_at_call 23; refine hhas.mono ?_; clear hhas; rintro e w7 ⟨rfl, hb7⟩)
    have HL7 := Lib.hid (HLm.out.step hb7)
    clear q10 q11 q12 q13 hb7 HLm
    have HB : ∀ W, Below w7.heap.size w7 W → LW w2 W b V L6 lb σ12 := fun W h => HL7.out.step h
    obtain ⟨q10, q11, q12, q13⟩ := tbox_cells (HL7.out.box H2.out.2.1)
    have hlet : ∀ W, Below w7.heap.size w7 W → Calls Try.prog 21 #[.int .i64 (k : Int)] W fun e W' => ∃ k2 n2 s2 a2 l2 c2, e = .returned (.agg #[.int .i64 k2, .int .i64 n2, .string s2, .slice a2 l2 c2]) ∧ W'.cell? ⟨w.heap.size, 0, none⟩ = some (.int .i64 1) ∧ W'.cell? ⟨w.heap.size, 1, none⟩ = some (.int .i64 (k : Int)) ∧ W'.cell? ⟨w.heap.size, 2, none⟩ = some (.string s1) ∧ W'.cell? ⟨w.heap.size, 3, none⟩ = some (.slice a1 l1 c1) ∧ Hid (LW w2 W' b V L6 lb σ12 ∧ TmIn (Oth W' b V L6) W' (.agg #[.int .i64 k2, .int .i64 n2, .string s2, .slice a2 l2 c2]) (exX k)) := fun W hW =>
      (let_at (k : Int) W (by have := HK.out.2.2; exact ⟨by omega, by omega⟩)).mono fun e W' h => by
        obtain ⟨r, rfl, hr, hb⟩ := h
        obtain ⟨k2, n2, s2, a2, l2, c2, ks2, rfl, -⟩ := hr.form
        have h1 := HB W hW
        have h2 := h1.step hb
        obtain ⟨z0, z1, z2, z3⟩ := tbox_cells (h2.box H2.out.2.1)
        exact ⟨k2, n2, s2, a2, l2, c2, rfl, z0, z1, z2, z3, h2, h1.st.new hr⟩
    have hdr : Below w7.heap.size w7 w7.drew := (Below.refl _ _).drew
    have HH7 := Lib.hid HB
    clear HB
    go_region_with (first
      | (go_at_call 21; (with_reducible refine (hlet _ hdr).mono ?_); rintro e w8 ⟨k2, n2, s2, a2, l2, c2, rfl, z0, z1, z2, z3, HL8⟩)
      | (go_at_call 17; have hU := HL8.out.1.unify (σ12_gv 9) _ _ (exX k) T HL8.out.2 (HL8.out.1.term H2.out.2.2) hgx HM1.out.1 hsx hst; rw [hrun] at hU; simp only at hU; (with_reducible refine hU.mono ?_); clear hU; rintro e w9 ⟨rfl, L9, hl9, hm9⟩))
    all_goals
      have HL9 := Lib.hid hl9
      have hbot := (ch_bottom HL9.out.ch).mono (R' := fun e w' => e = .returned (.int .i64 0) ∧ Hid (Below w9.heap.size w9 w')) (fun e w' h => h.below)
      clear hl9 hm9 HL8 hlet hdr z0 z1 z2 z3 HH7 q10 q11 q12 q13
      go_wp2_with (go_at_call 19; refine hbot.mono ?_; clear hbot; rintro e w10 ⟨rfl, hb10⟩)
      go_ret
      exact ⟨rfl, (HL9.out.step hb10.out).done H2.out.1⟩
  obtain ⟨e1, e2⟩ := g4 ho
  have hne : (n1 == (k : Int)) = false ∨ k1 ≠ 1 := by
    by_cases h : k1 = 1
    · left; simpa using fun e => ho ⟨h, e⟩
    · exact .inr h
  by_cases hM : Met σ12 (k : Int) T
  · rw [decide_eq_true hM] at e1 hhas
    obtain rfl : ris = false := e1
    clear g3 g4 e2 ho hM
    by_cases h1 : k1 = 1
    · subst h1
      obtain hne := hne.resolve_right (fun h => h rfl)
      go_upto_region 9 with (go_at_call 23; refine hhas.mono ?_; clear hhas; rintro e w7 ⟨rfl, hb7⟩)
      have HL7 := Lib.hid (HLm.out.step hb7)
      clear q10 q11 q12 q13 hb7 HLm
      have HB : ∀ W, Below w7.heap.size w7 W → LW w2 W b V L6 lb σ12 := fun W h => HL7.out.step h
      obtain ⟨q10, q11, q12, q13⟩ := tbox_cells (HL7.out.box H2.out.2.1)
      have hlet : ∀ W, Below w7.heap.size w7 W → Calls Try.prog 21 #[.int .i64 (k : Int)] W fun e W' => ∃ k2 n2 s2 a2 l2 c2, e = .returned (.agg #[.int .i64 k2, .int .i64 n2, .string s2, .slice a2 l2 c2]) ∧ W'.cell? ⟨w.heap.size, 0, none⟩ = some (.int .i64 1) ∧ W'.cell? ⟨w.heap.size, 1, none⟩ = some (.int .i64 n1) ∧ W'.cell? ⟨w.heap.size, 2, none⟩ = some (.string s1) ∧ W'.cell? ⟨w.heap.size, 3, none⟩ = some (.slice a1 l1 c1) ∧ Hid (LW w2 W' b V L6 lb σ12 ∧ TmIn (Oth W' b V L6) W' (.agg #[.int .i64 k2, .int .i64 n2, .string s2, .slice a2 l2 c2]) (exX k)) := fun W hW =>
        (let_at (k : Int) W (by have := HK.out.2.2; exact ⟨by omega, by omega⟩)).mono fun e W' h => by
          obtain ⟨r, rfl, hr, hb⟩ := h
          obtain ⟨k2, n2, s2, a2, l2, c2, ks2, rfl, -⟩ := hr.form
          have h1 := HB W hW
          have h2 := h1.step hb
          obtain ⟨z0, z1, z2, z3⟩ := tbox_cells (h2.box H2.out.2.1)
          exact ⟨k2, n2, s2, a2, l2, c2, rfl, z0, z1, z2, z3, h2, h1.st.new hr⟩
      have hdr : Below w7.heap.size w7 w7.drew := (Below.refl _ _).drew
      have HH7 := Lib.hid HB
      clear HB
      go_region_with (first
        | (go_at_call 21; (with_reducible refine (hlet _ hdr).mono ?_); rintro e w8 ⟨k2, n2, s2, a2, l2, c2, rfl, z0, z1, z2, z3, HL8⟩)
        | (go_at_call 17; have hU := HL8.out.1.unify (σ12_gv 9) _ _ (exX k) T HL8.out.2 (HL8.out.1.term H2.out.2.2) hgx HM1.out.1 hsx hst; rw [hrun] at hU; simp only at hU; (with_reducible refine hU.mono ?_); clear hU; rintro e w9 ⟨rfl, L9, hl9, hm9⟩))
      all_goals
        have HL9 := Lib.hid hl9
        have hbot := (ch_bottom HL9.out.ch).mono (R' := fun e w' => e = .returned (.int .i64 0) ∧ Hid (Below w9.heap.size w9 w')) (fun e w' h => h.below)
        clear hl9 hm9 HL8 hlet hdr z0 z1 z2 z3 HH7 q10 q11 q12 q13
        go_wp2_with (go_at_call 19; refine hbot.mono ?_; clear hbot; rintro e w10 ⟨rfl, hb10⟩)
        go_ret
        exact ⟨rfl, (HL9.out.step hb10.out).done H2.out.1⟩
    · have h1' : (k1 == 1) = false := by simpa using h1
      clear hne
      go_upto_region 9 with (go_at_call 23; refine hhas.mono ?_; clear hhas; rintro e w7 ⟨rfl, hb7⟩)
      have HL7 := Lib.hid (HLm.out.step hb7)
      clear q10 q11 q12 q13 hb7 HLm
      have HB : ∀ W, Below w7.heap.size w7 W → LW w2 W b V L6 lb σ12 := fun W h => HL7.out.step h
      obtain ⟨q10, q11, q12, q13⟩ := tbox_cells (HL7.out.box H2.out.2.1)
      have hlet : ∀ W, Below w7.heap.size w7 W → Calls Try.prog 21 #[.int .i64 (k : Int)] W fun e W' => ∃ k2 n2 s2 a2 l2 c2, e = .returned (.agg #[.int .i64 k2, .int .i64 n2, .string s2, .slice a2 l2 c2]) ∧ W'.cell? ⟨w.heap.size, 0, none⟩ = some (.int .i64 k1) ∧ W'.cell? ⟨w.heap.size, 1, none⟩ = some (.int .i64 n1) ∧ W'.cell? ⟨w.heap.size, 2, none⟩ = some (.string s1) ∧ W'.cell? ⟨w.heap.size, 3, none⟩ = some (.slice a1 l1 c1) ∧ Hid (LW w2 W' b V L6 lb σ12 ∧ TmIn (Oth W' b V L6) W' (.agg #[.int .i64 k2, .int .i64 n2, .string s2, .slice a2 l2 c2]) (exX k)) := fun W hW =>
        (let_at (k : Int) W (by have := HK.out.2.2; exact ⟨by omega, by omega⟩)).mono fun e W' h => by
          obtain ⟨r, rfl, hr, hb⟩ := h
          obtain ⟨k2, n2, s2, a2, l2, c2, ks2, rfl, -⟩ := hr.form
          have h1 := HB W hW
          have h2 := h1.step hb
          obtain ⟨z0, z1, z2, z3⟩ := tbox_cells (h2.box H2.out.2.1)
          exact ⟨k2, n2, s2, a2, l2, c2, rfl, z0, z1, z2, z3, h2, h1.st.new hr⟩
      have hdr : Below w7.heap.size w7 w7.drew := (Below.refl _ _).drew
      have HH7 := Lib.hid HB
      clear HB
      go_region_with (first
        | (go_at_call 21; (with_reducible refine (hlet _ hdr).mono ?_); rintro e w8 ⟨k2, n2, s2, a2, l2, c2, rfl, z0, z1, z2, z3, HL8⟩)
        | (go_at_call 17; have hU := HL8.out.1.unify (σ12_gv 9) _ _ (exX k) T HL8.out.2 (HL8.out.1.term H2.out.2.2) hgx HM1.out.1 hsx hst; rw [hrun] at hU; simp only at hU; (with_reducible refine hU.mono ?_); clear hU; rintro e w9 ⟨rfl, L9, hl9, hm9⟩))
      all_goals
        have HL9 := Lib.hid hl9
        have hbot := (ch_bottom HL9.out.ch).mono (R' := fun e w' => e = .returned (.int .i64 0) ∧ Hid (Below w9.heap.size w9 w')) (fun e w' h => h.below)
        clear hl9 hm9 HL8 hlet hdr z0 z1 z2 z3 HH7 q10 q11 q12 q13
        go_wp2_with (go_at_call 19; refine hbot.mono ?_; clear hbot; rintro e w10 ⟨rfl, hb10⟩)
        go_ret
        exact ⟨rfl, (HL9.out.step hb10.out).done H2.out.1⟩
  · rw [decide_eq_false hM] at e1 hhas
    obtain rfl : ris = true := e1
    have htr := e2 hM
    clear g3 g4 e2 ho hM
    by_cases h1 : k1 = 1
    · subst h1
      obtain hne := hne.resolve_right (fun h => h rfl)
      go_upto_region 9 with (go_at_call 23; refine hhas.mono ?_; clear hhas; rintro e w7 ⟨rfl, hb7⟩)
      have HL7 := Lib.hid (HLm.out.step hb7)
      clear q10 q11 q12 q13 hb7 HLm
      have HB : ∀ W, Below w7.heap.size w7 W → LW w2 W b V L6 lb σ12 := fun W h => HL7.out.step h
      obtain ⟨q10, q11, q12, q13⟩ := tbox_cells (HL7.out.box H2.out.2.1)
      have hlet : ∀ W, Below w7.heap.size w7 W → Calls Try.prog 21 #[.int .i64 (k : Int)] W fun e W' => ∃ k2 n2 s2 a2 l2 c2, e = .returned (.agg #[.int .i64 k2, .int .i64 n2, .string s2, .slice a2 l2 c2]) ∧ W'.cell? ⟨w.heap.size, 0, none⟩ = some (.int .i64 1) ∧ W'.cell? ⟨w.heap.size, 1, none⟩ = some (.int .i64 n1) ∧ W'.cell? ⟨w.heap.size, 2, none⟩ = some (.string s1) ∧ W'.cell? ⟨w.heap.size, 3, none⟩ = some (.slice a1 l1 c1) ∧ Hid (LW w2 W' b V L6 lb σ12 ∧ TmIn (Oth W' b V L6) W' (.agg #[.int .i64 k2, .int .i64 n2, .string s2, .slice a2 l2 c2]) (exX k)) := fun W hW =>
        (let_at (k : Int) W (by have := HK.out.2.2; exact ⟨by omega, by omega⟩)).mono fun e W' h => by
          obtain ⟨r, rfl, hr, hb⟩ := h
          obtain ⟨k2, n2, s2, a2, l2, c2, ks2, rfl, -⟩ := hr.form
          have h1 := HB W hW
          have h2 := h1.step hb
          obtain ⟨z0, z1, z2, z3⟩ := tbox_cells (h2.box H2.out.2.1)
          exact ⟨k2, n2, s2, a2, l2, c2, rfl, z0, z1, z2, z3, h2, h1.st.new hr⟩
      have hdr : Below w7.heap.size w7 w7.drew := (Below.refl _ _).drew
      have HH7 := Lib.hid HB
      clear HB
      go_region_with (first
        | (go_at_call 21; (with_reducible refine (hlet _ hdr).mono ?_); rintro e w8 ⟨k2, n2, s2, a2, l2, c2, rfl, z0, z1, z2, z3, HL8⟩)
        | (go_at_call 17; have hU := HL8.out.1.unify (σ12_gv 9) _ _ (exX k) T HL8.out.2 (HL8.out.1.term H2.out.2.2) hgx HM1.out.1 hsx hst; rw [hrun] at hU; simp only at hU; (with_reducible refine hU.mono ?_); clear hU; rintro e w9 ⟨rfl, L9, hl9, hm9⟩))
      all_goals
        have HL9 := Lib.hid hl9
        have hbot := (ch_bottom HL9.out.ch).mono (R' := fun e w' => e = .returned (.int .i64 0) ∧ Hid (Below w9.heap.size w9 w')) (fun e w' h => h.below)
        clear hl9 hm9 HL8 hlet hdr z0 z1 z2 z3 HH7 q10 q11 q12 q13
        go_wp2_with (first
          | (go_at_call 19; refine hbot.mono ?_; clear hbot; rintro e w10 ⟨rfl, hb10⟩)
          | (go_at_call 24; refine (mark_at (HL9.out.step hb10.out).st).mono ?_; rw [htr]; rintro e wm ⟨rfl, rfl⟩))
        go_ret
        exact ⟨rfl, (HL9.out.step hb10.out).done H2.out.1⟩
    · have h1' : (k1 == 1) = false := by simpa using h1
      clear hne
      go_upto_region 9 with (go_at_call 23; refine hhas.mono ?_; clear hhas; rintro e w7 ⟨rfl, hb7⟩)
      have HL7 := Lib.hid (HLm.out.step hb7)
      clear q10 q11 q12 q13 hb7 HLm
      have HB : ∀ W, Below w7.heap.size w7 W → LW w2 W b V L6 lb σ12 := fun W h => HL7.out.step h
      obtain ⟨q10, q11, q12, q13⟩ := tbox_cells (HL7.out.box H2.out.2.1)
      have hlet : ∀ W, Below w7.heap.size w7 W → Calls Try.prog 21 #[.int .i64 (k : Int)] W fun e W' => ∃ k2 n2 s2 a2 l2 c2, e = .returned (.agg #[.int .i64 k2, .int .i64 n2, .string s2, .slice a2 l2 c2]) ∧ W'.cell? ⟨w.heap.size, 0, none⟩ = some (.int .i64 k1) ∧ W'.cell? ⟨w.heap.size, 1, none⟩ = some (.int .i64 n1) ∧ W'.cell? ⟨w.heap.size, 2, none⟩ = some (.string s1) ∧ W'.cell? ⟨w.heap.size, 3, none⟩ = some (.slice a1 l1 c1) ∧ Hid (LW w2 W' b V L6 lb σ12 ∧ TmIn (Oth W' b V L6) W' (.agg #[.int .i64 k2, .int .i64 n2, .string s2, .slice a2 l2 c2]) (exX k)) := fun W hW =>
        (let_at (k : Int) W (by have := HK.out.2.2; exact ⟨by omega, by omega⟩)).mono fun e W' h => by
          obtain ⟨r, rfl, hr, hb⟩ := h
          obtain ⟨k2, n2, s2, a2, l2, c2, ks2, rfl, -⟩ := hr.form
          have h1 := HB W hW
          have h2 := h1.step hb
          obtain ⟨z0, z1, z2, z3⟩ := tbox_cells (h2.box H2.out.2.1)
          exact ⟨k2, n2, s2, a2, l2, c2, rfl, z0, z1, z2, z3, h2, h1.st.new hr⟩
      have hdr : Below w7.heap.size w7 w7.drew := (Below.refl _ _).drew
      have HH7 := Lib.hid HB
      clear HB
      go_region_with (first
        | (go_at_call 21; (with_reducible refine (hlet _ hdr).mono ?_); rintro e w8 ⟨k2, n2, s2, a2, l2, c2, rfl, z0, z1, z2, z3, HL8⟩)
        | (go_at_call 17; have hU := HL8.out.1.unify (σ12_gv 9) _ _ (exX k) T HL8.out.2 (HL8.out.1.term H2.out.2.2) hgx HM1.out.1 hsx hst; rw [hrun] at hU; simp only at hU; (with_reducible refine hU.mono ?_); clear hU; rintro e w9 ⟨rfl, L9, hl9, hm9⟩))
      all_goals
        have HL9 := Lib.hid hl9
        have hbot := (ch_bottom HL9.out.ch).mono (R' := fun e w' => e = .returned (.int .i64 0) ∧ Hid (Below w9.heap.size w9 w')) (fun e w' h => h.below)
        clear hl9 hm9 HL8 hlet hdr z0 z1 z2 z3 HH7 q10 q11 q12 q13
        go_wp2_with (first
          | (go_at_call 19; refine hbot.mono ?_; clear hbot; rintro e w10 ⟨rfl, hb10⟩)
          | (go_at_call 24; refine (mark_at (HL9.out.step hb10.out).st).mono ?_; rw [htr]; rintro e wm ⟨rfl, rfl⟩))
        go_ret
        exact ⟨rfl, (HL9.out.step hb10.out).done H2.out.1⟩
end Go.Proofs.Ytfjnajngelemkaa
