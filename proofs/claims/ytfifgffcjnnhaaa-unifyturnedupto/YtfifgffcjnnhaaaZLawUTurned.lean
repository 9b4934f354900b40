/-
  The law UnifyTurned, walked.
-/
import Derived.Test.YtfifgffcjnnhaaaZUniK
import Derived.Test.YtfifgffcjnnhaaaZUniLn2
import Derived.Deep.DeepCutAuto
namespace Go.Proofs.Ytfifgffcjnnhaaa
open Go.RowKit Go.Shelf
open Classical
set_option linter.unusedVariables false
set_option linter.unusedSimpArgs false

set_option maxRecDepth 100000 in
set_option maxHeartbeats 16000000 in
theorem unifyTurned_at (v1 : Value) (A : Tm) (v2 : Value) (B : Tm) (w : World) (hA : Has w v1 A) (hB : Has w v2 B) (sA : A.size ≤ 1048576) (sB : B.size ≤ 1048576) : Calls Try.prog 5 #[v1, v2] w (Gets w (.bool true)) := by
  obtain ⟨k1, n1, s1, a1, l1, c1, ks1, rfl, e1, -⟩ := hA.form
  obtain ⟨k2, n2, s2, a2, l2, c2, ks2, rfl, e2, -⟩ := hB.form
  clear e1 e2
  obtain ⟨w2, hw2⟩ : ∃ w2, w2 = (w.alloc (.cells #[.int .i64 k1, .int .i64 n1, .string s1, .slice a1 l1 c1] 24)).alloc (.cells #[.int .i64 k2, .int .i64 n2, .string s2, .slice a2 l2 c2] 24) := ⟨_, rfl⟩
  have hb2 : Below w.heap.size w w2 := by rw [hw2]; exact ((Below.refl _ w).alloc (by simp) _).alloc (by simp) _
  have x1 : w2.heap[w.heap.size]? = some (.cells #[.int .i64 k1, .int .i64 n1, .string s1, .slice a1 l1 c1] 24 (0, 0)) := by rw [hw2]; exact (Below.heap_alloc _ _ _ (by simp)).trans (World.alloc_heap_new _ _)
  have x2 : w2.heap[w.heap.size + 1]? = some (.cells #[.int .i64 k2, .int .i64 n2, .string s2, .slice a2 l2 c2] 24 (0, 0)) := by rw [hw2]; exact (by simpa using World.alloc_heap_new (w.alloc (.cells #[.int .i64 k1, .int .i64 n1, .string s1, .slice a1 l1 c1] 24)) (.cells #[.int .i64 k2, .int .i64 n2, .string s2, .slice a2 l2 c2] 24))
  have t1 : Has w2 (.agg #[.int .i64 k1, .int .i64 n1, .string s1, .slice a1 l1 c1]) A := Has.below hA hb2
  have t2 : Has w2 (.agg #[.int .i64 k2, .int .i64 n2, .string s2, .slice a2 l2 c2]) B := Has.below hB hb2
  have H2 := Lib.hid (And.intro hb2 (And.intro x1 (And.intro t1 (And.intro x2 t2))))
  have HW := Lib.hid hw2
  clear hb2 hw2 x1 t1 hA x2 t2 hB
  go_enter Try.func5, Try.ntmps5
  go_upto_region 1 with fail
  rw [← HW.out]
  go_wp2_with fail
  refine (shown11_at w2).mono ?_
  rintro e w3 ⟨rfl, hb3⟩
  go_wp2_with fail
  refine (chain11_at 8 w3 (by decide)).mono ?_
  rintro e w4 ⟨v4, rfl, hO4, hb4⟩
  go_wp2_with fail
  refine (latt11_at 8 v4 w3 w4 (by decide) hO4).mono ?_
  rintro e w5 ⟨lb, rfl, hL5, hb5⟩
  have hb25 : Below w2.heap.size w2 w5 := hb3.trans ((hb4.trans (hb5.mono hb4.size)).mono hb3.size)
  go_wp2_with fail
  refine (vars11_at w5 w5.heap.size (Nat.le_refl _)).mono ?_
  rintro e w6 ⟨rfl, V, L6, hS6, hb6⟩
  have hst6 := hS6.base hb25.size
  have hch6 := hL5.below hb6
  have hlo6 := Mut.lo hS6 hb6.size hL5.lt
  have hbl6 : Below w2.heap.size w2 w6 := hb25.trans (hb6.mono hb25.size)
  clear hS6
  obtain ⟨b, hbe⟩ : ∃ b, b = w5.heap.size := ⟨_, rfl⟩
  rw [← hbe] at hst6 hlo6 ⊢
  have HL6 : Hid (LW w2 w6 b V L6 lb σ12) := ⟨hst6, hbl6, hch6, hlo6⟩
  clear hb3 hO4 hb4 hL5 hb5 hb25 hb6 hst6 hch6 hlo6 hbl6 hbe
  have m1 : ∀ W, Below w6.heap.size w6 W → Calls Try.prog 13 #[.agg #[.int .i64 k1, .int .i64 n1, .string s1, .slice a1 l1 c1]] W (Gets W (.bool A.may11)) := fun W hb => may11_at _ A W (Has.below (HL6.out.has H2.out.2.2.1) hb) (by omega)
  have m2 : ∀ W, Below w6.heap.size w6 W → Calls Try.prog 13 #[.agg #[.int .i64 k2, .int .i64 n2, .string s2, .slice a2 l2 c2]] W (Gets W (.bool B.may11)) := fun W hb => may11_at _ B W (Has.below (HL6.out.has H2.out.2.2.2.2) hb) (by omega)
  have y1 := HL6.out.box H2.out.2.1
  have y2 := HL6.out.box H2.out.2.2.2.1
  obtain ⟨y10, y11, y12, y13⟩ := tbox_cells y1
  obtain ⟨y20, y21, y22, y23⟩ := tbox_cells y2
  by_cases may1 : A.may11 = true
  case neg =>
    have mf : A.may11 = false := by simpa using may1
    rw [mf] at m1
    clear may1 mf
    go_wp2_with (first
      | (go_at_call 13; (with_reducible refine (m1 _ (Below.refl _ _)).mono ?_); rintro e wm1 ⟨rfl, bm1⟩))
    go_ret
    exact ⟨rfl, (HL6.out.step (bm1)).done H2.out.1⟩
  rw [may1] at m1
  by_cases may2 : B.may11 = true
  case neg =>
    have mf : B.may11 = false := by simpa using may2
    rw [mf] at m2
    clear may2 mf
    go_wp2_with (first
      | (go_at_call 13; (have hq := bm1; clear hq); (with_reducible refine (m2 _ (bm1)).mono ?_); rintro e wm2 ⟨rfl, bm2⟩)
      | (go_at_call 13; (with_reducible refine (m1 _ (Below.refl _ _)).mono ?_); rintro e wm1 ⟨rfl, bm1⟩; obtain ⟨y20, y21, y22, y23⟩ := tbox_cells (tbox_below y2 (bm1))))
    go_ret
    exact ⟨rfl, (HL6.out.step (bm1.trans (bm2.mono bm1.size))).done H2.out.1⟩
  rw [may2] at m2
  obtain ⟨g1, z1, u1⟩ := may_gv may1
  have HM1 := Lib.hid (And.intro g1 (And.intro z1 u1))
  obtain ⟨g2, z2, u2⟩ := may_gv may2
  have HM2 := Lib.hid (And.intro g2 (And.intro z2 u2))
  clear g1 z1 u1 may1 g2 z2 u2 may2
  go_upto_region 6 with (first
    | (go_at_call 13; (have hq := bm1; clear hq); (with_reducible refine (m2 _ (bm1)).mono ?_); rintro e wm2 ⟨rfl, bm2⟩)
    | (go_at_call 13; (with_reducible refine (m1 _ (Below.refl _ _)).mono ?_); rintro e wm1 ⟨rfl, bm1⟩; obtain ⟨y20, y21, y22, y23⟩ := tbox_cells (tbox_below y2 (bm1))))
  have HLm : Hid (LW w2 wm2 b V L6 lb σ12) := HL6.out.step (bm1.trans (bm2.mono bm1.size))
  clear y10 y11 y12 y13 y1 m1 bm1 y20 y21 y22 y23 y2 m2 bm2
  obtain ⟨q10, q11, q12, q13⟩ := tbox_cells (HLm.out.box H2.out.2.1)
  have hU := HLm.out.unify (σ12_gv 9) (.agg #[.int .i64 k1, .int .i64 n1, .string s1, .slice a1 l1 c1]) (.agg #[.int .i64 k1, .int .i64 n1, .string s1, .slice a1 l1 c1]) A A (HLm.out.term H2.out.2.2.1) (HLm.out.term H2.out.2.2.1) HM1.out.1 HM1.out.1 (by omega) (by omega)
  have HO := Lib.hid (own_ghost HM1.out.1)
  generalize run 9 2000 σ12 [(A, A)] 0 = R at *
  obtain ⟨r1, lx1, ee1, τ1⟩ := R
  simp only at hU
  obtain ⟨ho1, ho2, ho3⟩ := HO.out
  simp only at ho1 ho2 ho3
  subst ho1
  have HO' := Lib.hid (And.intro ho2 ho3)
  clear ho2 ho3 HO
  go_upto_region 7 with (go_at_call 14; refine hU.mono ?_; clear hU; rintro e w7 ⟨rfl, L7, hl7, hm7⟩)
  have HL7 : Hid (LW w2 w7 b V L7 lb σ12) := hl7
  clear q10 q11 q12 q13 hl7 hm7 HLm HL6 HW
  have hmk : Calls Try.prog 19 #[.pointer (some ⟨b, 0, none⟩)] w7 fun e w' => e = .returned (.int .i64 0) ∧ w' = w7 := mark_at HL7.out.st
  obtain ⟨q10, q11, q12, q13⟩ := tbox_cells (HL7.out.box H2.out.2.1)
  have hvA := vars_at (.agg #[.int .i64 k1, .int .i64 n1, .string s1, .slice a1 l1 c1]) A w7 (HL7.out.has H2.out.2.2.1) (by omega)
  by_cases he : ee1 = 0
  · subst he
    obtain rfl : r1 = true := HO'.out.1 rfl
    clear HO'
    go_upto_region 9 with (go_at_call 19; refine hmk.mono ?_; rintro e wm ⟨rfl, hwm⟩; obtain rfl := hwm.symm)
    by_cases hA0 : A.vars.length = 0
    case neg =>
      obtain ⟨m, hm⟩ : ∃ m, A.vars.length = m + 1 := ⟨A.vars.length - 1, by omega⟩
      have hp := Lib.hid (show (0 : Int) < ((m + 1 : Nat) : Int) by omega)
      have hp' : decide ((0 : Int) < ((m + 1 : Nat) : Int)) = true := decide_eq_true hp.out
      have hp'' : decide ((0 : Int) < (m : Int) + 1) = true := decide_eq_true (by omega)
      clear hA0
      go_wp2_with (go_at_call 24; refine hvA.mono ?_; rintro e w8 ⟨r_, rfl, ⟨a9, cp9, rfl, -⟩, hb8⟩; (try rw [hm]))
      go_ret
      exact ⟨rfl, (HL7.out.step hb8).done H2.out.1⟩
    by_cases hB0 : B.vars.length = 0
    case neg =>
      obtain ⟨m, hm⟩ : ∃ m, B.vars.length = m + 1 := ⟨B.vars.length - 1, by omega⟩
      have hp := Lib.hid (show (0 : Int) < ((m + 1 : Nat) : Int) by omega)
      have hp' : decide ((0 : Int) < ((m + 1 : Nat) : Int)) = true := decide_eq_true hp.out
      have hp'' : decide ((0 : Int) < (m : Int) + 1) = true := decide_eq_true (by omega)
      clear hB0
      go_wp2_with (first
        | (go_at_call 24; (have hq := hb8; clear hq); (with_reducible refine (vars_at (.agg #[.int .i64 k2, .int .i64 n2, .string s2, .slice a2 l2 c2]) B w8 (Has.below (HL7.out.has H2.out.2.2.2.2) hb8) (by omega)).mono ?_); rintro e w9 ⟨r__, rfl, ⟨a10, cp10, rfl, -⟩, hb9⟩; rw [hm])
        | (go_at_call 24; (with_reducible refine hvA.mono ?_); rintro e w8 ⟨r_, rfl, ⟨a9, cp9, rfl, -⟩, hb8⟩; rw [hA0]; obtain ⟨q20, q21, q22, q23⟩ := tbox_cells (tbox_below (HL7.out.box H2.out.2.2.2.1) hb8)))
      go_ret
      exact ⟨rfl, ((HL7.out.step hb8).step hb9).done H2.out.1⟩
    have HN := Lib.hid (And.intro (nov_of_vars hA0) (nov_of_vars hB0))
    have HA0 := Lib.hid (And.intro hA0 hB0)
    clear hA0 hB0
    go_upto_region 11 with (first
      | (go_at_call 24; (have hq := hb8; clear hq); (with_reducible refine (vars_at (.agg #[.int .i64 k2, .int .i64 n2, .string s2, .slice a2 l2 c2]) B w8 (Has.below (HL7.out.has H2.out.2.2.2.2) hb8) (by omega)).mono ?_); rintro e w9 ⟨r__, rfl, ⟨a10, cp10, rfl, -⟩, hb9⟩; rw [HA0.out.2])
      | (go_at_call 24; (with_reducible refine hvA.mono ?_); rintro e w8 ⟨r_, rfl, ⟨a9, cp9, rfl, -⟩, hb8⟩; rw [HA0.out.1]; obtain ⟨q20, q21, q22, q23⟩ := tbox_cells (tbox_below (HL7.out.box H2.out.2.2.2.1) hb8)))
    have HL9 := Lib.hid ((HL7.out.step hb8).step hb9)
    clear q10 q11 q12 q13 q20 q21 q22 q23 hvA hmk hb8 hb9 HL7 HA0
    obtain ⟨q10, q11, q12, q13⟩ := tbox_cells (HL9.out.box H2.out.2.1)
    obtain ⟨q20, q21, q22, q23⟩ := tbox_cells (HL9.out.box H2.out.2.2.2.1)
    have hU := HL9.out.unify (σ12_gv 9) (.agg #[.int .i64 k1, .int .i64 n1, .string s1, .slice a1 l1 c1]) (.agg #[.int .i64 k2, .int .i64 n2, .string s2, .slice a2 l2 c2]) A B (HL9.out.term H2.out.2.2.1) (HL9.out.term H2.out.2.2.2.2) HM1.out.1 HM2.out.1 (by omega) (by omega)
    have HT0 := Lib.hid (turned_ghost HM1.out.1 HM2.out.1 HN.out.1 HN.out.2)
    generalize run 9 2000 σ12 [(A, B)] 0 = R at *
    obtain ⟨r2, lx2, ee2, τ2⟩ := R
    simp only at hU
    obtain ⟨ho1, ho2, ho3⟩ := HT0.out
    simp only at ho1 ho2 ho3
    subst ho1
    have HT := Lib.hid (And.intro ho2 ho3)
    clear ho2 ho3 HT0
    go_upto_region 12 with (go_at_call 14; refine hU.mono ?_; clear hU; rintro e w10 ⟨rfl, L10, hl10, hm10⟩)
    have HL10 : Hid (LW w2 w10 b V L10 lb σ12) := hl10
    clear q10 q11 q12 q13 q20 q21 q22 q23 hl10 hm10 HL9
    obtain ⟨q10, q11, q12, q13⟩ := tbox_cells (HL10.out.box H2.out.2.1)
    obtain ⟨q20, q21, q22, q23⟩ := tbox_cells (HL10.out.box H2.out.2.2.2.1)
    have hU := HL10.out.unify (σ12_gv 9) (.agg #[.int .i64 k2, .int .i64 n2, .string s2, .slice a2 l2 c2]) (.agg #[.int .i64 k1, .int .i64 n1, .string s1, .slice a1 l1 c1]) B A (HL10.out.term H2.out.2.2.2.2) (HL10.out.term H2.out.2.2.1) HM2.out.1 HM1.out.1 (by omega) (by omega)
    rw [HT.out.1] at hU
    simp only at hU
    go_upto_region 13 with (go_at_call 14; refine hU.mono ?_; clear hU; rintro e w11 ⟨rfl, L11, hl11, hm11⟩)
    have HL11 : Hid (LW w2 w11 b V L11 lb σ12) := hl11
    clear q10 q11 q12 q13 q20 q21 q22 q23 hl11 hm11 HL10
    by_cases he2 : ee2 = 0
    case neg =>
      have he' : (ee2 != 0) = true := by simpa using he2
      clear he2
      go_upto_region 13 with fail
      obtain ⟨I, inst, F, n0, hF0, hFb, hFc⟩ := later_family w11
      have HFb := Lib.hid hFb
      clear hFb hFc
      refine wp_region_fam F n0 hF0 (by kernel_rfl) (by kernel_rfl) ?_
      clear hF0
      repeat (go_big_quiet_step (fail))
      refine wpQuiet_nil ?_
      intro _ hw_
      obtain ⟨nq, hw__⟩ := hw_
      subst hw__
      go_wp2_with fail
      go_ret
      exact ⟨rfl, (HL11.out.step (HFb.out nq)).done H2.out.1⟩
    subst he2
    have HE := Lib.hid (HT.out.2 rfl)
    have HS : ∀ w' : World, Below w11.heap.size w11 w' → ((w'.cell? ⟨w.heap.size, 0, none⟩ = some (.int .i64 k1) ∧ w'.cell? ⟨w.heap.size, 1, none⟩ = some (.int .i64 n1) ∧ w'.cell? ⟨w.heap.size, 2, none⟩ = some (.string s1) ∧ w'.cell? ⟨w.heap.size, 3, none⟩ = some (.slice a1 l1 c1)) ∧ (w'.cell? ⟨w.heap.size + 1, 0, none⟩ = some (.int .i64 k2) ∧ w'.cell? ⟨w.heap.size + 1, 1, none⟩ = some (.int .i64 n2) ∧ w'.cell? ⟨w.heap.size + 1, 2, none⟩ = some (.string s2) ∧ w'.cell? ⟨w.heap.size + 1, 3, none⟩ = some (.slice a2 l2 c2))) := fun w' hb => ⟨tbox_cells (tbox_below (HL11.out.box H2.out.2.1) hb), tbox_cells (tbox_below (HL11.out.box H2.out.2.2.2.1) hb)⟩
    have hT1 := Has.below (HL11.out.has H2.out.2.2.1) (Below.refl _ w11).drew
    have hT2 := Has.below (HL11.out.has H2.out.2.2.2.2) (Below.refl _ w11).drew
    refine wp_region_held_drew (S := (fun w' : World => (w'.cell? ⟨w.heap.size, 0, none⟩ = some (.int .i64 k1) ∧ w'.cell? ⟨w.heap.size, 1, none⟩ = some (.int .i64 n1) ∧ w'.cell? ⟨w.heap.size, 2, none⟩ = some (.string s1) ∧ w'.cell? ⟨w.heap.size, 3, none⟩ = some (.slice a1 l1 c1)) ∧ (w'.cell? ⟨w.heap.size + 1, 0, none⟩ = some (.int .i64 k2) ∧ w'.cell? ⟨w.heap.size + 1, 1, none⟩ = some (.int .i64 n2) ∧ w'.cell? ⟨w.heap.size + 1, 2, none⟩ = some (.string s2) ∧ w'.cell? ⟨w.heap.size + 1, 3, none⟩ = some (.slice a2 l2 c2)))) (by kernel_rfl) (HS _ (Below.refl _ _).drew) (fun hHeld => ?_)
    have hE0 : Below w11.heap.size w11 w11.drew := (Below.refl _ _).drew
    generalize w11.drew = wD at hHeld hE0 hT1 hT2 ⊢
    refine wpAnyH_take (i := 0) (v := ?_) rfl (by kernel_rfl) (by kernel_rfl) (by kernel_rfl) (fun _ _ _ h => h) (Or.inl ⟨by kernel_rfl, ?_⟩) hHeld ?_
    rotate_left
    · intro w0 hSw
      (try dsimp only at hSw)
      go_simp
      try (with_reducible rfl)
    try simp only [Act.put, List.setIfInBounds_toArray, List.set_cons_zero, List.set_cons_succ]
    refine wpAnyH_take (i := 1) (v := ?_) rfl (by kernel_rfl) (by kernel_rfl) (by kernel_rfl) (fun _ _ _ h => h) (Or.inl ⟨by kernel_rfl, ?_⟩) hHeld ?_
    rotate_left
    · intro w0 hSw
      (try dsimp only at hSw)
      go_simp
      try (with_reducible rfl)
    try simp only [Act.put, List.setIfInBounds_toArray, List.set_cons_zero, List.set_cons_succ]
    refine wpAnyH_take (i := 2) (v := ?_) rfl (by kernel_rfl) (by kernel_rfl) (by kernel_rfl) (fun _ _ _ h => h) (Or.inl ⟨by kernel_rfl, ?_⟩) hHeld ?_
    rotate_left
    · intro w0 hSw
      (try dsimp only at hSw)
      go_simp
      try (with_reducible rfl)
    try simp only [Act.put, List.setIfInBounds_toArray, List.set_cons_zero, List.set_cons_succ]
    refine wpAnyH_take (i := 3) (v := ?_) rfl (by kernel_rfl) (by kernel_rfl) (by kernel_rfl) (fun _ _ _ h => h) (Or.inl ⟨by kernel_rfl, ?_⟩) hHeld ?_
    rotate_left
    · intro w0 hSw
      (try dsimp only at hSw)
      go_simp
      try (with_reducible rfl)
    try simp only [Act.put, List.setIfInBounds_toArray, List.set_cons_zero, List.set_cons_succ]
    refine wpAnyH_take (i := 4) (v := ?_) rfl (by kernel_rfl) (by kernel_rfl) (by kernel_rfl) (fun _ _ _ h => h) (Or.inl ⟨by kernel_rfl, ?_⟩) hHeld ?_
    rotate_left
    · intro w0 hSw
      (try dsimp only at hSw)
      go_simp
      try (with_reducible rfl)
    try simp only [Act.put, List.setIfInBounds_toArray, List.set_cons_zero, List.set_cons_succ]
    refine wpAnyH_take (i := 5) (v := ?_) rfl (by kernel_rfl) (by kernel_rfl) (by kernel_rfl) (fun _ _ _ h => h) (Or.inl ⟨by kernel_rfl, ?_⟩) hHeld ?_
    rotate_left
    · intro w0 hSw
      (try dsimp only at hSw)
      go_simp
      try (with_reducible rfl)
    try simp only [Act.put, List.setIfInBounds_toArray, List.set_cons_zero, List.set_cons_succ]
    refine wpAnyH_take (i := 6) (v := ?_) rfl (by kernel_rfl) (by kernel_rfl) (by kernel_rfl) (fun _ _ _ h => h) (Or.inl ⟨by kernel_rfl, ?_⟩) hHeld ?_
    rotate_left
    · intro w0 hSw
      (try dsimp only at hSw)
      go_simp
      try (with_reducible rfl)
    try simp only [Act.put, List.setIfInBounds_toArray, List.set_cons_zero, List.set_cons_succ]
    refine wpAnyH_take (i := 7) (v := ?_) rfl (by kernel_rfl) (by kernel_rfl) (by kernel_rfl) (fun _ _ _ h => h) (Or.inl ⟨by kernel_rfl, ?_⟩) hHeld ?_
    rotate_left
    · intro w0 hSw
      (try dsimp only at hSw)
      go_simp
      try (with_reducible rfl)
    try simp only [Act.put, List.setIfInBounds_toArray, List.set_cons_zero, List.set_cons_succ]
    refine wpAnyH_take (i := 8) (v := ?_) rfl (by kernel_rfl) (by kernel_rfl) (by kernel_rfl) (fun _ _ _ h => h) (Or.inl ⟨by kernel_rfl, ?_⟩) hHeld ?_
    rotate_left
    · intro w0 hSw
      (try dsimp only at hSw)
      go_simp
      try (with_reducible rfl)
    try simp only [Act.put, List.setIfInBounds_toArray, List.set_cons_zero, List.set_cons_succ]
    refine wpAnyH_take (i := 9) (v := ?_) rfl (by kernel_rfl) (by kernel_rfl) (by kernel_rfl) (fun _ _ _ h => h) (Or.inl ⟨by kernel_rfl, ?_⟩) hHeld ?_
    rotate_left
    · intro w0 hSw
      (try dsimp only at hSw)
      go_simp
      try (with_reducible rfl)
    try simp only [Act.put, List.setIfInBounds_toArray, List.set_cons_zero, List.set_cons_succ]
    refine wpAnyH_take (i := 10) (v := ?_) rfl (by kernel_rfl) (by kernel_rfl) (by kernel_rfl) (fun _ _ _ h => h) (Or.inl ⟨by kernel_rfl, ?_⟩) hHeld ?_
    rotate_left
    · intro w0 hSw
      (try dsimp only at hSw)
      go_simp
      try (with_reducible rfl)
    try simp only [Act.put, List.setIfInBounds_toArray, List.set_cons_zero, List.set_cons_succ]
    refine wpAnyH_take (i := 11) (v := ?_) rfl (by kernel_rfl) (by kernel_rfl) (by kernel_rfl) (fun _ _ _ h => h) (Or.inl ⟨by kernel_rfl, ?_⟩) hHeld ?_
    rotate_left
    · intro w0 hSw
      (try dsimp only at hSw)
      go_simp
      try (with_reducible rfl)
    try simp only [Act.put, List.setIfInBounds_toArray, List.set_cons_zero, List.set_cons_succ]
    refine wpAnyH_take (i := 12) (v := ?_) rfl (by kernel_rfl) (by kernel_rfl) (by kernel_rfl) (fun _ _ _ h => h) (Or.inl ⟨by kernel_rfl, ?_⟩) hHeld ?_
    rotate_left
    · intro w0 hSw
      (try dsimp only at hSw)
      go_simp
      try (with_reducible rfl)
    try simp only [Act.put, List.setIfInBounds_toArray, List.set_cons_zero, List.set_cons_succ]
    refine wpAnyH_take (i := 13) (v := ?_) rfl (by kernel_rfl) (by kernel_rfl) (by kernel_rfl) (fun _ _ _ h => h) (Or.inl ⟨by kernel_rfl, ?_⟩) hHeld ?_
    rotate_left
    · intro w0 hSw
      (try dsimp only at hSw)
      go_simp
      try (with_reducible rfl)
    try simp only [Act.put, List.setIfInBounds_toArray, List.set_cons_zero, List.set_cons_succ]
    refine wpAnyH_take (i := 14) (v := ?_) rfl (by kernel_rfl) (by kernel_rfl) (by kernel_rfl) (fun _ _ _ h => h) (Or.inl ⟨by kernel_rfl, ?_⟩) hHeld ?_
    rotate_left
    · intro w0 hSw
      (try dsimp only at hSw)
      go_simp
      try (with_reducible rfl)
    try simp only [Act.put, List.setIfInBounds_toArray, List.set_cons_zero, List.set_cons_succ]
    refine wpAnyH_take (i := 15) (v := ?_) rfl (by kernel_rfl) (by kernel_rfl) (by kernel_rfl) (fun _ _ _ h => h) (Or.inl ⟨by kernel_rfl, ?_⟩) hHeld ?_
    rotate_left
    · intro w0 hSw
      (try dsimp only at hSw)
      go_simp
      try (with_reducible rfl)
    try simp only [Act.put, List.setIfInBounds_toArray, List.set_cons_zero, List.set_cons_succ]
    refine wpAnyH_take (i := 16) (v := ?_) rfl (by kernel_rfl) (by kernel_rfl) (by kernel_rfl) (fun _ _ _ h => h) (Or.inl ⟨by kernel_rfl, ?_⟩) hHeld ?_
    rotate_left
    · intro w0 hSw
      (try dsimp only at hSw)
      go_simp
      try (with_reducible rfl)
    try simp only [Act.put, List.setIfInBounds_toArray, List.set_cons_zero, List.set_cons_succ]
    refine wpAnyH_take (i := 17) (v := ?_) rfl (by kernel_rfl) (by kernel_rfl) (by kernel_rfl) (fun _ _ _ h => h) (Or.inl ⟨by kernel_rfl, ?_⟩) hHeld ?_
    rotate_left
    · intro w0 hSw
      (try dsimp only at hSw)
      go_simp
      try (with_reducible rfl)
    try simp only [Act.put, List.setIfInBounds_toArray, List.set_cons_zero, List.set_cons_succ]
    refine wpAnyH_take (i := 18) (v := ?_) rfl (by kernel_rfl) (by kernel_rfl) (by kernel_rfl) (fun _ _ _ h => h) (Or.inl ⟨by kernel_rfl, ?_⟩) hHeld ?_
    rotate_left
    · intro w0 hSw
      (try dsimp only at hSw)
      go_simp
      try (with_reducible rfl)
    try simp only [Act.put, List.setIfInBounds_toArray, List.set_cons_zero, List.set_cons_succ]
    refine wpAnyH_take (i := 19) (v := ?_) rfl (by kernel_rfl) (by kernel_rfl) (by kernel_rfl) (fun _ _ _ h => h) (Or.inl ⟨by kernel_rfl, ?_⟩) hHeld ?_
    rotate_left
    · intro w0 hSw
      (try dsimp only at hSw)
      go_simp
      try (with_reducible rfl)
    try simp only [Act.put, List.setIfInBounds_toArray, List.set_cons_zero, List.set_cons_succ]
    refine wpAnyH_take (i := 20) (v := ?_) rfl (by kernel_rfl) (by kernel_rfl) (by kernel_rfl) (fun _ _ _ h => h) (Or.inl ⟨by kernel_rfl, ?_⟩) hHeld ?_
    rotate_left
    · intro w0 hSw
      (try dsimp only at hSw)
      go_simp
      try (with_reducible rfl)
    try simp only [Act.put, List.setIfInBounds_toArray, List.set_cons_zero, List.set_cons_succ]
    refine wpAnyH_take (i := 21) (v := ?_) rfl (by kernel_rfl) (by kernel_rfl) (by kernel_rfl) (fun _ _ _ h => h) (Or.inl ⟨by kernel_rfl, ?_⟩) hHeld ?_
    rotate_left
    · intro w0 hSw
      (try dsimp only at hSw)
      go_simp
      try (with_reducible rfl)
    try simp only [Act.put, List.setIfInBounds_toArray, List.set_cons_zero, List.set_cons_succ]
    refine wpAnyH_take (i := 23) (v := ?_) rfl (by kernel_rfl) (by kernel_rfl) (by kernel_rfl) (fun _ _ _ h => h) (Or.inl ⟨by kernel_rfl, ?_⟩) hHeld ?_
    rotate_left
    · intro w0 hSw
      (try dsimp only at hSw)
      go_simp
      try (with_reducible rfl)
    try simp only [Act.put, List.setIfInBounds_toArray, List.set_cons_zero, List.set_cons_succ]
    refine wpAnyH_ready (rs := [22]) (by kernel_rfl) (by simp) ?_
    refine AllReadyH.cons rfl (fun K hK => ?_) AllReadyH.nil
    go_simp
    refine (erase_at (.agg #[.int .i64 k1, .int .i64 n1, .string s1, .slice a1 l1 c1]) A wD hT1 (by omega)).mono ?_
    intro e W2 hh_
    obtain ⟨ku, nu, su, au, lu, cu, rfl, hNu, hb2⟩ := hh_.has2
    have hTu := has_new hNu
    go_wp2_with fail
    have hE2 : Below w11.heap.size w11 W2 := hE0.trans (hb2.mono hE0.size)
    have hT1 := Has.below hT1 hb2
    have hT2 := Has.below hT2 hb2
    refine hK.out _ _ (HS _ hE2) (fun hh3 => ?_)
    clear hK K
    try simp only [Act.put, List.setIfInBounds_toArray, List.set_cons_zero, List.set_cons_succ]
    refine wpAnyH_ready (rs := [24]) (by kernel_rfl) (by simp) ?_
    refine AllReadyH.cons rfl (fun K hK => ?_) AllReadyH.nil
    go_simp
    refine (erase_at (.agg #[.int .i64 k2, .int .i64 n2, .string s2, .slice a2 l2 c2]) B W2 hT2 (by omega)).mono ?_
    intro e W4 hh_
    obtain ⟨kv, nv, sv, av, lv, cv, rfl, hNv, hb4⟩ := hh_.has2
    have hTv := has_new hNv
    go_wp2_with fail
    have hE4 : Below w11.heap.size w11 W4 := hE2.trans (hb4.mono hE2.size)
    have hT1 := Has.below hT1 hb4
    have hT2 := Has.below hT2 hb4
    have hTu := Has.below hTu hb4
    refine hK.out _ _ (HS _ hE4) (fun hh5 => ?_)
    clear hK K
    try simp only [Act.put, List.setIfInBounds_toArray, List.set_cons_zero, List.set_cons_succ]
    refine wpAnyH_ready (rs := [25]) (by kernel_rfl) (by simp) ?_
    refine AllReadyH.cons rfl (fun K hK => ?_) AllReadyH.nil
    go_simp
    refine (same_at A.er B.er (.agg #[.int .i64 ku, .int .i64 nu, .string su, .slice au lu cu]) (.agg #[.int .i64 kv, .int .i64 nv, .string sv, .slice av lv cv]) W4 hTu hTv (by have := Tm.er_size A; omega) (by have := Tm.er_size B; omega)).mono ?_
    rintro e W6 ⟨rfl, hb6⟩
    go_wp2_with fail
    have hE6 : Below w11.heap.size w11 W6 := hE4.trans (hb6.mono hE4.size)
    have hT1 := Has.below hT1 hb6
    have hT2 := Has.below hT2 hb6
    have hTu := Has.below hTu hb6
    have hTv := Has.below hTv hb6
    refine hK.out _ _ (HS _ hE6) (fun hh7 => ?_)
    clear hK K
    try simp only [Act.put, List.setIfInBounds_toArray, List.set_cons_zero, List.set_cons_succ]
    rw [← HE.out]
    refine wpAnyH_take (i := 26) (v := ?_) rfl (by kernel_rfl) (by kernel_rfl) (by kernel_rfl) (fun _ _ _ h => h) (Or.inl ⟨by kernel_rfl, ?_⟩) hh7 ?_
    rotate_left
    · intro w0 hSw
      (try dsimp only at hSw)
      go_simp
      try (with_reducible rfl)
    try simp only [Act.put, List.setIfInBounds_toArray, List.set_cons_zero, List.set_cons_succ]
    refine wpAnyH_take (i := 27) (v := ?_) rfl (by kernel_rfl) (by kernel_rfl) (by kernel_rfl) (fun _ _ _ h => h) (Or.inl ⟨by kernel_rfl, ?_⟩) hh7 ?_
    rotate_left
    · intro w0 hSw
      (try dsimp only at hSw)
      go_simp
      try (with_reducible rfl)
    try simp only [Act.put, List.setIfInBounds_toArray, List.set_cons_zero, List.set_cons_succ]
    refine wpAnyH_take (i := 28) (v := ?_) rfl (by kernel_rfl) (by kernel_rfl) (by kernel_rfl) (fun _ _ _ h => h) (Or.inl ⟨by kernel_rfl, ?_⟩) hh7 ?_
    rotate_left
    · intro w0 hSw
      (try dsimp only at hSw)
      go_simp
      try (with_reducible rfl)
    try simp only [Act.put, List.setIfInBounds_toArray, List.set_cons_zero, List.set_cons_succ]
    refine wpAnyH_ready (rs := [29]) (by kernel_rfl) (by simp) ?_
    refine AllReadyH.cons rfl (fun K hK => ?_) AllReadyH.nil
    go_simp
    refine hK.out _ _ (HS _ hE6) (fun hhz => ?_)
    clear hK K
    try simp only [Act.put, List.setIfInBounds_toArray, List.set_cons_zero, List.set_cons_succ]
    refine wpAnyH_done (by kernel_rfl) ?_ _
    go_wp2_with fail
    go_ret
    exact ⟨rfl, (HL11.out.step hE6).done H2.out.1⟩
  · obtain rfl : ee1 = 3 := HO'.out.2 he
    clear he HO'
    go_upto_region 9 with fail
    by_cases hA0 : A.vars.length = 0
    case neg =>
      obtain ⟨m, hm⟩ : ∃ m, A.vars.length = m + 1 := ⟨A.vars.length - 1, by omega⟩
      have hp := Lib.hid (show (0 : Int) < ((m + 1 : Nat) : Int) by omega)
      have hp' : decide ((0 : Int) < ((m + 1 : Nat) : Int)) = true := decide_eq_true hp.out
      have hp'' : decide ((0 : Int) < (m : Int) + 1) = true := decide_eq_true (by omega)
      clear hA0
      go_wp2_with (go_at_call 24; refine hvA.mono ?_; rintro e w8 ⟨r_, rfl, ⟨a9, cp9, rfl, -⟩, hb8⟩; (try rw [hm]))
      go_ret
      exact ⟨rfl, (HL7.out.step hb8).done H2.out.1⟩
    by_cases hB0 : B.vars.length = 0
    case neg =>
      obtain ⟨m, hm⟩ : ∃ m, B.vars.length = m + 1 := ⟨B.vars.length - 1, by omega⟩
      have hp := Lib.hid (show (0 : Int) < ((m + 1 : Nat) : Int) by omega)
      have hp' : decide ((0 : Int) < ((m + 1 : Nat) : Int)) = true := decide_eq_true hp.out
      have hp'' : decide ((0 : Int) < (m : Int) + 1) = true := decide_eq_true (by omega)
      clear hB0
      go_wp2_with (first
        | (go_at_call 24; (have hq := hb8; clear hq); (with_reducible refine (vars_at (.agg #[.int .i64 k2, .int .i64 n2, .string s2, .slice a2 l2 c2]) B w8 (Has.below (HL7.out.has H2.out.2.2.2.2) hb8) (by omega)).mono ?_); rintro e w9 ⟨r__, rfl, ⟨a10, cp10, rfl, -⟩, hb9⟩; rw [hm])
        | (go_at_call 24; (with_reducible refine hvA.mono ?_); rintro e w8 ⟨r_, rfl, ⟨a9, cp9, rfl, -⟩, hb8⟩; rw [hA0]; obtain ⟨q20, q21, q22, q23⟩ := tbox_cells (tbox_below (HL7.out.box H2.out.2.2.2.1) hb8)))
      go_ret
      exact ⟨rfl, ((HL7.out.step hb8).step hb9).done H2.out.1⟩
    have HN := Lib.hid (And.intro (nov_of_vars hA0) (nov_of_vars hB0))
    have HA0 := Lib.hid (And.intro hA0 hB0)
    clear hA0 hB0
    go_upto_region 11 with (first
      | (go_at_call 24; (have hq := hb8; clear hq); (with_reducible refine (vars_at (.agg #[.int .i64 k2, .int .i64 n2, .string s2, .slice a2 l2 c2]) B w8 (Has.below (HL7.out.has H2.out.2.2.2.2) hb8) (by omega)).mono ?_); rintro e w9 ⟨r__, rfl, ⟨a10, cp10, rfl, -⟩, hb9⟩; rw [HA0.out.2])
      | (go_at_call 24; (with_reducible refine hvA.mono ?_); rintro e w8 ⟨r_, rfl, ⟨a9, cp9, rfl, -⟩, hb8⟩; rw [HA0.out.1]; obtain ⟨q20, q21, q22, q23⟩ := tbox_cells (tbox_below (HL7.out.box H2.out.2.2.2.1) hb8)))
    have HL9 := Lib.hid ((HL7.out.step hb8).step hb9)
    clear q10 q11 q12 q13 q20 q21 q22 q23 hvA hmk hb8 hb9 HL7 HA0
    obtain ⟨q10, q11, q12, q13⟩ := tbox_cells (HL9.out.box H2.out.2.1)
    obtain ⟨q20, q21, q22, q23⟩ := tbox_cells (HL9.out.box H2.out.2.2.2.1)
    have hU := HL9.out.unify (σ12_gv 9) (.agg #[.int .i64 k1, .int .i64 n1, .string s1, .slice a1 l1 c1]) (.agg #[.int .i64 k2, .int .i64 n2, .string s2, .slice a2 l2 c2]) A B (HL9.out.term H2.out.2.2.1) (HL9.out.term H2.out.2.2.2.2) HM1.out.1 HM2.out.1 (by omega) (by omega)
    have HT0 := Lib.hid (turned_ghost HM1.out.1 HM2.out.1 HN.out.1 HN.out.2)
    generalize run 9 2000 σ12 [(A, B)] 0 = R at *
    obtain ⟨r2, lx2, ee2, τ2⟩ := R
    simp only at hU
    obtain ⟨ho1, ho2, ho3⟩ := HT0.out
    simp only at ho1 ho2 ho3
    subst ho1
    have HT := Lib.hid (And.intro ho2 ho3)
    clear ho2 ho3 HT0
    go_upto_region 12 with (go_at_call 14; refine hU.mono ?_; clear hU; rintro e w10 ⟨rfl, L10, hl10, hm10⟩)
    have HL10 : Hid (LW w2 w10 b V L10 lb σ12) := hl10
    clear q10 q11 q12 q13 q20 q21 q22 q23 hl10 hm10 HL9
    obtain ⟨q10, q11, q12, q13⟩ := tbox_cells (HL10.out.box H2.out.2.1)
    obtain ⟨q20, q21, q22, q23⟩ := tbox_cells (HL10.out.box H2.out.2.2.2.1)
    have hU := HL10.out.unify (σ12_gv 9) (.agg #[.int .i64 k2, .int .i64 n2, .string s2, .slice a2 l2 c2]) (.agg #[.int .i64 k1, .int .i64 n1, .string s1, .slice a1 l1 c1]) B A (HL10.out.term H2.out.2.2.2.2) (HL10.out.term H2.out.2.2.1) HM2.out.1 HM1.out.1 (by omega) (by omega)
    rw [HT.out.1] at hU
    simp only at hU
    go_upto_region 13 with (go_at_call 14; refine hU.mono ?_; clear hU; rintro e w11 ⟨rfl, L11, hl11, hm11⟩)
    have HL11 : Hid (LW w2 w11 b V L11 lb σ12) := hl11
    clear q10 q11 q12 q13 q20 q21 q22 q23 hl11 hm11 HL10
    by_cases he2 : ee2 = 0
    case neg =>
      have he' : (ee2 != 0) = true := by simpa using he2
      clear he2
      go_upto_region 13 with fail
      obtain ⟨I, inst, F, n0, hF0, hFb, hFc⟩ := later_family w11
      have HFb := Lib.hid hFb
      clear hFb hFc
      refine wp_region_fam F n0 hF0 (by kernel_rfl) (by kernel_rfl) ?_
      clear hF0
      repeat (go_big_quiet_step (fail))
      refine wpQuiet_nil ?_
      intro _ hw_
      obtain ⟨nq, hw__⟩ := hw_
      subst hw__
      go_wp2_with fail
      go_ret
      exact ⟨rfl, (HL11.out.step (HFb.out nq)).done H2.out.1⟩
    subst he2
    have HE := Lib.hid (HT.out.2 rfl)
    have HS : ∀ w' : World, Below w11.heap.size w11 w' → ((w'.cell? ⟨w.heap.size, 0, none⟩ = some (.int .i64 k1) ∧ w'.cell? ⟨w.heap.size, 1, none⟩ = some (.int .i64 n1) ∧ w'.cell? ⟨w.heap.size, 2, none⟩ = some (.string s1) ∧ w'.cell? ⟨w.heap.size, 3, none⟩ = some (.slice a1 l1 c1)) ∧ (w'.cell? ⟨w.heap.size + 1, 0, none⟩ = some (.int .i64 k2) ∧ w'.cell? ⟨w.heap.size + 1, 1, none⟩ = some (.int .i64 n2) ∧ w'.cell? ⟨w.heap.size + 1, 2, none⟩ = some (.string s2) ∧ w'.cell? ⟨w.heap.size + 1, 3, none⟩ = some (.slice a2 l2 c2))) := fun w' hb => ⟨tbox_cells (tbox_below (HL11.out.box H2.out.2.1) hb), tbox_cells (tbox_below (HL11.out.box H2.out.2.2.2.1) hb)⟩
    have hT1 := Has.below (HL11.out.has H2.out.2.2.1) (Below.refl _ w11).drew
    have hT2 := Has.below (HL11.out.has H2.out.2.2.2.2) (Below.refl _ w11).drew
    refine wp_region_held_drew (S := (fun w' : World => (w'.cell? ⟨w.heap.size, 0, none⟩ = some (.int .i64 k1) ∧ w'.cell? ⟨w.heap.size, 1, none⟩ = some (.int .i64 n1) ∧ w'.cell? ⟨w.heap.size, 2, none⟩ = some (.string s1) ∧ w'.cell? ⟨w.heap.size, 3, none⟩ = some (.slice a1 l1 c1)) ∧ (w'.cell? ⟨w.heap.size + 1, 0, none⟩ = some (.int .i64 k2) ∧ w'.cell? ⟨w.heap.size + 1, 1, none⟩ = some (.int .i64 n2) ∧ w'.cell? ⟨w.heap.size + 1, 2, none⟩ = some (.string s2) ∧ w'.cell? ⟨w.heap.size + 1, 3, none⟩ = some (.slice a2 l2 c2)))) (by kernel_rfl) (HS _ (Below.refl _ _).drew) (fun hHeld => ?_)
    have hE0 : Below w11.heap.size w11 w11.drew := (Below.refl _ _).drew
    generalize w11.drew = wD at hHeld hE0 hT1 hT2 ⊢
    refine wpAnyH_take (i := 0) (v := ?_) rfl (by kernel_rfl) (by kernel_rfl) (by kernel_rfl) (fun _ _ _ h => h) (Or.inl ⟨by kernel_rfl, ?_⟩) hHeld ?_
    rotate_left
    · intro w0 hSw
      (try dsimp only at hSw)
      go_simp
      try (with_reducible rfl)
    try simp only [Act.put, List.setIfInBounds_toArray, List.set_cons_zero, List.set_cons_succ]
    refine wpAnyH_take (i := 1) (v := ?_) rfl (by kernel_rfl) (by kernel_rfl) (by kernel_rfl) (fun _ _ _ h => h) (Or.inl ⟨by kernel_rfl, ?_⟩) hHeld ?_
    rotate_left
    · intro w0 hSw
      (try dsimp only at hSw)
      go_simp
      try (with_reducible rfl)
    try simp only [Act.put, List.setIfInBounds_toArray, List.set_cons_zero, List.set_cons_succ]
    refine wpAnyH_take (i := 2) (v := ?_) rfl (by kernel_rfl) (by kernel_rfl) (by kernel_rfl) (fun _ _ _ h => h) (Or.inl ⟨by kernel_rfl, ?_⟩) hHeld ?_
    rotate_left
    · intro w0 hSw
      (try dsimp only at hSw)
      go_simp
      try (with_reducible rfl)
    try simp only [Act.put, List.setIfInBounds_toArray, List.set_cons_zero, List.set_cons_succ]
    refine wpAnyH_take (i := 3) (v := ?_) rfl (by kernel_rfl) (by kernel_rfl) (by kernel_rfl) (fun _ _ _ h => h) (Or.inl ⟨by kernel_rfl, ?_⟩) hHeld ?_
    rotate_left
    · intro w0 hSw
      (try dsimp only at hSw)
      go_simp
      try (with_reducible rfl)
    try simp only [Act.put, List.setIfInBounds_toArray, List.set_cons_zero, List.set_cons_succ]
    refine wpAnyH_take (i := 4) (v := ?_) rfl (by kernel_rfl) (by kernel_rfl) (by kernel_rfl) (fun _ _ _ h => h) (Or.inl ⟨by kernel_rfl, ?_⟩) hHeld ?_
    rotate_left
    · intro w0 hSw
      (try dsimp only at hSw)
      go_simp
      try (with_reducible rfl)
    try simp only [Act.put, List.setIfInBounds_toArray, List.set_cons_zero, List.set_cons_succ]
    refine wpAnyH_take (i := 5) (v := ?_) rfl (by kernel_rfl) (by kernel_rfl) (by kernel_rfl) (fun _ _ _ h => h) (Or.inl ⟨by kernel_rfl, ?_⟩) hHeld ?_
    rotate_left
    · intro w0 hSw
      (try dsimp only at hSw)
      go_simp
      try (with_reducible rfl)
    try simp only [Act.put, List.setIfInBounds_toArray, List.set_cons_zero, List.set_cons_succ]
    refine wpAnyH_take (i := 6) (v := ?_) rfl (by kernel_rfl) (by kernel_rfl) (by kernel_rfl) (fun _ _ _ h => h) (Or.inl ⟨by kernel_rfl, ?_⟩) hHeld ?_
    rotate_left
    · intro w0 hSw
      (try dsimp only at hSw)
      go_simp
      try (with_reducible rfl)
    try simp only [Act.put, List.setIfInBounds_toArray, List.set_cons_zero, List.set_cons_succ]
    refine wpAnyH_take (i := 7) (v := ?_) rfl (by kernel_rfl) (by kernel_rfl) (by kernel_rfl) (fun _ _ _ h => h) (Or.inl ⟨by kernel_rfl, ?_⟩) hHeld ?_
    rotate_left
    · intro w0 hSw
      (try dsimp only at hSw)
      go_simp
      try (with_reducible rfl)
    try simp only [Act.put, List.setIfInBounds_toArray, List.set_cons_zero, List.set_cons_succ]
    refine wpAnyH_take (i := 8) (v := ?_) rfl (by kernel_rfl) (by kernel_rfl) (by kernel_rfl) (fun _ _ _ h => h) (Or.inl ⟨by kernel_rfl, ?_⟩) hHeld ?_
    rotate_left
    · intro w0 hSw
      (try dsimp only at hSw)
      go_simp
      try (with_reducible rfl)
    try simp only [Act.put, List.setIfInBounds_toArray, List.set_cons_zero, List.set_cons_succ]
    refine wpAnyH_take (i := 9) (v := ?_) rfl (by kernel_rfl) (by kernel_rfl) (by kernel_rfl) (fun _ _ _ h => h) (Or.inl ⟨by kernel_rfl, ?_⟩) hHeld ?_
    rotate_left
    · intro w0 hSw
      (try dsimp only at hSw)
      go_simp
      try (with_reducible rfl)
    try simp only [Act.put, List.setIfInBounds_toArray, List.set_cons_zero, List.set_cons_succ]
    refine wpAnyH_take (i := 10) (v := ?_) rfl (by kernel_rfl) (by kernel_rfl) (by kernel_rfl) (fun _ _ _ h => h) (Or.inl ⟨by kernel_rfl, ?_⟩) hHeld ?_
    rotate_left
    · intro w0 hSw
      (try dsimp only at hSw)
      go_simp
      try (with_reducible rfl)
    try simp only [Act.put, List.setIfInBounds_toArray, List.set_cons_zero, List.set_cons_succ]
    refine wpAnyH_take (i := 11) (v := ?_) rfl (by kernel_rfl) (by kernel_rfl) (by kernel_rfl) (fun _ _ _ h => h) (Or.inl ⟨by kernel_rfl, ?_⟩) hHeld ?_
    rotate_left
    · intro w0 hSw
      (try dsimp only at hSw)
      go_simp
      try (with_reducible rfl)
    try simp only [Act.put, List.setIfInBounds_toArray, List.set_cons_zero, List.set_cons_succ]
    refine wpAnyH_take (i := 12) (v := ?_) rfl (by kernel_rfl) (by kernel_rfl) (by kernel_rfl) (fun _ _ _ h => h) (Or.inl ⟨by kernel_rfl, ?_⟩) hHeld ?_
    rotate_left
    · intro w0 hSw
      (try dsimp only at hSw)
      go_simp
      try (with_reducible rfl)
    try simp only [Act.put, List.setIfInBounds_toArray, List.set_cons_zero, List.set_cons_succ]
    refine wpAnyH_take (i := 13) (v := ?_) rfl (by kernel_rfl) (by kernel_rfl) (by kernel_rfl) (fun _ _ _ h => h) (Or.inl ⟨by kernel_rfl, ?_⟩) hHeld ?_
    rotate_left
    · intro w0 hSw
      (try dsimp only at hSw)
      go_simp
      try (with_reducible rfl)
    try simp only [Act.put, List.setIfInBounds_toArray, List.set_cons_zero, List.set_cons_succ]
    refine wpAnyH_take (i := 14) (v := ?_) rfl (by kernel_rfl) (by kernel_rfl) (by kernel_rfl) (fun _ _ _ h => h) (Or.inl ⟨by kernel_rfl, ?_⟩) hHeld ?_
    rotate_left
    · intro w0 hSw
      (try dsimp only at hSw)
      go_simp
      try (with_reducible rfl)
    try simp only [Act.put, List.setIfInBounds_toArray, List.set_cons_zero, List.set_cons_succ]
    refine wpAnyH_take (i := 15) (v := ?_) rfl (by kernel_rfl) (by kernel_rfl) (by kernel_rfl) (fun _ _ _ h => h) (Or.inl ⟨by kernel_rfl, ?_⟩) hHeld ?_
    rotate_left
    · intro w0 hSw
      (try dsimp only at hSw)
      go_simp
      try (with_reducible rfl)
    try simp only [Act.put, List.setIfInBounds_toArray, List.set_cons_zero, List.set_cons_succ]
    refine wpAnyH_take (i := 16) (v := ?_) rfl (by kernel_rfl) (by kernel_rfl) (by kernel_rfl) (fun _ _ _ h => h) (Or.inl ⟨by kernel_rfl, ?_⟩) hHeld ?_
    rotate_left
    · intro w0 hSw
      (try dsimp only at hSw)
      go_simp
      try (with_reducible rfl)
    try simp only [Act.put, List.setIfInBounds_toArray, List.set_cons_zero, List.set_cons_succ]
    refine wpAnyH_take (i := 17) (v := ?_) rfl (by kernel_rfl) (by kernel_rfl) (by kernel_rfl) (fun _ _ _ h => h) (Or.inl ⟨by kernel_rfl, ?_⟩) hHeld ?_
    rotate_left
    · intro w0 hSw
      (try dsimp only at hSw)
      go_simp
      try (with_reducible rfl)
    try simp only [Act.put, List.setIfInBounds_toArray, List.set_cons_zero, List.set_cons_succ]
    refine wpAnyH_take (i := 18) (v := ?_) rfl (by kernel_rfl) (by kernel_rfl) (by kernel_rfl) (fun _ _ _ h => h) (Or.inl ⟨by kernel_rfl, ?_⟩) hHeld ?_
    rotate_left
    · intro w0 hSw
      (try dsimp only at hSw)
      go_simp
      try (with_reducible rfl)
    try simp only [Act.put, List.setIfInBounds_toArray, List.set_cons_zero, List.set_cons_succ]
    refine wpAnyH_take (i := 19) (v := ?_) rfl (by kernel_rfl) (by kernel_rfl) (by kernel_rfl) (fun _ _ _ h => h) (Or.inl ⟨by kernel_rfl, ?_⟩) hHeld ?_
    rotate_left
    · intro w0 hSw
      (try dsimp only at hSw)
      go_simp
      try (with_reducible rfl)
    try simp only [Act.put, List.setIfInBounds_toArray, List.set_cons_zero, List.set_cons_succ]
    refine wpAnyH_take (i := 20) (v := ?_) rfl (by kernel_rfl) (by kernel_rfl) (by kernel_rfl) (fun _ _ _ h => h) (Or.inl ⟨by kernel_rfl, ?_⟩) hHeld ?_
    rotate_left
    · intro w0 hSw
      (try dsimp only at hSw)
      go_simp
      try (with_reducible rfl)
    try simp only [Act.put, List.setIfInBounds_toArray, List.set_cons_zero, List.set_cons_succ]
    refine wpAnyH_take (i := 21) (v := ?_) rfl (by kernel_rfl) (by kernel_rfl) (by kernel_rfl) (fun _ _ _ h => h) (Or.inl ⟨by kernel_rfl, ?_⟩) hHeld ?_
    rotate_left
    · intro w0 hSw
      (try dsimp only at hSw)
      go_simp
      try (with_reducible rfl)
    try simp only [Act.put, List.setIfInBounds_toArray, List.set_cons_zero, List.set_cons_succ]
    refine wpAnyH_take (i := 23) (v := ?_) rfl (by kernel_rfl) (by kernel_rfl) (by kernel_rfl) (fun _ _ _ h => h) (Or.inl ⟨by kernel_rfl, ?_⟩) hHeld ?_
    rotate_left
    · intro w0 hSw
      (try dsimp only at hSw)
      go_simp
      try (with_reducible rfl)
    try simp only [Act.put, List.setIfInBounds_toArray, List.set_cons_zero, List.set_cons_succ]
    refine wpAnyH_ready (rs := [22]) (by kernel_rfl) (by simp) ?_
    refine AllReadyH.cons rfl (fun K hK => ?_) AllReadyH.nil
    go_simp
    refine (erase_at (.agg #[.int .i64 k1, .int .i64 n1, .string s1, .slice a1 l1 c1]) A wD hT1 (by omega)).mono ?_
    intro e W2 hh_
    obtain ⟨ku, nu, su, au, lu, cu, rfl, hNu, hb2⟩ := hh_.has2
    have hTu := has_new hNu
    go_wp2_with fail
    have hE2 : Below w11.heap.size w11 W2 := hE0.trans (hb2.mono hE0.size)
    have hT1 := Has.below hT1 hb2
    have hT2 := Has.below hT2 hb2
    refine hK.out _ _ (HS _ hE2) (fun hh3 => ?_)
    clear hK K
    try simp only [Act.put, List.setIfInBounds_toArray, List.set_cons_zero, List.set_cons_succ]
    refine wpAnyH_ready (rs := [24]) (by kernel_rfl) (by simp) ?_
    refine AllReadyH.cons rfl (fun K hK => ?_) AllReadyH.nil
    go_simp
    refine (erase_at (.agg #[.int .i64 k2, .int .i64 n2, .string s2, .slice a2 l2 c2]) B W2 hT2 (by omega)).mono ?_
    intro e W4 hh_
    obtain ⟨kv, nv, sv, av, lv, cv, rfl, hNv, hb4⟩ := hh_.has2
    have hTv := has_new hNv
    go_wp2_with fail
    have hE4 : Below w11.heap.size w11 W4 := hE2.trans (hb4.mono hE2.size)
    have hT1 := Has.below hT1 hb4
    have hT2 := Has.below hT2 hb4
    have hTu := Has.below hTu hb4
    refine hK.out _ _ (HS _ hE4) (fun hh5 => ?_)
    clear hK K
    try simp only [Act.put, List.setIfInBounds_toArray, List.set_cons_zero, List.set_cons_succ]
    refine wpAnyH_ready (rs := [25]) (by kernel_rfl) (by simp) ?_
    refine AllReadyH.cons rfl (fun K hK => ?_) AllReadyH.nil
    go_simp
    refine (same_at A.er B.er (.agg #[.int .i64 ku, .int .i64 nu, .string su, .slice au lu cu]) (.agg #[.int .i64 kv, .int .i64 nv, .string sv, .slice av lv cv]) W4 hTu hTv (by have := Tm.er_size A; omega) (by have := Tm.er_size B; omega)).mono ?_
    rintro e W6 ⟨rfl, hb6⟩
    go_wp2_with fail
    have hE6 : Below w11.heap.size w11 W6 := hE4.trans (hb6.mono hE4.size)
    have hT1 := Has.below hT1 hb6
    have hT2 := Has.below hT2 hb6
    have hTu := Has.below hTu hb6
    have hTv := Has.below hTv hb6
    refine hK.out _ _ (HS _ hE6) (fun hh7 => ?_)
    clear hK K
    try simp only [Act.put, List.setIfInBounds_toArray, List.set_cons_zero, List.set_cons_succ]
    rw [← HE.out]
    refine wpAnyH_take (i := 26) (v := ?_) rfl (by kernel_rfl) (by kernel_rfl) (by kernel_rfl) (fun _ _ _ h => h) (Or.inl ⟨by kernel_rfl, ?_⟩) hh7 ?_
    rotate_left
    · intro w0 hSw
      (try dsimp only at hSw)
      go_simp
      try (with_reducible rfl)
    try simp only [Act.put, List.setIfInBounds_toArray, List.set_cons_zero, List.set_cons_succ]
    refine wpAnyH_take (i := 27) (v := ?_) rfl (by kernel_rfl) (by kernel_rfl) (by kernel_rfl) (fun _ _ _ h => h) (Or.inl ⟨by kernel_rfl, ?_⟩) hh7 ?_
    rotate_left
    · intro w0 hSw
      (try dsimp only at hSw)
      go_simp
      try (with_reducible rfl)
    try simp only [Act.put, List.setIfInBounds_toArray, List.set_cons_zero, List.set_cons_succ]
    refine wpAnyH_take (i := 28) (v := ?_) rfl (by kernel_rfl) (by kernel_rfl) (by kernel_rfl) (fun _ _ _ h => h) (Or.inl ⟨by kernel_rfl, ?_⟩) hh7 ?_
    rotate_left
    · intro w0 hSw
      (try dsimp only at hSw)
      go_simp
      try (with_reducible rfl)
    try simp only [Act.put, List.setIfInBounds_toArray, List.set_cons_zero, List.set_cons_succ]
    refine wpAnyH_ready (rs := [29]) (by kernel_rfl) (by simp) ?_
    refine AllReadyH.cons rfl (fun K hK => ?_) AllReadyH.nil
    go_simp
    refine hK.out _ _ (HS _ hE6) (fun hhz => ?_)
    clear hK K
    try simp only [Act.put, List.setIfInBounds_toArray, List.set_cons_zero, List.set_cons_succ]
    refine wpAnyH_done (by kernel_rfl) ?_ _
    go_wp2_with fail
    go_ret
    exact ⟨rfl, (HL11.out.step hE6).done H2.out.1⟩
end Go.Proofs.Ytfifgffcjnnhaaa
