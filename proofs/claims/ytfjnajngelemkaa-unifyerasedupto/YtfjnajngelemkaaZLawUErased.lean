/-
  The law UnifyErased, walked.
-/
import Derived.Test.YtfjnajngelemkaaZUniK
import Derived.Test.YtfjnajngelemkaaZUniY
import Derived.Deep.DeepCutAuto
namespace Go.Proofs.Ytfjnajngelemkaa
open Go.RowKit Go.Shelf
open Classical
set_option linter.unusedVariables false
set_option linter.unusedSimpArgs false

theorem Apart.rVlt {W : World} {b bt n₀ : Nat} {V L Vt Lt : Value} {σ : St} (_h : Apart W bt Vt Lt b V L) (hs : StAt (Oth W bt Vt Lt) n₀ W bt Vt Lt σ) {k : Nat} (hk : Vt.ownBlock = some k) : k < W.heap.size := by
  obtain ⟨xs, r1, _⟩ := hs.rV
  exact (r1.lt k hk).2
theorem Apart.flip {W : World} {b bt n₀ : Nat} {V L Vt Lt : Value} {σ : St} (h : Apart W b V L bt Vt Lt) (hs : StAt (Oth W b V L) n₀ W b V L σ) : Apart W bt Vt Lt b V L := by
  obtain ⟨xs, r1, _⟩ := hs.rV
  exact ⟨⟨hs.lt, fun e => h.box.2.1 e.symm, fun e => (h.rV b e).2.1 rfl, fun e => (h.rL b e).2.1 rfl⟩,
    fun k hk => ⟨(r1.lt k hk).2, fun e => h.box.2.2.1 (e ▸ hk), fun e => (h.rV k e).2.2.1 hk, fun e => (h.rL k e).2.2.1 hk⟩,
    fun k hk => ⟨(hs.rL.lt k hk).2, fun e => h.box.2.2.2 (e ▸ hk), fun e => (h.rV k e).2.2.2 hk, fun e => (h.rL k e).2.2.2 hk⟩⟩
set_option maxRecDepth 100000 in
set_option maxHeartbeats 16000000 in
theorem unifyErased_at (v1 : Value) (A : Tm) (v2 : Value) (B : Tm) (w : World) (hA : Has w v1 A) (hB : Has w v2 B) (sA : A.size ≤ 1048576) (sB : B.size ≤ 1048576) : Calls Try.prog 3 #[v1, v2] w (Gets w (.bool true)) := by
  obtain ⟨k1, n1, s1, a1, l1, c1, ks1, rfl, e1, -⟩ := hA.form
  obtain ⟨k2, n2, s2, a2, l2, c2, ks2, rfl, e2, -⟩ := hB.form
  clear e1 e2
  obtain ⟨w2, hw2⟩ : ∃ w2, w2 = (w.alloc (.cells #[.int .i64 k1, .int .i64 n1, .string s1, .slice a1 l1 c1] 24)).alloc (.cells #[.int .i64 k2, .int .i64 n2, .string s2, .slice a2 l2 c2] 24) := ⟨_, rfl⟩
  have hb2 : Below w.heap.size w w2 := by rw [hw2]; exact ((Below.refl _ w).alloc (by simp) _).alloc (by simp) _
  have x1 : w2.heap[w.heap.size]? = some (.cells #[.int .i64 k1, .int .i64 n1, .string s1, .slice a1 l1 c1] 24 (0, 0)) := by rw [hw2]; exact (Below.heap_alloc _ _ _ (by simp)).trans (World.alloc_heap_new _ _)
  have x2 : w2.heap[w.heap.size + 1]? = some (.cells #[.int .i64 k2, .int .i64 n2, .string s2, .slice a2 l2 c2] 24 (0, 0)) := by rw [hw2]; exact (by simpa using World.alloc_heap_new (w.alloc (.cells #[.int .i64 k1, .int .i64 n1, .string s1, .slice a1 l1 c1] 24)) (.cells #[.int .i64 k2, .int .i64 n2, .string s2, .slice a2 l2 c2] 24))
  have t1 : Has w2 (.agg #[.int .i64 k1, .int .i64 n1, .string s1, .slice a1 l1 c1]) A := Has.below hA hb2
  have t2 : Has w2 (.agg #[.int .i64 k2, .int .i64 n2, .string s2, .slice a2 l2 c2]) B := Has.below hB hb2
  have H2 := Lib.hid (And.intro hb2 (And.intro x1 (And.intro t1 (And.intro x2 t2))))
  have HW := Lib.hid hw2
  clear hb2 hw2 x1 t1 hA x2 t2 hB
  go_enter Try.func3, Try.ntmps3
  go_upto_region 1 with fail
  rw [← HW.out]
  go_wp2_with fail
  refine (shown11_at w2).mono ?_
  rintro e w3 ⟨rfl, hb3⟩
  go_wp2_with fail
  refine (chain11_at 8 w3 (by decide)).mono ?_
  rintro e w4 ⟨v4, rfl, hO4, hb4⟩
  go_wp2_with fail
  refine (latt11_at 8 v4 w3 w4 (by decide) hO4).mono ?_
  rintro e w5 ⟨lb, rfl, hL5, hb5⟩
  have hb25 : Below w2.heap.size w2 w5 := hb3.trans ((hb4.trans (hb5.mono hb4.size)).mono hb3.size)
  go_wp2_with fail
  refine (vars11_at w5 w5.heap.size (Nat.le_refl _)).mono ?_
  rintro e w6 ⟨rfl, V, L6, hS6, hb6⟩
  have hst6 := hS6.base hb25.size
  have hch6 := hL5.below hb6
  have hlo6 := Mut.lo hS6 hb6.size hL5.lt
  have hbl6 : Below w2.heap.size w2 w6 := hb25.trans (hb6.mono hb25.size)
  clear hS6
  obtain ⟨b, hbe⟩ : ∃ b, b = w5.heap.size := ⟨_, rfl⟩
  rw [← hbe] at hst6 hlo6 ⊢
  have HL6 : Hid (LW w2 w6 b V L6 lb σ12) := ⟨hst6, hbl6, hch6, hlo6⟩
  clear hb3 hO4 hb4 hL5 hb5 hb25 hb6 hst6 hch6 hlo6 hbl6 hbe
  go_wp2_with fail
  refine (vars0_at w6 w6.heap.size (Nat.le_refl _)).mono ?_
  rintro e w7 ⟨rfl, Vt, hS7, hb7, hz7⟩
  obtain ⟨bt, hbt⟩ : ∃ x, x = w6.heap.size := ⟨_, rfl⟩
  rw [← hbt] at hS7 ⊢
  have hS7' : StAt (Oth w7 bt Vt (.slice none 0 0)) w6.heap.size w7 bt Vt (.slice none 0 0) σ12 := by have h := hS7; rw [hbt] at h ⊢; exact h
  obtain ⟨hT7, hL7, hA7, hB7⟩ := HL6.out.second hS7' hb7
  have HL7 : Hid (LW w2 w7 b V L6 lb σ12) := hL7
  have HT7 : Hid (LW w2 w7 bt Vt (.slice none 0 0) lb σ12) := hT7
  have HA7 := Lib.hid (And.intro hA7 hB7)
  have HZ7 := Lib.hid hz7
  clear hS7 hS7' hb7 hT7 hL7 hA7 hB7 hbt HL6 hz7
  have m1 : ∀ W, Below w7.heap.size w7 W → Calls Try.prog 16 #[.agg #[.int .i64 k1, .int .i64 n1, .string s1, .slice a1 l1 c1]] W (Gets W (.bool A.may11)) := fun W hb => may11_at _ A W (Has.below (HL7.out.has H2.out.2.2.1) hb) (by omega)
  have m2 : ∀ W, Below w7.heap.size w7 W → Calls Try.prog 16 #[.agg #[.int .i64 k2, .int .i64 n2, .string s2, .slice a2 l2 c2]] W (Gets W (.bool B.may11)) := fun W hb => may11_at _ B W (Has.below (HL7.out.has H2.out.2.2.2.2) hb) (by omega)
  have y1 := HL7.out.box H2.out.2.1
  have y2 := HL7.out.box H2.out.2.2.2.1
  obtain ⟨y10, y11, y12, y13⟩ := tbox_cells y1
  obtain ⟨y20, y21, y22, y23⟩ := tbox_cells y2
  by_cases may1 : A.may11 = true
  case neg =>
    have mf : A.may11 = false := by simpa using may1
    rw [mf] at m1
    clear may1 mf
    go_wp2_with (first
      | (go_at_call 16; (with_reducible refine (m1 _ (Below.refl _ _)).mono ?_); rintro e wm1 ⟨rfl, bm1⟩))
    go_ret
    exact ⟨rfl, (HL7.out.step (bm1)).done H2.out.1⟩
  rw [may1] at m1
  by_cases may2 : B.may11 = true
  case neg =>
    have mf : B.may11 = false := by simpa using may2
    rw [mf] at m2
    clear may2 mf
    go_wp2_with (first
      | (go_at_call 16; (have hq := bm1; clear hq); (with_reducible refine (m2 _ (bm1)).mono ?_); rintro e wm2 ⟨rfl, bm2⟩)
      | (go_at_call 16; (with_reducible refine (m1 _ (Below.refl _ _)).mono ?_); rintro e wm1 ⟨rfl, bm1⟩; obtain ⟨y20, y21, y22, y23⟩ := tbox_cells (tbox_below y2 (bm1))))
    go_ret
    exact ⟨rfl, (HL7.out.step ((bm1).trans (bm2.mono (bm1).size))).done H2.out.1⟩
  rw [may2] at m2
  obtain ⟨g1, z1, u1⟩ := may_gv may1
  have HM1 := Lib.hid (And.intro g1 (And.intro z1 u1))
  obtain ⟨g2, z2, u2⟩ := may_gv may2
  have HM2 := Lib.hid (And.intro g2 (And.intro z2 u2))
  clear g1 z1 u1 may1 g2 z2 u2 may2
  go_upto_region 7 with (first
    | (go_at_call 16; (have hq := bm1; clear hq); (with_reducible refine (m2 _ (bm1)).mono ?_); rintro e wm2 ⟨rfl, bm2⟩)
    | (go_at_call 16; (with_reducible refine (m1 _ (Below.refl _ _)).mono ?_); rintro e wm1 ⟨rfl, bm1⟩; obtain ⟨y20, y21, y22, y23⟩ := tbox_cells (tbox_below y2 (bm1))))
  have HLm : Hid (LW w2 wm2 b V L6 lb σ12) := HL7.out.step ((bm1).trans (bm2.mono (bm1).size))
  have HTm : Hid (LW w2 wm2 bt Vt (.slice none 0 0) lb σ12) := HT7.out.step ((bm1).trans (bm2.mono (bm1).size))
  have HZm : Hid (ZeroRow wm2 Vt) := by
    obtain ⟨_, r1, _⟩ := HT7.out.st.rV
    exact HZ7.out.same fun k hk => (bm1.trans (bm2.mono (bm1).size)).block k (r1.lt k hk).2
  have HAm := Lib.hid (And.intro (HA7.out.1.step ((bm1).trans (bm2.mono (bm1).size))) (HA7.out.2.step ((bm1).trans (bm2.mono (bm1).size))))
  clear y10 y11 y12 y13 y1 m1 bm1 y20 y21 y22 y23 y2 m2 bm2 HL7 HT7 HA7
  clear HZ7
  have hU := HLm.out.unify (σ12_gv 9) (.agg #[.int .i64 k1, .int .i64 n1, .string s1, .slice a1 l1 c1]) (.agg #[.int .i64 k2, .int .i64 n2, .string s2, .slice a2 l2 c2]) A B (HLm.out.term H2.out.2.2.1) (HLm.out.term H2.out.2.2.2.2) HM1.out.1 HM2.out.1 (by have := HM1.out.2.1; omega) (by have := HM2.out.2.1; omega)
  obtain ⟨q10, q11, q12, q13⟩ := tbox_cells (HLm.out.box H2.out.2.1)
  obtain ⟨q20, q21, q22, q23⟩ := tbox_cells (HLm.out.box H2.out.2.2.2.1)
  have hgd := good_any (N := 9) (by decide) (good12 9 8) HM1.out.1 HM2.out.1 2000
  have hrr := run12_er HM1.out.1 HM2.out.1
  generalize run 9 2000 σ12 [(A, B)] 0 = R at *
  obtain ⟨ris, rlv, rerr, τ⟩ := R
  simp only at hU hgd hrr
  have HR := Lib.hid (And.intro hgd hrr)
  clear hgd hrr
  go_upto_region 8 with (go_at_call 17; refine hU.mono ?_; clear hU; rintro e w8 ⟨rfl, L8, hl8, hm8⟩)
  have HL8 : Hid (LW w2 w8 b V L8 lb τ) := hl8
  have HT8 : Hid (LW w2 w8 bt Vt (.slice none 0 0) lb σ12) := HTm.out.beside HAm.out.1 hm8 hl8 σ12_none
  have HA8 : Hid (Apart w8 bt Vt (.slice none 0 0) b V L8) := (HAm.out.1.turn hm8).flip hl8.st
  have HZ8 : Hid (ZeroRow w8 Vt) := HZm.out.same fun k hk => (hm8.keep k (HAm.out.1.rV k hk)).1
  have zA : A.size ≤ 1000000000000 := by have := HM1.out.2.1; omega
  have zB : B.size ≤ 1000000000000 := by have := HM2.out.2.1; omega
  have zA' : A.er.size ≤ 2000000 := by have := Tm.er_size A; have := HM1.out.2.1; omega
  have zB' : B.er.size ≤ 2000000 := by have := Tm.er_size B; have := HM2.out.2.1; omega
  have HZ := Lib.hid (And.intro zA (And.intro zB (And.intro zA' zB')))
  clear zA zB zA' zB' q10 q11 q12 q13 q20 q21 q22 q23 hl8 hm8 HLm HTm HAm HZm
  have HS : ∀ w' : World, Below w8.heap.size w8 w' → ((w'.cell? ⟨w.heap.size, 0, none⟩ = some (.int .i64 k1) ∧ w'.cell? ⟨w.heap.size, 1, none⟩ = some (.int .i64 n1) ∧ w'.cell? ⟨w.heap.size, 2, none⟩ = some (.string s1) ∧ w'.cell? ⟨w.heap.size, 3, none⟩ = some (.slice a1 l1 c1)) ∧ (w'.cell? ⟨w.heap.size + 1, 0, none⟩ = some (.int .i64 k2) ∧ w'.cell? ⟨w.heap.size + 1, 1, none⟩ = some (.int .i64 n2) ∧ w'.cell? ⟨w.heap.size + 1, 2, none⟩ = some (.string s2) ∧ w'.cell? ⟨w.heap.size + 1, 3, none⟩ = some (.slice a2 l2 c2))) := fun w' hb => ⟨tbox_cells ((HL8.out.step hb).box H2.out.2.1), tbox_cells ((HL8.out.step hb).box H2.out.2.2.2.1)⟩
  refine wp_region_held_drew (S := (fun w' : World => (w'.cell? ⟨w.heap.size, 0, none⟩ = some (.int .i64 k1) ∧ w'.cell? ⟨w.heap.size, 1, none⟩ = some (.int .i64 n1) ∧ w'.cell? ⟨w.heap.size, 2, none⟩ = some (.string s1) ∧ w'.cell? ⟨w.heap.size, 3, none⟩ = some (.slice a1 l1 c1)) ∧ (w'.cell? ⟨w.heap.size + 1, 0, none⟩ = some (.int .i64 k2) ∧ w'.cell? ⟨w.heap.size + 1, 1, none⟩ = some (.int .i64 n2) ∧ w'.cell? ⟨w.heap.size + 1, 2, none⟩ = some (.string s2) ∧ w'.cell? ⟨w.heap.size + 1, 3, none⟩ = some (.slice a2 l2 c2)))) (by kernel_rfl) (HS _ (Below.refl _ _).drew) (fun hHeld => ?_)
  have hE0 : Below w8.heap.size w8 w8.drew := (Below.refl _ _).drew
  refine wpAnyH_take (i := 0) (v := ?_) rfl (by kernel_rfl) (by kernel_rfl) (by kernel_rfl) (fun _ _ _ h => h) (Or.inl ⟨by kernel_rfl, ?_⟩) hHeld ?_
  rotate_left
  · intro w0 hSw
    (try dsimp only at hSw)
    go_simp
    try (with_reducible rfl)
  try simp only [Act.put, List.setIfInBounds_toArray, List.set_cons_zero, List.set_cons_succ]
  refine wpAnyH_take (i := 1) (v := ?_) rfl (by kernel_rfl) (by kernel_rfl) (by kernel_rfl) (fun _ _ _ h => h) (Or.inl ⟨by kernel_rfl, ?_⟩) hHeld ?_
  rotate_left
  · intro w0 hSw
    (try dsimp only at hSw)
    go_simp
    try (with_reducible rfl)
  try simp only [Act.put, List.setIfInBounds_toArray, List.set_cons_zero, List.set_cons_succ]
  refine wpAnyH_take (i := 2) (v := ?_) rfl (by kernel_rfl) (by kernel_rfl) (by kernel_rfl) (fun _ _ _ h => h) (Or.inl ⟨by kernel_rfl, ?_⟩) hHeld ?_
  rotate_left
  · intro w0 hSw
    (try dsimp only at hSw)
    go_simp
    try (with_reducible rfl)
  try simp only [Act.put, List.setIfInBounds_toArray, List.set_cons_zero, List.set_cons_succ]
  refine wpAnyH_take (i := 4) (v := ?_) rfl (by kernel_rfl) (by kernel_rfl) (by kernel_rfl) (fun _ _ _ h => h) (Or.inl ⟨by kernel_rfl, ?_⟩) hHeld ?_
  rotate_left
  · intro w0 hSw
    (try dsimp only at hSw)
    go_simp
    try (with_reducible rfl)
  try simp only [Act.put, List.setIfInBounds_toArray, List.set_cons_zero, List.set_cons_succ]
  generalize w8.drew = wD at hHeld hE0 ⊢
  refine wpAnyH_ready (rs := [3]) (by kernel_rfl) (by simp) ?_
  refine AllReadyH.cons rfl (fun K hK => ?_) AllReadyH.nil
  go_simp
  refine (erase_at (.agg #[.int .i64 k1, .int .i64 n1, .string s1, .slice a1 l1 c1]) A wD ((HL8.out.step hE0).has H2.out.2.2.1) HZ.out.1).mono ?_
  intro e W2 hh_
  obtain ⟨k3, n3, s3, a3, l3, c3, rfl, hN3, hb2⟩ := hh_.has2
  have hT3 := has_new hN3
  go_wp2_with fail
  have hE2 : Below w8.heap.size w8 W2 := hE0.trans (hb2.mono hE0.size)
  have hQ3 := HT8.out.st.new (hN3.carry (fun _ _ => rfl) (fun c hc => ⟨Nat.le_trans hE0.size hc.1, hc.2⟩))
  refine hK.out _ _ (HS _ hE2) (fun hh3 => ?_)
  clear hK K
  try simp only [Act.put, List.setIfInBounds_toArray, List.set_cons_zero, List.set_cons_succ]
  refine wpAnyH_ready (rs := [5]) (by kernel_rfl) (by simp) ?_
  refine AllReadyH.cons rfl (fun K hK => ?_) AllReadyH.nil
  go_simp
  refine (erase_at (.agg #[.int .i64 k2, .int .i64 n2, .string s2, .slice a2 l2 c2]) B W2 ((HL8.out.step hE2).has H2.out.2.2.2.2) HZ.out.2.1).mono ?_
  intro e W4 hh_
  obtain ⟨k5, n5, s5, a5, l5, c5, rfl, hN5, hb4⟩ := hh_.has2
  have hT5 := has_new hN5
  go_wp2_with fail
  have hE4 : Below w8.heap.size w8 W4 := hE2.trans (hb4.mono hE2.size)
  have hT3 := Has.below hT3 hb4
  have hQ3 := oth_below hb4 hQ3
  have hQ5 := HT8.out.st.new (hN5.carry (fun _ _ => rfl) (fun c hc => ⟨Nat.le_trans hE2.size hc.1, hc.2⟩))
  refine hK.out _ _ (HS _ hE4) (fun hh5 => ?_)
  clear hK K
  try simp only [Act.put, List.setIfInBounds_toArray, List.set_cons_zero, List.set_cons_succ]
  refine wpAnyH_ready (rs := [6]) (by kernel_rfl) (by simp) ?_
  refine AllReadyH.cons rfl (fun K hK => ?_) AllReadyH.nil
  go_simp
  have hLE := HL8.out.step hE4
  have hTE := HT8.out.step hE4
  have hU := hTE.unify (σ12_gv 9) _ _ A.er B.er hQ3 hQ5 (er_gv HM1.out.1) (er_gv HM2.out.1) HZ.out.2.2.1 HZ.out.2.2.2
  rw [HR.out.2] at hU
  simp only at hU
  refine hU.mono ?_
  clear hU
  rintro e wU ⟨rfl, LU, hlU, hmU⟩
  go_wp2_with fail
  have hLU : LW w2 wU b V L8 lb τ := hLE.over HR.out.1.gv hTE.st (HZ8.out.same fun k hk => (hE4).block k (HA8.out.rVlt HT8.out.st hk)) (HA8.out.step hE4) hTE.lo hmU
  clear hLE hTE
  have hSU : (wU.cell? ⟨w.heap.size, 0, none⟩ = some (.int .i64 k1) ∧ wU.cell? ⟨w.heap.size, 1, none⟩ = some (.int .i64 n1) ∧ wU.cell? ⟨w.heap.size, 2, none⟩ = some (.string s1) ∧ wU.cell? ⟨w.heap.size, 3, none⟩ = some (.slice a1 l1 c1)) ∧ (wU.cell? ⟨w.heap.size + 1, 0, none⟩ = some (.int .i64 k2) ∧ wU.cell? ⟨w.heap.size + 1, 1, none⟩ = some (.int .i64 n2) ∧ wU.cell? ⟨w.heap.size + 1, 2, none⟩ = some (.string s2) ∧ wU.cell? ⟨w.heap.size + 1, 3, none⟩ = some (.slice a2 l2 c2)) := ⟨tbox_cells (hLU.box H2.out.2.1), tbox_cells (hLU.box H2.out.2.2.2.1)⟩
  refine hK.out _ _ hSU (fun hhU => ?_)
  clear hK K
  try simp only [Act.put, List.setIfInBounds_toArray, List.set_cons_zero, List.set_cons_succ]
  refine wpAnyH_take (i := 7) (v := ?_) rfl (by kernel_rfl) (by kernel_rfl) (by kernel_rfl) (fun _ _ _ h => h) (Or.inl ⟨by kernel_rfl, ?_⟩) hhU ?_
  rotate_left
  · intro w0 hSw
    (try dsimp only at hSw)
    go_simp
    try (with_reducible rfl)
  try simp only [Act.put, List.setIfInBounds_toArray, List.set_cons_zero, List.set_cons_succ]
  refine wpAnyH_take (i := 8) (v := ?_) rfl (by kernel_rfl) (by kernel_rfl) (by kernel_rfl) (fun _ _ _ h => h) (Or.inl ⟨by kernel_rfl, ?_⟩) hhU ?_
  rotate_left
  · intro w0 hSw
    (try dsimp only at hSw)
    go_simp
    try (with_reducible rfl)
  try simp only [Act.put, List.setIfInBounds_toArray, List.set_cons_zero, List.set_cons_succ]
  refine wpAnyH_take (i := 9) (v := ?_) rfl (by kernel_rfl) (by kernel_rfl) (by kernel_rfl) (fun _ _ _ h => h) (Or.inl ⟨by kernel_rfl, ?_⟩) hhU ?_
  rotate_left
  · intro w0 hSw
    (try dsimp only at hSw)
    go_simp
    try (with_reducible rfl)
  try simp only [Act.put, List.setIfInBounds_toArray, List.set_cons_zero, List.set_cons_succ]
  refine wpAnyH_take (i := 10) (v := ?_) rfl (by kernel_rfl) (by kernel_rfl) (by kernel_rfl) (fun _ _ _ h => h) (Or.inl ⟨by kernel_rfl, ?_⟩) hhU ?_
  rotate_left
  · intro w0 hSw
    (try dsimp only at hSw)
    go_simp
    try (with_reducible rfl)
  try simp only [Act.put, List.setIfInBounds_toArray, List.set_cons_zero, List.set_cons_succ]
  refine wpAnyH_ready (rs := [11]) (by kernel_rfl) (by simp) ?_
  refine AllReadyH.cons rfl (fun K hK => ?_) AllReadyH.nil
  go_simp
  refine hK.out _ _ hSU (fun hhU => ?_)
  clear hK K
  try simp only [Act.put, List.setIfInBounds_toArray, List.set_cons_zero, List.set_cons_succ]
  refine wpAnyH_ready (rs := [12]) (by kernel_rfl) (by simp) ?_
  refine AllReadyH.cons rfl (fun K hK => ?_) AllReadyH.nil
  go_simp
  refine hK.out _ _ hSU (fun hhU => ?_)
  clear hK K
  try simp only [Act.put, List.setIfInBounds_toArray, List.set_cons_zero, List.set_cons_succ]
  refine wpAnyH_ready (rs := [13]) (by kernel_rfl) (by simp) ?_
  refine AllReadyH.cons rfl (fun K hK => ?_) AllReadyH.nil
  go_simp
  refine hK.out _ _ hSU (fun hhU => ?_)
  clear hK K
  try simp only [Act.put, List.setIfInBounds_toArray, List.set_cons_zero, List.set_cons_succ]
  refine wpAnyH_done (by kernel_rfl) ?_ _
  clear hSU
  have HX := Lib.hid (And.intro hLU hlU)
  clear hLU hlU hmU HL8 HT8 HA8 HZ8 HS hhU HZ
  by_cases he : rerr = 0
  case neg =>
    have he' : (rerr != 0) = true := by simpa using he
    clear he
    have hbot := (ch_bottom HX.out.1.ch).mono (R' := fun e w' => e = .returned (.int .i64 0) ∧ Hid (Below wU.heap.size wU w')) (fun e w' h => h.below)
    go_wp2_with (go_at_call 19; refine hbot.mono ?_; clear hbot; rintro e w10 ⟨rfl, hb10⟩)
    go_ret
    exact ⟨rfl, (HX.out.1.step hb10.out).done H2.out.1⟩
  subst he
  go_wp2_with fail
  go_loopw [16] (fun i wr => ∃ c : Nat, i = .int .i64 c ∧ c ≤ 12 ∧ Hid (Below wU.heap.size wU wr)) (fun i _ => 12 - (intOf i).toNat)
  case atStart => exact ⟨0, rfl, by omega, Below.refl _ _⟩
  case round =>
    obtain ⟨c, rfl, hc, hBr⟩ := hrel
    by_cases hlt : c < 12
    · have hlti : (c : Int) < 12 := by omega
      go_wp2_with fail
      refine (let_at (c : Int) wr ⟨by omega, by omega⟩).mono ?_
      intro e wa ha
      obtain ⟨k3, n3, s3, a3, l3, c3, rfl, hT3, hB3⟩ := ha.has
      have HY3 := Lib.hid (And.intro (hBr.out.trans (hB3.mono hBr.out.size)) (show Has wa _ (vK c) from hT3))
      clear ha hT3 hB3
      go_wp2_with fail
      refine (full_any (HX.out.1.step HY3.out.1).st _ (vK c) HY3.out.2).mono ?_
      rintro e wb ⟨kf, nf, sf, af, lf, cf, rfl, hTA, hB4⟩
      obtain ⟨wx, hwx⟩ : ∃ wx, wx = wb.alloc (.cells #[.int .i64 kf, .int .i64 nf, .string sf, .slice af lf cf] 24) := ⟨_, rfl⟩
      have hBx : Below wa.heap.size wa wx := by rw [hwx]; exact hB4.alloc hB4.size _
      have hbx : wx.heap[wb.heap.size]? = some (.cells #[.int .i64 kf, .int .i64 nf, .string sf, .slice af lf cf] 24 (0, 0)) := by rw [hwx]; exact World.alloc_heap_new _ _
      have hKx : Kp wx b V L8 wb.heap.size kf nf sf af lf cf (τ.fill 60 1000 (vK c)).tm := by
        refine ⟨hbx, (HX.out.1.step HY3.out.1).st.fresh ⟨hB4.size, (Array.getElem?_eq_some_iff.1 hbx).1⟩, ?_⟩
        refine hTA.carry (fun c hc => by rw [hwx]; exact Below.heap_alloc wb _ c hc.2) fun c hc => (HX.out.1.step HY3.out.1).st.fresh ⟨hc.1, by rw [hwx]; simp; have := hc.2; omega⟩
      have HKx := Lib.hid hKx
      have HBx := Lib.hid (HY3.out.1.trans (hBx.mono HY3.out.1.size))
      have HWx := Lib.hid hwx
      clear hwx hbx hKx hTA hB4 hBx HY3 hBr
      go_upto_region 15 with fail
      rw [← HWx.out]
      generalize wb.heap.size = BF at *
      clear HWx
      go_wp2_with fail
      refine (let_at (c : Int) wx ⟨by omega, by omega⟩).mono ?_
      intro e wc ha
      obtain ⟨k5, n5, s5, a5, l5, c5, rfl, hT5, hB5⟩ := ha.has
      have HY5 := Lib.hid (And.intro (HBx.out.trans (hB5.mono HBx.out.size)) (And.intro (show Has wc _ (vK c) from hT5) hB5))
      clear ha hT5 hB5
      go_wp2_with fail
      refine (full_any (HX.out.2.step HY5.out.1).st _ (vK c) HY5.out.2.1).mono ?_
      rintro e wd ⟨kg, ng, sg, ag, lg, cg, rfl, hTB, hB6⟩
      obtain ⟨wY, hwY⟩ : ∃ wY, wY = wd.alloc (.cells #[.int .i64 kg, .int .i64 ng, .string sg, .slice ag lg cg] 24) := ⟨_, rfl⟩
      have hBY : Below wc.heap.size wc wY := by rw [hwY]; exact hB6.alloc hB6.size _
      have hbY : wY.heap[wd.heap.size]? = some (.cells #[.int .i64 kg, .int .i64 ng, .string sg, .slice ag lg cg] 24 (0, 0)) := by rw [hwY]; exact World.alloc_heap_new _ _
      have hKY : Kp wY bt Vt LU wd.heap.size kg ng sg ag lg cg (τ.er.fill 60 1000 (vK c)).tm := by
        refine ⟨hbY, (HX.out.2.step HY5.out.1).st.fresh ⟨hB6.size, (Array.getElem?_eq_some_iff.1 hbY).1⟩, ?_⟩
        refine hTB.carry (fun c hc => by rw [hwY]; exact Below.heap_alloc wd _ c hc.2) fun c hc => (HX.out.2.step HY5.out.1).st.fresh ⟨hc.1, by rw [hwY]; simp; have := hc.2; omega⟩
      have HKG := Lib.hid hKY
      have HKF := Lib.hid (HKx.out.mut (Mut.of_below (b := b) (V := V) (L := L8) (HY5.out.2.2.trans (hBY.mono HY5.out.2.2.size))))
      have HBY := Lib.hid (HY5.out.1.trans (hBY.mono HY5.out.1.size))
      have HWY := Lib.hid hwY
      clear hwY hbY hKY hTB hB6 hBY HY5 HKx HBx
      have hfe := full_erased (N := 9) HR.out.1.ranked HR.out.1.gv (T := vK c) (.var _) rfl
      have hsF := tm_size τ (vK c)
      have hsG := tm_size τ.er (vK c)
      generalize (τ.fill 60 1000 (vK c)).err = ea at *
      generalize (τ.er.fill 60 1000 (vK c)).err = eb at *
      generalize (τ.fill 60 1000 (vK c)).tm = TF at *
      generalize (τ.er.fill 60 1000 (vK c)).tm = TG at *
      have HFE := Lib.hid hfe
      have HFS := Lib.hid (And.intro hsF hsG)
      clear hfe hsF hsG
      by_cases ha : ea = 0
      case neg =>
        have ha' : (ea == 0) = false := by simpa using ha
        clear ha
        go_upto_region 16 with fail
        rw [← HWY.out]
        generalize wd.heap.size = BG at *
        clear HWY
        go_upto_region 16 with fail
        obtain ⟨I, inst, F, n0, hF0, hFb, hFc⟩ := later_family wY
        have HFb := Lib.hid hFb
        clear hFb hFc
        refine wp_region_fam F n0 hF0 (by kernel_rfl) (by kernel_rfl) ?_
        clear hF0
        repeat (go_big_quiet_step (fail))
        refine wpQuiet_nil ?_
        intro _ hw_
        obtain ⟨nq, hw__⟩ := hw_
        subst hw__
        go_wp2_with fail
        go_roundw
        case rel => exact ⟨c + 1, by simp, by omega, HBY.out.trans ((HFb.out nq).mono HBY.out.size)⟩
        case measure => simp [intOf]; omega
      subst ha
      by_cases hb : eb = 0
      case neg =>
        have hb' : (eb == 0) = false := by simpa using hb
        clear hb
        go_upto_region 16 with fail
        rw [← HWY.out]
        generalize wd.heap.size = BG at *
        clear HWY
        go_upto_region 16 with fail
        obtain ⟨I, inst, F, n0, hF0, hFb, hFc⟩ := later_family wY
        have HFb := Lib.hid hFb
        clear hFb hFc
        refine wp_region_fam F n0 hF0 (by kernel_rfl) (by kernel_rfl) ?_
        clear hF0
        repeat (go_big_quiet_step (fail))
        refine wpQuiet_nil ?_
        intro _ hw_
        obtain ⟨nq, hw__⟩ := hw_
        subst hw__
        go_wp2_with fail
        go_roundw
        case rel => exact ⟨c + 1, by simp, by omega, HBY.out.trans ((HFb.out nq).mono HBY.out.size)⟩
        case measure => simp [intOf]; omega
      subst hb
      have HE := Lib.hid (HFE.out rfl rfl)
      cases ris with
      | false =>
        go_upto_region 16 with fail
        rw [← HWY.out]
        generalize wd.heap.size = BG at *
        clear HWY
        go_upto_region 16 with fail
        obtain ⟨I, inst, F, n0, hF0, hFb, hFc⟩ := later_family wY
        have HFb := Lib.hid hFb
        clear hFb hFc
        refine wp_region_fam F n0 hF0 (by kernel_rfl) (by kernel_rfl) ?_
        clear hF0
        repeat (go_big_quiet_step (fail))
        refine wpQuiet_nil ?_
        intro _ hw_
        obtain ⟨nq, hw__⟩ := hw_
        subst hw__
        go_wp2_with fail
        go_roundw
        case rel => exact ⟨c + 1, by simp, by omega, HBY.out.trans ((HFb.out nq).mono HBY.out.size)⟩
        case measure => simp [intOf]; omega
      | true =>
        go_upto_region 16 with fail
        rw [← HWY.out]
        generalize wd.heap.size = BG at *
        clear HWY
        have HS2 : ∀ w' : World, Below wY.heap.size wY w' → ((w'.cell? ⟨BF, 0, none⟩ = some (.int .i64 kf) ∧ w'.cell? ⟨BF, 1, none⟩ = some (.int .i64 nf) ∧ w'.cell? ⟨BF, 2, none⟩ = some (.string sf) ∧ w'.cell? ⟨BF, 3, none⟩ = some (.slice af lf cf)) ∧ (w'.cell? ⟨BG, 0, none⟩ = some (.int .i64 kg) ∧ w'.cell? ⟨BG, 1, none⟩ = some (.int .i64 ng) ∧ w'.cell? ⟨BG, 2, none⟩ = some (.string sg) ∧ w'.cell? ⟨BG, 3, none⟩ = some (.slice ag lg cg))) := fun w' hb => ⟨tbox_cells (tbox_below HKF.out.box hb), tbox_cells (tbox_below HKG.out.box hb)⟩
        have hTf := Has.below HKF.out.has (Below.refl _ wY).drew
        have hTg := Has.below HKG.out.has (Below.refl _ wY).drew
        go_upto_region 16 with fail
        refine wp_region_held_drew (S := (fun w' : World => (w'.cell? ⟨BF, 0, none⟩ = some (.int .i64 kf) ∧ w'.cell? ⟨BF, 1, none⟩ = some (.int .i64 nf) ∧ w'.cell? ⟨BF, 2, none⟩ = some (.string sf) ∧ w'.cell? ⟨BF, 3, none⟩ = some (.slice af lf cf)) ∧ (w'.cell? ⟨BG, 0, none⟩ = some (.int .i64 kg) ∧ w'.cell? ⟨BG, 1, none⟩ = some (.int .i64 ng) ∧ w'.cell? ⟨BG, 2, none⟩ = some (.string sg) ∧ w'.cell? ⟨BG, 3, none⟩ = some (.slice ag lg cg)))) (by kernel_rfl) (HS2 _ (Below.refl _ _).drew) (fun hHeld => ?_)
        have hEE : Below wY.heap.size wY wY.drew := (Below.refl _ _).drew
        refine wpAnyH_take (i := 0) (v := ?_) rfl (by kernel_rfl) (by kernel_rfl) (by kernel_rfl) (fun _ _ _ h => h) (Or.inl ⟨by kernel_rfl, ?_⟩) hHeld ?_
        rotate_left
        · intro w0 hSw
          (try dsimp only at hSw)
          go_simp
          try (with_reducible rfl)
        try simp only [Act.put, List.setIfInBounds_toArray, List.set_cons_zero, List.set_cons_succ]
        refine wpAnyH_take (i := 1) (v := ?_) rfl (by kernel_rfl) (by kernel_rfl) (by kernel_rfl) (fun _ _ _ h => h) (Or.inl ⟨by kernel_rfl, ?_⟩) hHeld ?_
        rotate_left
        · intro w0 hSw
          (try dsimp only at hSw)
          go_simp
          try (with_reducible rfl)
        try simp only [Act.put, List.setIfInBounds_toArray, List.set_cons_zero, List.set_cons_succ]
        refine wpAnyH_take (i := 2) (v := ?_) rfl (by kernel_rfl) (by kernel_rfl) (by kernel_rfl) (fun _ _ _ h => h) (Or.inl ⟨by kernel_rfl, ?_⟩) hHeld ?_
        rotate_left
        · intro w0 hSw
          (try dsimp only at hSw)
          go_simp
          try (with_reducible rfl)
        try simp only [Act.put, List.setIfInBounds_toArray, List.set_cons_zero, List.set_cons_succ]
        refine wpAnyH_take (i := 3) (v := ?_) rfl (by kernel_rfl) (by kernel_rfl) (by kernel_rfl) (fun _ _ _ h => h) (Or.inl ⟨by kernel_rfl, ?_⟩) hHeld ?_
        rotate_left
        · intro w0 hSw
          (try dsimp only at hSw)
          go_simp
          try (with_reducible rfl)
        try simp only [Act.put, List.setIfInBounds_toArray, List.set_cons_zero, List.set_cons_succ]
        refine wpAnyH_take (i := 4) (v := ?_) rfl (by kernel_rfl) (by kernel_rfl) (by kernel_rfl) (fun _ _ _ h => h) (Or.inl ⟨by kernel_rfl, ?_⟩) hHeld ?_
        rotate_left
        · intro w0 hSw
          (try dsimp only at hSw)
          go_simp
          try (with_reducible rfl)
        try simp only [Act.put, List.setIfInBounds_toArray, List.set_cons_zero, List.set_cons_succ]
        refine wpAnyH_take (i := 5) (v := ?_) rfl (by kernel_rfl) (by kernel_rfl) (by kernel_rfl) (fun _ _ _ h => h) (Or.inl ⟨by kernel_rfl, ?_⟩) hHeld ?_
        rotate_left
        · intro w0 hSw
          (try dsimp only at hSw)
          go_simp
          try (with_reducible rfl)
        try simp only [Act.put, List.setIfInBounds_toArray, List.set_cons_zero, List.set_cons_succ]
        refine wpAnyH_take (i := 6) (v := ?_) rfl (by kernel_rfl) (by kernel_rfl) (by kernel_rfl) (fun _ _ _ h => h) (Or.inl ⟨by kernel_rfl, ?_⟩) hHeld ?_
        rotate_left
        · intro w0 hSw
          (try dsimp only at hSw)
          go_simp
          try (with_reducible rfl)
        try simp only [Act.put, List.setIfInBounds_toArray, List.set_cons_zero, List.set_cons_succ]
        refine wpAnyH_take (i := 7) (v := ?_) rfl (by kernel_rfl) (by kernel_rfl) (by kernel_rfl) (fun _ _ _ h => h) (Or.inl ⟨by kernel_rfl, ?_⟩) hHeld ?_
        rotate_left
        · intro w0 hSw
          (try dsimp only at hSw)
          go_simp
          try (with_reducible rfl)
        try simp only [Act.put, List.setIfInBounds_toArray, List.set_cons_zero, List.set_cons_succ]
        refine wpAnyH_take (i := 8) (v := ?_) rfl (by kernel_rfl) (by kernel_rfl) (by kernel_rfl) (fun _ _ _ h => h) (Or.inl ⟨by kernel_rfl, ?_⟩) hHeld ?_
        rotate_left
        · intro w0 hSw
          (try dsimp only at hSw)
          go_simp
          try (with_reducible rfl)
        try simp only [Act.put, List.setIfInBounds_toArray, List.set_cons_zero, List.set_cons_succ]
        refine wpAnyH_take (i := 9) (v := ?_) rfl (by kernel_rfl) (by kernel_rfl) (by kernel_rfl) (fun _ _ _ h => h) (Or.inl ⟨by kernel_rfl, ?_⟩) hHeld ?_
        rotate_left
        · intro w0 hSw
          (try dsimp only at hSw)
          go_simp
          try (with_reducible rfl)
        try simp only [Act.put, List.setIfInBounds_toArray, List.set_cons_zero, List.set_cons_succ]
        refine wpAnyH_take (i := 10) (v := ?_) rfl (by kernel_rfl) (by kernel_rfl) (by kernel_rfl) (fun _ _ _ h => h) (Or.inl ⟨by kernel_rfl, ?_⟩) hHeld ?_
        rotate_left
        · intro w0 hSw
          (try dsimp only at hSw)
          go_simp
          try (with_reducible rfl)
        try simp only [Act.put, List.setIfInBounds_toArray, List.set_cons_zero, List.set_cons_succ]
        refine wpAnyH_take (i := 12) (v := ?_) rfl (by kernel_rfl) (by kernel_rfl) (by kernel_rfl) (fun _ _ _ h => h) (Or.inl ⟨by kernel_rfl, ?_⟩) hHeld ?_
        rotate_left
        · intro w0 hSw
          (try dsimp only at hSw)
          go_simp
          try (with_reducible rfl)
        try simp only [Act.put, List.setIfInBounds_toArray, List.set_cons_zero, List.set_cons_succ]
        generalize wY.drew = wE at hHeld hEE hTf hTg ⊢
        refine wpAnyH_ready (rs := [11]) (by kernel_rfl) (by simp) ?_
        refine AllReadyH.cons rfl (fun K hK => ?_) AllReadyH.nil
        go_simp
        refine (erase_at (.agg #[.int .i64 kf, .int .i64 nf, .string sf, .slice af lf cf]) TF wE hTf (by have := HFS.out.1; omega)).mono ?_
        intro e W41 hh_
        obtain ⟨ku, nu, su, au, lu, cu, rfl, hNu, hb41⟩ := hh_.has2
        have hTu := has_new hNu
        go_wp2_with fail
        have hE41 : Below wY.heap.size wY W41 := hEE.trans (hb41.mono hEE.size)
        have hTf := Has.below hTf hb41
        have hTg := Has.below hTg hb41
        refine hK.out _ _ (HS2 _ hE41) (fun hh42 => ?_)
        clear hK K
        try simp only [Act.put, List.setIfInBounds_toArray, List.set_cons_zero, List.set_cons_succ]
        refine wpAnyH_ready (rs := [13]) (by kernel_rfl) (by simp) ?_
        refine AllReadyH.cons rfl (fun K hK => ?_) AllReadyH.nil
        go_simp
        refine (same_at TF.er TG (.agg #[.int .i64 ku, .int .i64 nu, .string su, .slice au lu cu]) (.agg #[.int .i64 kg, .int .i64 ng, .string sg, .slice ag lg cg]) W41 hTu hTg (by have := Tm.er_size TF; have := HFS.out.1; omega) (by have := HFS.out.2; omega)).mono ?_
        rintro e W43 ⟨rfl, hb43⟩
        go_wp2_with fail
        have hE43 : Below wY.heap.size wY W43 := hE41.trans (hb43.mono hE41.size)
        have hTf := Has.below hTf hb43
        have hTg := Has.below hTg hb43
        have hTu := Has.below hTu hb43
        refine hK.out _ _ (HS2 _ hE43) (fun hh44 => ?_)
        clear hK K
        try simp only [Act.put, List.setIfInBounds_toArray, List.set_cons_zero, List.set_cons_succ]
        rw [decide_eq_true HE.out] at *
        refine wpAnyH_take (i := 14) (v := ?_) rfl (by kernel_rfl) (by kernel_rfl) (by kernel_rfl) (fun _ _ _ h => h) (Or.inl ⟨by kernel_rfl, ?_⟩) hh44 ?_
        rotate_left
        · intro w0 hSw
          (try dsimp only at hSw)
          go_simp
          try (with_reducible rfl)
        try simp only [Act.put, List.setIfInBounds_toArray, List.set_cons_zero, List.set_cons_succ]
        refine wpAnyH_ready (rs := [15]) (by kernel_rfl) (by simp) ?_
        refine AllReadyH.cons rfl (fun K hK => ?_) AllReadyH.nil
        go_simp
        refine hK.out _ _ (HS2 _ hE43) (fun hhz => ?_)
        clear hK K
        try simp only [Act.put, List.setIfInBounds_toArray, List.set_cons_zero, List.set_cons_succ]
        refine wpAnyH_done (by kernel_rfl) ?_ _
        have HBZ := Lib.hid (HBY.out.trans (hE43.mono HBY.out.size))
        go_wp2_with fail
        go_roundw
        case rel => exact ⟨c + 1, by simp, by omega, HBZ.out⟩
        case measure => simp [intOf]; omega
    · have hce : c = 12 := by omega
      subst hce
      have HB := Lib.hid hBr.out
      have hbot := (ch_bottom (HX.out.1.step HB.out).ch).mono (R' := fun e w' => e = .returned (.int .i64 0) ∧ Hid (Below wr.heap.size wr w')) (fun e w' h => h.below)
      clear hlt hc hBr
      cases ris <;>
      · go_wp2_with (go_at_call 19; refine hbot.mono ?_; clear hbot; rintro e w10 ⟨rfl, hb10⟩)
        go_ret
        exact ⟨rfl, ((HX.out.1.step HB.out).step hb10.out).done H2.out.1⟩
end Go.Proofs.Ytfjnajngelemkaa
