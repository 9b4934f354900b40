/-
  The document's example of layer 11, walked.
-/
import Derived.Test.YtfjnajngelemkaaZUniIn2
import Derived.Deep.DeepCutAuto
namespace Go.Proofs.Ytfjnajngelemkaa
open Go.RowKit Go.Shelf
open Classical
set_option linter.unusedVariables false
set_option linter.unusedSimpArgs false

theorem field0_11 (k n : Int) (s : ByteArray) (a : Option Addr) (l c : Nat) (w : World) : (Instr.field 24 (.agg #[.int .i64 k, .int .i64 n, .string s, .slice a l c]) 0).run Try.prog w = .ok (.int .i64 k) w := by kernel_rfl
set_option maxRecDepth 100000 in
set_option maxHeartbeats 16000000 in
theorem shown11_at (w : World) : Calls Try.prog 12 #[] w (Gets w (.bool true)) := by
  have hz := zeroTerm
  go_enter Try.func12, Try.ntmps12
  go_wp2_with fail
  refine (chain11_at 3 w (by decide)).mono ?_
  rintro e w1 ⟨v1, rfl, hO1, hb1⟩
  go_wp2_with fail
  refine (latt11_at 3 v1 w w1 (by decide) hO1).mono ?_
  rintro e w2 ⟨lb, rfl, hL2, hb2⟩
  have H2 := Lib.hid (And.intro hL2 (hb1.trans (hb2.mono hb1.size)))
  clear hO1 hb1 hb2 hL2
  go_wp2_with fail
  refine (new_at10 w2 w.heap.size H2.out.2.size).mono ?_
  rintro e w3 ⟨rfl, hB3, hlt3, hS3⟩
  have H3 := Lib.hid (And.intro hS3 (And.intro (H2.out.2.trans (hB3.mono H2.out.2.size)) (And.intro (H2.out.1.below hB3) (show Oth w3 w2.heap.size (.slice none 0 0) (.slice none 0 0) lb from ⟨Nat.lt_of_lt_of_le H2.out.1.lt hB3.size, by have := H2.out.1.lt; omega, (fun e => by cases e), (fun e => by cases e)⟩))))
  clear hB3 hlt3 hS3
  go_wp2_with fail
  refine (fresh_at10 H3.out.1 H3.out.2.1.size 2 (by decide)).mono ?_
  rintro e w4 ⟨rfl, V, hS4, hM4⟩
  rw [σ2_eq] at hS4
  have H4 := Lib.hid (And.intro hS4 (And.intro (H3.out.2.1.trans (Mut.below H3.out.1 hM4 H3.out.2.1.size)) (And.intro (H3.out.2.2.1.same (hM4.keep lb H3.out.2.2.2).1 hM4.size) (hM4.keep lb H3.out.2.2.2).2)))
  clear hS4 hM4 H3 H2
  go_wp2_with fail
  refine (atom_at (ByteArray.mk #[97]) w4 (by decide)).mono ?_
  intro e w5 h5
  obtain ⟨ka, na, sa, aa, la, ca, rfl, hNa5, hB5⟩ := h5.has2
  clear h5
  obtain ⟨w6, hw6⟩ : ∃ w6, w6 = w5.alloc (.cells #[.int .i64 ka, .int .i64 na, .string sa, .slice aa la ca] 24) := ⟨_, rfl⟩
  have hb56 : Below w5.heap.size w5 w6 := by rw [hw6]; exact (Below.refl _ _).alloc (Nat.le_refl _) _
  have hb46 : Below w4.heap.size w4 w6 := hB5.trans (hb56.mono hB5.size)
  have hxa : w6.heap[w5.heap.size]? = some (.cells #[.int .i64 ka, .int .i64 na, .string sa, .slice aa la ca] 24 (0, 0)) := by rw [hw6]; exact World.alloc_heap_new _ _
  have H6 := Lib.hid (And.intro (H4.out.1.step hb46) (And.intro (H4.out.2.1.trans (hb46.mono H4.out.2.1.size)) (And.intro (H4.out.2.2.1.below hb46) (And.intro (H4.out.2.2.2.below hb46) (And.intro hxa (And.intro (H4.out.1.new (hNa5.carry (fun c hc => hb56.block c hc.2) (fun c hc => ⟨hc.1, Nat.lt_of_lt_of_le hc.2 hb56.size⟩))) (H4.out.1.fresh (w' := w6) (c := w5.heap.size) ⟨hB5.size, (Array.getElem?_eq_some_iff.1 hxa).1⟩)))))))
  have HW6 := Lib.hid hw6
  clear hw6 hb56 hb46 hxa hNa5 hB5 H4
  go_upto_region 7 with fail
  rw [← HW6.out]
  have HS : ∀ w' : World, Below w6.heap.size w6 w' → (w'.cell? ⟨w5.heap.size, 0, none⟩ = some (.int .i64 ka) ∧ w'.cell? ⟨w5.heap.size, 1, none⟩ = some (.int .i64 na) ∧ w'.cell? ⟨w5.heap.size, 2, none⟩ = some (.string sa) ∧ w'.cell? ⟨w5.heap.size, 3, none⟩ = some (.slice aa la ca)) := fun w' hb => tbox_cells (tbox_below H6.out.2.2.2.2.1 hb)
  refine wp_region_held_drew (S := (fun w' : World => w'.cell? ⟨w5.heap.size, 0, none⟩ = some (.int .i64 ka) ∧ w'.cell? ⟨w5.heap.size, 1, none⟩ = some (.int .i64 na) ∧ w'.cell? ⟨w5.heap.size, 2, none⟩ = some (.string sa) ∧ w'.cell? ⟨w5.heap.size, 3, none⟩ = some (.slice aa la ca))) (by kernel_rfl) (HS _ (Below.refl _ _).drew) (fun hHeld => ?_)
  have hE0 : Below w6.heap.size w6 w6.drew := (Below.refl _ _).drew
  refine wpAnyH_take (i := 0) (v := ?_) rfl (by kernel_rfl) (by kernel_rfl) (by kernel_rfl) (fun _ _ _ h => h) (Or.inl ⟨by kernel_rfl, ?_⟩) hHeld ?_
  rotate_left
  · intro w0 hSw
    (try dsimp only at hSw)
    go_simp
    try (with_reducible rfl)
  try simp only [Act.put, List.setIfInBounds_toArray, List.set_cons_zero, List.set_cons_succ]
  refine wpAnyH_take (i := 1) (v := ?_) rfl (by kernel_rfl) (by kernel_rfl) (by kernel_rfl) (fun _ _ _ h => h) (Or.inl ⟨by kernel_rfl, ?_⟩) hHeld ?_
  rotate_left
  · intro w0 hSw
    (try dsimp only at hSw)
    go_simp
    try (with_reducible rfl)
  try simp only [Act.put, List.setIfInBounds_toArray, List.set_cons_zero, List.set_cons_succ]
  refine wpAnyH_take (i := 6) (v := ?_) rfl (by kernel_rfl) (by kernel_rfl) (by kernel_rfl) (fun _ _ _ h => h) (Or.inl ⟨by kernel_rfl, ?_⟩) hHeld ?_
  rotate_left
  · intro w0 hSw
    (try dsimp only at hSw)
    go_simp
    try (with_reducible rfl)
  try simp only [Act.put, List.setIfInBounds_toArray, List.set_cons_zero, List.set_cons_succ]
  generalize w6.drew = wD at hHeld hE0 ⊢
  refine wpAnyH_ready (rs := [2]) (by kernel_rfl) (by simp) ?_
  refine AllReadyH.cons rfl (fun K hK => ?_) AllReadyH.nil
  go_simp
  refine (let_at 0 wD ⟨by decide, by decide⟩).mono ?_
  intro e W2 hh_
  obtain ⟨k1, n1, s1, a1, l1, c1, rfl, hN1, hb2⟩ := hh_.has2
  have hT1 := has_new hN1
  go_wp2_with fail
  have hE2 : Below w6.heap.size w6 W2 := hE0.trans (hb2.mono hE0.size)
  refine hK.out _ _ (HS _ hE2) (fun hh3 => ?_)
  clear hK K
  try simp only [Act.put, List.setIfInBounds_toArray, List.set_cons_zero, List.set_cons_succ]
  refine wpAnyH_ready (rs := [3]) (by kernel_rfl) (by simp) ?_
  refine AllReadyH.cons rfl (fun K hK => ?_) AllReadyH.nil
  go_simp
  refine (atom_at (ByteArray.mk #[98]) W2 (by decide)).mono ?_
  intro e W4 hh_
  obtain ⟨k2, n2, s2, a2, l2, c2, rfl, hN2, hb4⟩ := hh_.has2
  have hT2 := has_new hN2
  go_wp2_with fail
  have hE4 : Below w6.heap.size w6 W4 := hE2.trans (hb4.mono hE2.size)
  have hT1 := Has.below hT1 hb4
  refine hK.out _ _ (HS _ hE4) (fun hh5 => ?_)
  clear hK K
  try simp only [Act.put, List.setIfInBounds_toArray, List.set_cons_zero, List.set_cons_succ]
  refine wpAnyH_ready (rs := [4]) (by kernel_rfl) (by simp) ?_
  refine AllReadyH.cons rfl (fun K hK => ?_) AllReadyH.nil
  go_simp
  skip
  obtain ⟨W6, hW6⟩ : ∃ W_, W_ = World.alloc W4 (.cells #[.int .i64 k1, .int .i64 n1, .string s1, .slice a1 l1 c1, .int .i64 k2, .int .i64 n2, .string s2, .slice a2 l2 c2] 24) := ⟨_, rfl⟩
  have hb6 : Below W4.heap.size W4 W6 := by rw [hW6]; exact (Below.refl _ _).alloc (Nat.le_refl _) _
  have hE6 : Below w6.heap.size w6 W6 := hE4.trans (hb6.mono hE4.size)
  have hTs := two_terms hT1 hT2
  rw [← hW6] at hTs
  have hT1 := Has.below hT1 hb6
  have hT2 := Has.below hT2 hb6
  rw [← hW6]
  clear hW6
  refine hK.out _ _ (HS _ hE6) (fun hh7 => ?_)
  clear hK K
  try simp only [Act.put, List.setIfInBounds_toArray, List.set_cons_zero, List.set_cons_succ]
  refine wpAnyH_ready (rs := [5]) (by kernel_rfl) (by simp) ?_
  refine AllReadyH.cons rfl (fun K hK => ?_) AllReadyH.nil
  go_simp
  refine (make_at (ByteArray.mk #[102]) _ [exX 0, exB11] W6 (by unfold maxLen; decide) hTs (by decide)).mono ?_
  intro e W8 hh_
  obtain ⟨k3, n3, s3, a3, l3, c3, rfl, hN3, hb8⟩ := hh_.has2
  have hT3 := has_new hN3
  go_wp2_with fail
  have hE8 : Below w6.heap.size w6 W8 := hE6.trans (hb8.mono hE6.size)
  have hQ3 := H6.out.1.new (hN3.carry (fun _ _ => rfl) (fun c hc => ⟨Nat.le_trans hE6.size hc.1, hc.2⟩))
  refine hK.out _ _ (HS _ hE8) (fun hh9 => ?_)
  clear hK K
  try simp only [Act.put, List.setIfInBounds_toArray, List.set_cons_zero, List.set_cons_succ]
  refine wpAnyH_ready (rs := [7]) (by kernel_rfl) (by simp) ?_
  refine AllReadyH.cons rfl (fun K hK => ?_) AllReadyH.nil
  go_simp
  refine (put_at (.agg #[.int .i64 ka, .int .i64 na, .string sa, .slice aa la ca]) exA10 1 W8 ⟨by decide, by decide⟩ (Has.below (oth_has H6.out.2.2.2.2.2.1) hE8) (by decide)).mono ?_
  intro e W10 hh_
  obtain ⟨k4, n4, s4, a4, l4, c4, rfl, hN4, hb10⟩ := hh_.has2
  have hT4 := has_new hN4
  go_wp2_with fail
  have hE10 : Below w6.heap.size w6 W10 := hE8.trans (hb10.mono hE8.size)
  have hT3 := Has.below hT3 hb10
  have hQ3 := oth_below hb10 hQ3
  refine hK.out _ _ (HS _ hE10) (fun hh11 => ?_)
  clear hK K
  try simp only [Act.put, List.setIfInBounds_toArray, List.set_cons_zero, List.set_cons_succ]
  refine wpAnyH_ready (rs := [8]) (by kernel_rfl) (by simp) ?_
  refine AllReadyH.cons rfl (fun K hK => ?_) AllReadyH.nil
  go_simp
  refine (let_at 1 W10 ⟨by decide, by decide⟩).mono ?_
  intro e W12 hh_
  obtain ⟨k5, n5, s5, a5, l5, c5, rfl, hN5, hb12⟩ := hh_.has2
  have hT5 := has_new hN5
  go_wp2_with fail
  have hE12 : Below w6.heap.size w6 W12 := hE10.trans (hb12.mono hE10.size)
  have hT3 := Has.below hT3 hb12
  have hT4 := Has.below hT4 hb12
  have hQ3 := oth_below hb12 hQ3
  refine hK.out _ _ (HS _ hE12) (fun hh13 => ?_)
  clear hK K
  try simp only [Act.put, List.setIfInBounds_toArray, List.set_cons_zero, List.set_cons_succ]
  refine wpAnyH_ready (rs := [9]) (by kernel_rfl) (by simp) ?_
  refine AllReadyH.cons rfl (fun K hK => ?_) AllReadyH.nil
  go_simp
  skip
  obtain ⟨W14, hW14⟩ : ∃ W_, W_ = World.alloc W12 (.cells #[.int .i64 k4, .int .i64 n4, .string s4, .slice a4 l4 c4, .int .i64 k5, .int .i64 n5, .string s5, .slice a5 l5 c5] 24) := ⟨_, rfl⟩
  have hb14 : Below W12.heap.size W12 W14 := by rw [hW14]; exact (Below.refl _ _).alloc (Nat.le_refl _) _
  have hE14 : Below w6.heap.size w6 W14 := hE12.trans (hb14.mono hE12.size)
  have hTs2 := two_terms hT4 hT5
  rw [← hW14] at hTs2
  have hT3 := Has.below hT3 hb14
  have hT4 := Has.below hT4 hb14
  have hT5 := Has.below hT5 hb14
  have hQ3 := oth_below hb14 hQ3
  rw [← hW14]
  clear hW14
  refine hK.out _ _ (HS _ hE14) (fun hh15 => ?_)
  clear hK K
  try simp only [Act.put, List.setIfInBounds_toArray, List.set_cons_zero, List.set_cons_succ]
  refine wpAnyH_ready (rs := [10]) (by kernel_rfl) (by simp) ?_
  refine AllReadyH.cons rfl (fun K hK => ?_) AllReadyH.nil
  go_simp
  refine (make_at (ByteArray.mk #[102]) _ [putT exA10 1, exX 1] W14 (by unfold maxLen; decide) hTs2 (by decide)).mono ?_
  intro e W16 hh_
  obtain ⟨k6, n6, s6, a6, l6, c6, rfl, hN6, hb16⟩ := hh_.has2
  have hT6 := has_new hN6
  go_wp2_with fail
  have hE16 : Below w6.heap.size w6 W16 := hE14.trans (hb16.mono hE14.size)
  have hT3 := Has.below hT3 hb16
  have hQ3 := oth_below hb16 hQ3
  have hQ6 := H6.out.1.new (hN6.carry (fun _ _ => rfl) (fun c hc => ⟨Nat.le_trans hE14.size hc.1, hc.2⟩))
  refine hK.out _ _ (HS _ hE16) (fun hh17 => ?_)
  clear hK K
  try simp only [Act.put, List.setIfInBounds_toArray, List.set_cons_zero, List.set_cons_succ]
  have hU := unify_at (H6.out.1.step hE16) (Nat.le_trans H6.out.2.1.size hE16.size) (H6.out.2.2.1.below hE16) (H6.out.2.2.2.1.below hE16) gvσ2 _ _ exF1 exF2 hQ3 hQ6 gvF1 gvF2 (by decide) (by decide)
  rw [run_ex1] at hU
  unfold MatchP at hU
  refine wpAnyH_ready (rs := [11]) (by kernel_rfl) (by simp) ?_
  refine AllReadyH.cons rfl (fun K hK => ?_) AllReadyH.nil
  go_simp
  refine hU.mono ?_
  clear hU
  rintro e wU ⟨rfl, LU, hSU, hMU⟩
  go_wp2_with fail
  have HU := Lib.hid (And.intro hSU (Mut.trans (Mut.of_below hE16) hMU))
  clear hSU hMU
  have hxU : wU.heap[w5.heap.size]? = some (.cells #[.int .i64 ka, .int .i64 na, .string sa, .slice aa la ca] 24 (0, 0)) := (HU.out.2.keep _ H6.out.2.2.2.2.2.2).1.trans H6.out.2.2.2.2.1
  refine hK.out _ _ (tbox_cells hxU) (fun hhU => ?_)
  clear hK K
  try simp only [Act.put, List.setIfInBounds_toArray, List.set_cons_zero, List.set_cons_succ]
  refine wpAnyH_take (i := 12) (v := ?_) rfl (by kernel_rfl) (by kernel_rfl) (by kernel_rfl) (fun _ _ _ h => h) (Or.inl ⟨by kernel_rfl, ?_⟩) hhU ?_
  rotate_left
  · intro w0 hSw
    (try dsimp only at hSw)
    go_simp
    try (with_reducible rfl)
  try simp only [Act.put, List.setIfInBounds_toArray, List.set_cons_zero, List.set_cons_succ]
  refine wpAnyH_take (i := 13) (v := ?_) rfl (by kernel_rfl) (by kernel_rfl) (by kernel_rfl) (fun _ _ _ h => h) (Or.inl ⟨by kernel_rfl, ?_⟩) hhU ?_
  rotate_left
  · intro w0 hSw
    (try dsimp only at hSw)
    go_simp
    try (with_reducible rfl)
  try simp only [Act.put, List.setIfInBounds_toArray, List.set_cons_zero, List.set_cons_succ]
  refine wpAnyH_take (i := 14) (v := ?_) rfl (by kernel_rfl) (by kernel_rfl) (by kernel_rfl) (fun _ _ _ h => h) (Or.inl ⟨by kernel_rfl, ?_⟩) hhU ?_
  rotate_left
  · intro w0 hSw
    (try dsimp only at hSw)
    go_simp
    try (with_reducible rfl)
  try simp only [Act.put, List.setIfInBounds_toArray, List.set_cons_zero, List.set_cons_succ]
  refine wpAnyH_take (i := 15) (v := ?_) rfl (by kernel_rfl) (by kernel_rfl) (by kernel_rfl) (fun _ _ _ h => h) (Or.inl ⟨by kernel_rfl, ?_⟩) hhU ?_
  rotate_left
  · intro w0 hSw
    (try dsimp only at hSw)
    go_simp
    try (with_reducible rfl)
  try simp only [Act.put, List.setIfInBounds_toArray, List.set_cons_zero, List.set_cons_succ]
  refine wpAnyH_ready (rs := [16]) (by kernel_rfl) (by simp) ?_
  refine AllReadyH.cons rfl (fun K hK => ?_) AllReadyH.nil
  go_simp
  refine hK.out _ _ (tbox_cells hxU) (fun hhU => ?_)
  clear hK K
  try simp only [Act.put, List.setIfInBounds_toArray, List.set_cons_zero, List.set_cons_succ]
  refine wpAnyH_ready (rs := [17]) (by kernel_rfl) (by simp) ?_
  refine AllReadyH.cons rfl (fun K hK => ?_) AllReadyH.nil
  go_simp
  refine hK.out _ _ (tbox_cells hxU) (fun hhU => ?_)
  clear hK K
  try simp only [Act.put, List.setIfInBounds_toArray, List.set_cons_zero, List.set_cons_succ]
  refine wpAnyH_ready (rs := [18]) (by kernel_rfl) (by simp) ?_
  refine AllReadyH.cons rfl (fun K hK => ?_) AllReadyH.nil
  go_simp
  refine hK.out _ _ (tbox_cells hxU) (fun hhU => ?_)
  clear hK K
  try simp only [Act.put, List.setIfInBounds_toArray, List.set_cons_zero, List.set_cons_succ]
  refine wpAnyH_done (by kernel_rfl) ?_ _
  go_upto_region 8 with fail
  have HX := Lib.hid (And.intro (H6.out.2.1.trans (Mut.below H6.out.1 HU.out.2 H6.out.2.1.size)) (And.intro (H6.out.2.2.1.same (HU.out.2.keep lb H6.out.2.2.2.1).1 HU.out.2.size) (And.intro (HU.out.2.keep lb H6.out.2.2.2.1).2 (And.intro (HU.out.2.keep _ H6.out.2.2.2.2.2.2).2 hxU))))
  have hTa : Has wU (.agg #[.int .i64 ka, .int .i64 na, .string sa, .slice aa la ca]) exA10 := oth_has (HU.out.2.term H6.out.2.2.2.2.2.1)
  clear hHeld HS hxU hhU
  go_cut [8, 9, 10] from 42 to 55 (fun v8 v9 v10 wc => v8 = .bool true ∧ v9 = .int .i64 1 ∧ v10 = .int .i64 0 ∧ Hid (∃ L9, StAt (Oth wc w2.heap.size V L9) w.heap.size wc w2.heap.size V L9 τ11 ∧ Below w.heap.size w wc))
  case first =>
    have HS : ∀ w' : World, Below wU.heap.size wU w' → (w'.cell? ⟨w5.heap.size, 0, none⟩ = some (.int .i64 ka) ∧ w'.cell? ⟨w5.heap.size, 1, none⟩ = some (.int .i64 na) ∧ w'.cell? ⟨w5.heap.size, 2, none⟩ = some (.string sa) ∧ w'.cell? ⟨w5.heap.size, 3, none⟩ = some (.slice aa la ca)) := fun w' hb => tbox_cells (tbox_below HX.out.2.2.2.2 hb)
    refine wp_region_held_drew (S := (fun w' : World => w'.cell? ⟨w5.heap.size, 0, none⟩ = some (.int .i64 ka) ∧ w'.cell? ⟨w5.heap.size, 1, none⟩ = some (.int .i64 na) ∧ w'.cell? ⟨w5.heap.size, 2, none⟩ = some (.string sa) ∧ w'.cell? ⟨w5.heap.size, 3, none⟩ = some (.slice aa la ca))) (by kernel_rfl) (HS _ (Below.refl _ _).drew) (fun hHeld => ?_)
    have hE0 : Below wU.heap.size wU wU.drew := (Below.refl _ _).drew
    refine wpAnyH_take (i := 0) (v := ?_) rfl (by kernel_rfl) (by kernel_rfl) (by kernel_rfl) (fun _ _ _ h => h) (Or.inl ⟨by kernel_rfl, ?_⟩) hHeld ?_
    rotate_left
    · intro w0 hSw
      (try dsimp only at hSw)
      go_simp
      try (with_reducible rfl)
    try simp only [Act.put, List.setIfInBounds_toArray, List.set_cons_zero, List.set_cons_succ]
    refine wpAnyH_take (i := 1) (v := ?_) rfl (by kernel_rfl) (by kernel_rfl) (by kernel_rfl) (fun _ _ _ h => h) (Or.inl ⟨by kernel_rfl, ?_⟩) hHeld ?_
    rotate_left
    · intro w0 hSw
      (try dsimp only at hSw)
      go_simp
      try (with_reducible rfl)
    try simp only [Act.put, List.setIfInBounds_toArray, List.set_cons_zero, List.set_cons_succ]
    refine wpAnyH_take (i := 2) (v := ?_) rfl (by kernel_rfl) (by kernel_rfl) (by kernel_rfl) (fun _ _ _ h => h) (Or.inl ⟨by kernel_rfl, ?_⟩) hHeld ?_
    rotate_left
    · intro w0 hSw
      (try dsimp only at hSw)
      go_simp
      try (with_reducible rfl)
    try simp only [Act.put, List.setIfInBounds_toArray, List.set_cons_zero, List.set_cons_succ]
    refine wpAnyH_take (i := 6) (v := ?_) rfl (by kernel_rfl) (by kernel_rfl) (by kernel_rfl) (fun _ _ _ h => h) (Or.inl ⟨by kernel_rfl, ?_⟩) hHeld ?_
    rotate_left
    · intro w0 hSw
      (try dsimp only at hSw)
      go_simp
      try (with_reducible rfl)
    try simp only [Act.put, List.setIfInBounds_toArray, List.set_cons_zero, List.set_cons_succ]
    generalize wU.drew = wD at hHeld hE0 ⊢
    refine wpAnyH_ready (rs := [3, 7]) (by kernel_rfl) (by simp) ?_
    refine AllReadyH.cons rfl (fun K hK => ?_) (AllReadyH.cons rfl (fun K hK => ?_) AllReadyH.nil)
    · go_simp
      refine (put_at (.agg #[.int .i64 ka, .int .i64 na, .string sa, .slice aa la ca]) exA10 1 wD ⟨by decide, by decide⟩ (Has.below hTa hE0) (by decide)).mono ?_
      intro e W101 hh_
      obtain ⟨k9, n9, s9, a9, l9, c9, rfl, hN9, hb101⟩ := hh_.has2
      have hT9 := has_new hN9
      go_wp2_with fail
      have hE101 : Below wU.heap.size wU W101 := hE0.trans (hb101.mono hE0.size)
      refine hK.out _ _ (HS _ hE101) (fun hh102 => ?_)
      clear hK K
      try simp only [Act.put, List.setIfInBounds_toArray, List.set_cons_zero, List.set_cons_succ]
      refine wpAnyH_ready (rs := [4, 7]) (by kernel_rfl) (by simp) ?_
      refine AllReadyH.cons rfl (fun K hK => ?_) (AllReadyH.cons rfl (fun K hK => ?_) AllReadyH.nil)
      · go_simp
        skip
        obtain ⟨W103, hW103⟩ : ∃ W_, W_ = World.alloc W101 (.cells #[.int .i64 k9, .int .i64 n9, .string s9, .slice a9 l9 c9] 24) := ⟨_, rfl⟩
        have hb103 : Below W101.heap.size W101 W103 := by rw [hW103]; exact (Below.refl _ _).alloc (Nat.le_refl _) _
        have hE103 : Below wU.heap.size wU W103 := hE101.trans (hb103.mono hE101.size)
        have hTs3 := one_term hT9
        rw [← hW103] at hTs3
        have hT9 := Has.below hT9 hb103
        rw [← hW103]
        clear hW103
        refine hK.out _ _ (HS _ hE103) (fun hh104 => ?_)
        clear hK K
        try simp only [Act.put, List.setIfInBounds_toArray, List.set_cons_zero, List.set_cons_succ]
        refine wpAnyH_ready (rs := [5, 7]) (by kernel_rfl) (by simp) ?_
        refine AllReadyH.cons rfl (fun K hK => ?_) (AllReadyH.cons rfl (fun K hK => ?_) AllReadyH.nil)
        · go_simp
          refine (make_at (ByteArray.mk #[102]) _ [putT exA10 1] W103 (by unfold maxLen; decide) hTs3 (by decide)).mono ?_
          intro e W105 hh_
          obtain ⟨k7, n7, s7, a7, l7, c7, rfl, hN7, hb105⟩ := hh_.has2
          have hT7 := has_new hN7
          go_wp2_with fail
          have hE105 : Below wU.heap.size wU W105 := hE103.trans (hb105.mono hE103.size)
          have hTs3 := HasTs.below hTs3 hb105
          have hQ7 := HU.out.1.new (hN7.carry (fun _ _ => rfl) (fun c hc => ⟨Nat.le_trans hE103.size hc.1, hc.2⟩))
          refine hK.out _ _ (HS _ hE105) (fun hh106 => ?_)
          clear hK K
          try simp only [Act.put, List.setIfInBounds_toArray, List.set_cons_zero, List.set_cons_succ]
          refine wpAnyH_ready (rs := [7]) (by kernel_rfl) (by simp) ?_
          refine AllReadyH.cons rfl (fun K hK => ?_) AllReadyH.nil
          go_simp
          skip
          obtain ⟨W107, hW107⟩ : ∃ W_, W_ = World.alloc W105 (.cells #[.int .i64 ka, .int .i64 na, .string sa, .slice aa la ca] 24) := ⟨_, rfl⟩
          have hb107 : Below W105.heap.size W105 W107 := by rw [hW107]; exact (Below.refl _ _).alloc (Nat.le_refl _) _
          have hE107 : Below wU.heap.size wU W107 := hE105.trans (hb107.mono hE105.size)
          have hTs4 := one_term (Has.below hTa hE105)
          rw [← hW107] at hTs4
          have hT7 := Has.below hT7 hb107
          have hQ7 := oth_below hb107 hQ7
          rw [← hW107]
          clear hW107
          refine hK.out _ _ (HS _ hE107) (fun hh108 => ?_)
          clear hK K
          try simp only [Act.put, List.setIfInBounds_toArray, List.set_cons_zero, List.set_cons_succ]
          refine wpAnyH_ready (rs := [8]) (by kernel_rfl) (by simp) ?_
          refine AllReadyH.cons rfl (fun K hK => ?_) AllReadyH.nil
          go_simp
          refine (make_at (ByteArray.mk #[102]) _ [exA10] W107 (by unfold maxLen; decide) hTs4 (by decide)).mono ?_
          intro e W109 hh_
          obtain ⟨k8, n8, s8, a8, l8, c8, rfl, hN8, hb109⟩ := hh_.has2
          have hT8 := has_new hN8
          go_wp2_with fail
          have hE109 : Below wU.heap.size wU W109 := hE107.trans (hb109.mono hE107.size)
          have hT7 := Has.below hT7 hb109
          have hTs4 := HasTs.below hTs4 hb109
          have hQ7 := oth_below hb109 hQ7
          have hQ8 := HU.out.1.new (hN8.carry (fun _ _ => rfl) (fun c hc => ⟨Nat.le_trans hE107.size hc.1, hc.2⟩))
          refine hK.out _ _ (HS _ hE109) (fun hh110 => ?_)
          clear hK K
          try simp only [Act.put, List.setIfInBounds_toArray, List.set_cons_zero, List.set_cons_succ]
          have hU2 := unify_at (HU.out.1.step hE109) (Nat.le_trans HX.out.1.size hE109.size) (HX.out.2.1.below hE109) (HX.out.2.2.1.below hE109) gvτ _ _ exF3 exF4 hQ7 hQ8 gvF3 gvF4 (by decide) (by decide)
          rw [run_ex2] at hU2
          unfold MatchP at hU2
          refine wpAnyH_ready (rs := [9]) (by kernel_rfl) (by simp) ?_
          refine AllReadyH.cons rfl (fun K hK => ?_) AllReadyH.nil
          go_simp
          refine hU2.mono ?_
          clear hU2
          rintro e wV ⟨rfl, LV, hSV, hMV⟩
          go_wp2_with fail
          have HV := Lib.hid (And.intro hSV (HX.out.1.trans ((Mut.of_below (b := w2.heap.size) (V := V) (L := LU) hE109).trans hMV |> fun m => Mut.below HU.out.1 m HX.out.1.size)))
          have hxV := (hMV.keep _ (HX.out.2.2.2.1.below hE109)).1.trans (tbox_below HX.out.2.2.2.2 hE109)
          clear hSV hMV
          refine hK.out _ _ (tbox_cells hxV) (fun hhV => ?_)
          clear hK K
          try simp only [Act.put, List.setIfInBounds_toArray, List.set_cons_zero, List.set_cons_succ]
          refine wpAnyH_take (i := 10) (v := ?_) rfl (by kernel_rfl) (by kernel_rfl) (by kernel_rfl) (fun _ _ _ h => h) (Or.inl ⟨by kernel_rfl, ?_⟩) hhV ?_
          rotate_left
          · intro w0 hSw
            (try dsimp only at hSw)
            go_simp
            try (with_reducible rfl)
          try simp only [Act.put, List.setIfInBounds_toArray, List.set_cons_zero, List.set_cons_succ]
          refine wpAnyH_take (i := 11) (v := ?_) rfl (by kernel_rfl) (by kernel_rfl) (by kernel_rfl) (fun _ _ _ h => h) (Or.inl ⟨by kernel_rfl, ?_⟩) hhV ?_
          rotate_left
          · intro w0 hSw
            (try dsimp only at hSw)
            go_simp
            try (with_reducible rfl)
          try simp only [Act.put, List.setIfInBounds_toArray, List.set_cons_zero, List.set_cons_succ]
          refine wpAnyH_take (i := 12) (v := ?_) rfl (by kernel_rfl) (by kernel_rfl) (by kernel_rfl) (fun _ _ _ h => h) (Or.inl ⟨by kernel_rfl, ?_⟩) hhV ?_
          rotate_left
          · intro w0 hSw
            (try dsimp only at hSw)
            go_simp
            try (with_reducible rfl)
          try simp only [Act.put, List.setIfInBounds_toArray, List.set_cons_zero, List.set_cons_succ]
          refine wpAnyH_take (i := 13) (v := ?_) rfl (by kernel_rfl) (by kernel_rfl) (by kernel_rfl) (fun _ _ _ h => h) (Or.inl ⟨by kernel_rfl, ?_⟩) hhV ?_
          rotate_left
          · intro w0 hSw
            (try dsimp only at hSw)
            go_simp
            try (with_reducible rfl)
          try simp only [Act.put, List.setIfInBounds_toArray, List.set_cons_zero, List.set_cons_succ]
          refine wpAnyH_ready (rs := [14]) (by kernel_rfl) (by simp) ?_
          refine AllReadyH.cons rfl (fun K hK => ?_) AllReadyH.nil
          go_simp
          refine hK.out _ _ (tbox_cells hxV) (fun hhV => ?_)
          clear hK K
          try simp only [Act.put, List.setIfInBounds_toArray, List.set_cons_zero, List.set_cons_succ]
          refine wpAnyH_ready (rs := [15]) (by kernel_rfl) (by simp) ?_
          refine AllReadyH.cons rfl (fun K hK => ?_) AllReadyH.nil
          go_simp
          refine hK.out _ _ (tbox_cells hxV) (fun hhV => ?_)
          clear hK K
          try simp only [Act.put, List.setIfInBounds_toArray, List.set_cons_zero, List.set_cons_succ]
          refine wpAnyH_ready (rs := [16]) (by kernel_rfl) (by simp) ?_
          refine AllReadyH.cons rfl (fun K hK => ?_) AllReadyH.nil
          go_simp
          refine hK.out _ _ (tbox_cells hxV) (fun hhV => ?_)
          clear hK K
          try simp only [Act.put, List.setIfInBounds_toArray, List.set_cons_zero, List.set_cons_succ]
          refine wpAnyH_done (by kernel_rfl) ?_ _
          go_wp2_with fail
          go_meet
          exact ⟨rfl, rfl, rfl, LV, HV.out.1, HV.out.2⟩
        · go_simp
          skip
          obtain ⟨W105, hW105⟩ : ∃ W_, W_ = World.alloc W103 (.cells #[.int .i64 ka, .int .i64 na, .string sa, .slice aa la ca] 24) := ⟨_, rfl⟩
          have hb105 : Below W103.heap.size W103 W105 := by rw [hW105]; exact (Below.refl _ _).alloc (Nat.le_refl _) _
          have hE105 : Below wU.heap.size wU W105 := hE103.trans (hb105.mono hE103.size)
          have hTs4 := one_term (Has.below hTa hE103)
          rw [← hW105] at hTs4
          have hTs3 := HasTs.below hTs3 hb105
          rw [← hW105]
          clear hW105
          refine hK.out _ _ (HS _ hE105) (fun hh106 => ?_)
          clear hK K
          try simp only [Act.put, List.setIfInBounds_toArray, List.set_cons_zero, List.set_cons_succ]
          refine wpAnyH_ready (rs := [5]) (by kernel_rfl) (by simp) ?_
          refine AllReadyH.cons rfl (fun K hK => ?_) AllReadyH.nil
          go_simp
          refine (make_at (ByteArray.mk #[102]) _ [putT exA10 1] W105 (by unfold maxLen; decide) hTs3 (by decide)).mono ?_
          intro e W107 hh_
          obtain ⟨k7, n7, s7, a7, l7, c7, rfl, hN7, hb107⟩ := hh_.has2
          have hT7 := has_new hN7
          go_wp2_with fail
          have hE107 : Below wU.heap.size wU W107 := hE105.trans (hb107.mono hE105.size)
          have hTs3 := HasTs.below hTs3 hb107
          have hTs4 := HasTs.below hTs4 hb107
          have hQ7 := HU.out.1.new (hN7.carry (fun _ _ => rfl) (fun c hc => ⟨Nat.le_trans hE105.size hc.1, hc.2⟩))
          refine hK.out _ _ (HS _ hE107) (fun hh108 => ?_)
          clear hK K
          try simp only [Act.put, List.setIfInBounds_toArray, List.set_cons_zero, List.set_cons_succ]
          refine wpAnyH_ready (rs := [8]) (by kernel_rfl) (by simp) ?_
          refine AllReadyH.cons rfl (fun K hK => ?_) AllReadyH.nil
          go_simp
          refine (make_at (ByteArray.mk #[102]) _ [exA10] W107 (by unfold maxLen; decide) hTs4 (by decide)).mono ?_
          intro e W109 hh_
          obtain ⟨k8, n8, s8, a8, l8, c8, rfl, hN8, hb109⟩ := hh_.has2
          have hT8 := has_new hN8
          go_wp2_with fail
          have hE109 : Below wU.heap.size wU W109 := hE107.trans (hb109.mono hE107.size)
          have hT7 := Has.below hT7 hb109
          have hTs4 := HasTs.below hTs4 hb109
          have hQ7 := oth_below hb109 hQ7
          have hQ8 := HU.out.1.new (hN8.carry (fun _ _ => rfl) (fun c hc => ⟨Nat.le_trans hE107.size hc.1, hc.2⟩))
          refine hK.out _ _ (HS _ hE109) (fun hh110 => ?_)
          clear hK K
          try simp only [Act.put, List.setIfInBounds_toArray, List.set_cons_zero, List.set_cons_succ]
          have hU2 := unify_at (HU.out.1.step hE109) (Nat.le_trans HX.out.1.size hE109.size) (HX.out.2.1.below hE109) (HX.out.2.2.1.below hE109) gvτ _ _ exF3 exF4 hQ7 hQ8 gvF3 gvF4 (by decide) (by decide)
          rw [run_ex2] at hU2
          unfold MatchP at hU2
          refine wpAnyH_ready (rs := [9]) (by kernel_rfl) (by simp) ?_
          refine AllReadyH.cons rfl (fun K hK => ?_) AllReadyH.nil
          go_simp
          refine hU2.mono ?_
          clear hU2
          rintro e wV ⟨rfl, LV, hSV, hMV⟩
          go_wp2_with fail
          have HV := Lib.hid (And.intro hSV (HX.out.1.trans ((Mut.of_below (b := w2.heap.size) (V := V) (L := LU) hE109).trans hMV |> fun m => Mut.below HU.out.1 m HX.out.1.size)))
          have hxV := (hMV.keep _ (HX.out.2.2.2.1.below hE109)).1.trans (tbox_below HX.out.2.2.2.2 hE109)
          clear hSV hMV
          refine hK.out _ _ (tbox_cells hxV) (fun hhV => ?_)
          clear hK K
          try simp only [Act.put, List.setIfInBounds_toArray, List.set_cons_zero, List.set_cons_succ]
          refine wpAnyH_take (i := 10) (v := ?_) rfl (by kernel_rfl) (by kernel_rfl) (by kernel_rfl) (fun _ _ _ h => h) (Or.inl ⟨by kernel_rfl, ?_⟩) hhV ?_
          rotate_left
          · intro w0 hSw
            (try dsimp only at hSw)
            go_simp
            try (with_reducible rfl)
          try simp only [Act.put, List.setIfInBounds_toArray, List.set_cons_zero, List.set_cons_succ]
          refine wpAnyH_take (i := 11) (v := ?_) rfl (by kernel_rfl) (by kernel_rfl) (by kernel_rfl) (fun _ _ _ h => h) (Or.inl ⟨by kernel_rfl, ?_⟩) hhV ?_
          rotate_left
          · intro w0 hSw
            (try dsimp only at hSw)
            go_simp
            try (with_reducible rfl)
          try simp only [Act.put, List.setIfInBounds_toArray, List.set_cons_zero, List.set_cons_succ]
          refine wpAnyH_take (i := 12) (v := ?_) rfl (by kernel_rfl) (by kernel_rfl) (by kernel_rfl) (fun _ _ _ h => h) (Or.inl ⟨by kernel_rfl, ?_⟩) hhV ?_
          rotate_left
          · intro w0 hSw
            (try dsimp only at hSw)
            go_simp
            try (with_reducible rfl)
          try simp only [Act.put, List.setIfInBounds_toArray, List.set_cons_zero, List.set_cons_succ]
          refine wpAnyH_take (i := 13) (v := ?_) rfl (by kernel_rfl) (by kernel_rfl) (by kernel_rfl) (fun _ _ _ h => h) (Or.inl ⟨by kernel_rfl, ?_⟩) hhV ?_
          rotate_left
          · intro w0 hSw
            (try dsimp only at hSw)
            go_simp
            try (with_reducible rfl)
          try simp only [Act.put, List.setIfInBounds_toArray, List.set_cons_zero, List.set_cons_succ]
          refine wpAnyH_ready (rs := [14]) (by kernel_rfl) (by simp) ?_
          refine AllReadyH.cons rfl (fun K hK => ?_) AllReadyH.nil
          go_simp
          refine hK.out _ _ (tbox_cells hxV) (fun hhV => ?_)
          clear hK K
          try simp only [Act.put, List.setIfInBounds_toArray, List.set_cons_zero, List.set_cons_succ]
          refine wpAnyH_ready (rs := [15]) (by kernel_rfl) (by simp) ?_
          refine AllReadyH.cons rfl (fun K hK => ?_) AllReadyH.nil
          go_simp
          refine hK.out _ _ (tbox_cells hxV) (fun hhV => ?_)
          clear hK K
          try simp only [Act.put, List.setIfInBounds_toArray, List.set_cons_zero, List.set_cons_succ]
          refine wpAnyH_ready (rs := [16]) (by kernel_rfl) (by simp) ?_
          refine AllReadyH.cons rfl (fun K hK => ?_) AllReadyH.nil
          go_simp
          refine hK.out _ _ (tbox_cells hxV) (fun hhV => ?_)
          clear hK K
          try simp only [Act.put, List.setIfInBounds_toArray, List.set_cons_zero, List.set_cons_succ]
          refine wpAnyH_done (by kernel_rfl) ?_ _
          go_wp2_with fail
          go_meet
          exact ⟨rfl, rfl, rfl, LV, HV.out.1, HV.out.2⟩
      · go_simp
        skip
        obtain ⟨W103, hW103⟩ : ∃ W_, W_ = World.alloc W101 (.cells #[.int .i64 ka, .int .i64 na, .string sa, .slice aa la ca] 24) := ⟨_, rfl⟩
        have hb103 : Below W101.heap.size W101 W103 := by rw [hW103]; exact (Below.refl _ _).alloc (Nat.le_refl _) _
        have hE103 : Below wU.heap.size wU W103 := hE101.trans (hb103.mono hE101.size)
        have hTs4 := one_term (Has.below hTa hE101)
        rw [← hW103] at hTs4
        have hT9 := Has.below hT9 hb103
        rw [← hW103]
        clear hW103
        refine hK.out _ _ (HS _ hE103) (fun hh104 => ?_)
        clear hK K
        try simp only [Act.put, List.setIfInBounds_toArray, List.set_cons_zero, List.set_cons_succ]
        refine wpAnyH_ready (rs := [4]) (by kernel_rfl) (by simp) ?_
        refine AllReadyH.cons rfl (fun K hK => ?_) AllReadyH.nil
        go_simp
        skip
        obtain ⟨W105, hW105⟩ : ∃ W_, W_ = World.alloc W103 (.cells #[.int .i64 k9, .int .i64 n9, .string s9, .slice a9 l9 c9] 24) := ⟨_, rfl⟩
        have hb105 : Below W103.heap.size W103 W105 := by rw [hW105]; exact (Below.refl _ _).alloc (Nat.le_refl _) _
        have hE105 : Below wU.heap.size wU W105 := hE103.trans (hb105.mono hE103.size)
        have hTs3 := one_term hT9
        rw [← hW105] at hTs3
        have hT9 := Has.below hT9 hb105
        have hTs4 := HasTs.below hTs4 hb105
        rw [← hW105]
        clear hW105
        refine hK.out _ _ (HS _ hE105) (fun hh106 => ?_)
        clear hK K
        try simp only [Act.put, List.setIfInBounds_toArray, List.set_cons_zero, List.set_cons_succ]
        refine wpAnyH_ready (rs := [5]) (by kernel_rfl) (by simp) ?_
        refine AllReadyH.cons rfl (fun K hK => ?_) AllReadyH.nil
        go_simp
        refine (make_at (ByteArray.mk #[102]) _ [putT exA10 1] W105 (by unfold maxLen; decide) hTs3 (by decide)).mono ?_
        intro e W107 hh_
        obtain ⟨k7, n7, s7, a7, l7, c7, rfl, hN7, hb107⟩ := hh_.has2
        have hT7 := has_new hN7
        go_wp2_with fail
        have hE107 : Below wU.heap.size wU W107 := hE105.trans (hb107.mono hE105.size)
        have hTs4 := HasTs.below hTs4 hb107
        have hTs3 := HasTs.below hTs3 hb107
        have hQ7 := HU.out.1.new (hN7.carry (fun _ _ => rfl) (fun c hc => ⟨Nat.le_trans hE105.size hc.1, hc.2⟩))
        refine hK.out _ _ (HS _ hE107) (fun hh108 => ?_)
        clear hK K
        try simp only [Act.put, List.setIfInBounds_toArray, List.set_cons_zero, List.set_cons_succ]
        refine wpAnyH_ready (rs := [8]) (by kernel_rfl) (by simp) ?_
        refine AllReadyH.cons rfl (fun K hK => ?_) AllReadyH.nil
        go_simp
        refine (make_at (ByteArray.mk #[102]) _ [exA10] W107 (by unfold maxLen; decide) hTs4 (by decide)).mono ?_
        intro e W109 hh_
        obtain ⟨k8, n8, s8, a8, l8, c8, rfl, hN8, hb109⟩ := hh_.has2
        have hT8 := has_new hN8
        go_wp2_with fail
        have hE109 : Below wU.heap.size wU W109 := hE107.trans (hb109.mono hE107.size)
        have hT7 := Has.below hT7 hb109
        have hTs4 := HasTs.below hTs4 hb109
        have hQ7 := oth_below hb109 hQ7
        have hQ8 := HU.out.1.new (hN8.carry (fun _ _ => rfl) (fun c hc => ⟨Nat.le_trans hE107.size hc.1, hc.2⟩))
        refine hK.out _ _ (HS _ hE109) (fun hh110 => ?_)
        clear hK K
        try simp only [Act.put, List.setIfInBounds_toArray, List.set_cons_zero, List.set_cons_succ]
        have hU2 := unify_at (HU.out.1.step hE109) (Nat.le_trans HX.out.1.size hE109.size) (HX.out.2.1.below hE109) (HX.out.2.2.1.below hE109) gvτ _ _ exF3 exF4 hQ7 hQ8 gvF3 gvF4 (by decide) (by decide)
        rw [run_ex2] at hU2
        unfold MatchP at hU2
        refine wpAnyH_ready (rs := [9]) (by kernel_rfl) (by simp) ?_
        refine AllReadyH.cons rfl (fun K hK => ?_) AllReadyH.nil
        go_simp
        refine hU2.mono ?_
        clear hU2
        rintro e wV ⟨rfl, LV, hSV, hMV⟩
        go_wp2_with fail
        have HV := Lib.hid (And.intro hSV (HX.out.1.trans ((Mut.of_below (b := w2.heap.size) (V := V) (L := LU) hE109).trans hMV |> fun m => Mut.below HU.out.1 m HX.out.1.size)))
        have hxV := (hMV.keep _ (HX.out.2.2.2.1.below hE109)).1.trans (tbox_below HX.out.2.2.2.2 hE109)
        clear hSV hMV
        refine hK.out _ _ (tbox_cells hxV) (fun hhV => ?_)
        clear hK K
        try simp only [Act.put, List.setIfInBounds_toArray, List.set_cons_zero, List.set_cons_succ]
        refine wpAnyH_take (i := 10) (v := ?_) rfl (by kernel_rfl) (by kernel_rfl) (by kernel_rfl) (fun _ _ _ h => h) (Or.inl ⟨by kernel_rfl, ?_⟩) hhV ?_
        rotate_left
        · intro w0 hSw
          (try dsimp only at hSw)
          go_simp
          try (with_reducible rfl)
        try simp only [Act.put, List.setIfInBounds_toArray, List.set_cons_zero, List.set_cons_succ]
        refine wpAnyH_take (i := 11) (v := ?_) rfl (by kernel_rfl) (by kernel_rfl) (by kernel_rfl) (fun _ _ _ h => h) (Or.inl ⟨by kernel_rfl, ?_⟩) hhV ?_
        rotate_left
        · intro w0 hSw
          (try dsimp only at hSw)
          go_simp
          try (with_reducible rfl)
        try simp only [Act.put, List.setIfInBounds_toArray, List.set_cons_zero, List.set_cons_succ]
        refine wpAnyH_take (i := 12) (v := ?_) rfl (by kernel_rfl) (by kernel_rfl) (by kernel_rfl) (fun _ _ _ h => h) (Or.inl ⟨by kernel_rfl, ?_⟩) hhV ?_
        rotate_left
        · intro w0 hSw
          (try dsimp only at hSw)
          go_simp
          try (with_reducible rfl)
        try simp only [Act.put, List.setIfInBounds_toArray, List.set_cons_zero, List.set_cons_succ]
        refine wpAnyH_take (i := 13) (v := ?_) rfl (by kernel_rfl) (by kernel_rfl) (by kernel_rfl) (fun _ _ _ h => h) (Or.inl ⟨by kernel_rfl, ?_⟩) hhV ?_
        rotate_left
        · intro w0 hSw
          (try dsimp only at hSw)
          go_simp
          try (with_reducible rfl)
        try simp only [Act.put, List.setIfInBounds_toArray, List.set_cons_zero, List.set_cons_succ]
        refine wpAnyH_ready (rs := [14]) (by kernel_rfl) (by simp) ?_
        refine AllReadyH.cons rfl (fun K hK => ?_) AllReadyH.nil
        go_simp
        refine hK.out _ _ (tbox_cells hxV) (fun hhV => ?_)
        clear hK K
        try simp only [Act.put, List.setIfInBounds_toArray, List.set_cons_zero, List.set_cons_succ]
        refine wpAnyH_ready (rs := [15]) (by kernel_rfl) (by simp) ?_
        refine AllReadyH.cons rfl (fun K hK => ?_) AllReadyH.nil
        go_simp
        refine hK.out _ _ (tbox_cells hxV) (fun hhV => ?_)
        clear hK K
        try simp only [Act.put, List.setIfInBounds_toArray, List.set_cons_zero, List.set_cons_succ]
        refine wpAnyH_ready (rs := [16]) (by kernel_rfl) (by simp) ?_
        refine AllReadyH.cons rfl (fun K hK => ?_) AllReadyH.nil
        go_simp
        refine hK.out _ _ (tbox_cells hxV) (fun hhV => ?_)
        clear hK K
        try simp only [Act.put, List.setIfInBounds_toArray, List.set_cons_zero, List.set_cons_succ]
        refine wpAnyH_done (by kernel_rfl) ?_ _
        go_wp2_with fail
        go_meet
        exact ⟨rfl, rfl, rfl, LV, HV.out.1, HV.out.2⟩
    · go_simp
      skip
      obtain ⟨W101, hW101⟩ : ∃ W_, W_ = World.alloc wD (.cells #[.int .i64 ka, .int .i64 na, .string sa, .slice aa la ca] 24) := ⟨_, rfl⟩
      have hb101 : Below wD.heap.size wD W101 := by rw [hW101]; exact (Below.refl _ _).alloc (Nat.le_refl _) _
      have hE101 : Below wU.heap.size wU W101 := hE0.trans (hb101.mono hE0.size)
      have hTs4 := one_term (Has.below hTa hE0)
      rw [← hW101] at hTs4
      rw [← hW101]
      clear hW101
      refine hK.out _ _ (HS _ hE101) (fun hh102 => ?_)
      clear hK K
      try simp only [Act.put, List.setIfInBounds_toArray, List.set_cons_zero, List.set_cons_succ]
      refine wpAnyH_ready (rs := [3]) (by kernel_rfl) (by simp) ?_
      refine AllReadyH.cons rfl (fun K hK => ?_) AllReadyH.nil
      go_simp
      refine (put_at (.agg #[.int .i64 ka, .int .i64 na, .string sa, .slice aa la ca]) exA10 1 W101 ⟨by decide, by decide⟩ (Has.below hTa hE101) (by decide)).mono ?_
      intro e W103 hh_
      obtain ⟨k9, n9, s9, a9, l9, c9, rfl, hN9, hb103⟩ := hh_.has2
      have hT9 := has_new hN9
      go_wp2_with fail
      have hE103 : Below wU.heap.size wU W103 := hE101.trans (hb103.mono hE101.size)
      have hTs4 := HasTs.below hTs4 hb103
      refine hK.out _ _ (HS _ hE103) (fun hh104 => ?_)
      clear hK K
      try simp only [Act.put, List.setIfInBounds_toArray, List.set_cons_zero, List.set_cons_succ]
      refine wpAnyH_ready (rs := [4]) (by kernel_rfl) (by simp) ?_
      refine AllReadyH.cons rfl (fun K hK => ?_) AllReadyH.nil
      go_simp
      skip
      obtain ⟨W105, hW105⟩ : ∃ W_, W_ = World.alloc W103 (.cells #[.int .i64 k9, .int .i64 n9, .string s9, .slice a9 l9 c9] 24) := ⟨_, rfl⟩
      have hb105 : Below W103.heap.size W103 W105 := by rw [hW105]; exact (Below.refl _ _).alloc (Nat.le_refl _) _
      have hE105 : Below wU.heap.size wU W105 := hE103.trans (hb105.mono hE103.size)
      have hTs3 := one_term hT9
      rw [← hW105] at hTs3
      have hT9 := Has.below hT9 hb105
      have hTs4 := HasTs.below hTs4 hb105
      rw [← hW105]
      clear hW105
      refine hK.out _ _ (HS _ hE105) (fun hh106 => ?_)
      clear hK K
      try simp only [Act.put, List.setIfInBounds_toArray, List.set_cons_zero, List.set_cons_succ]
      refine wpAnyH_ready (rs := [5]) (by kernel_rfl) (by simp) ?_
      refine AllReadyH.cons rfl (fun K hK => ?_) AllReadyH.nil
      go_simp
      refine (make_at (ByteArray.mk #[102]) _ [putT exA10 1] W105 (by unfold maxLen; decide) hTs3 (by decide)).mono ?_
      intro e W107 hh_
      obtain ⟨k7, n7, s7, a7, l7, c7, rfl, hN7, hb107⟩ := hh_.has2
      have hT7 := has_new hN7
      go_wp2_with fail
      have hE107 : Below wU.heap.size wU W107 := hE105.trans (hb107.mono hE105.size)
      have hTs4 := HasTs.below hTs4 hb107
      have hTs3 := HasTs.below hTs3 hb107
      have hQ7 := HU.out.1.new (hN7.carry (fun _ _ => rfl) (fun c hc => ⟨Nat.le_trans hE105.size hc.1, hc.2⟩))
      refine hK.out _ _ (HS _ hE107) (fun hh108 => ?_)
      clear hK K
      try simp only [Act.put, List.setIfInBounds_toArray, List.set_cons_zero, List.set_cons_succ]
      refine wpAnyH_ready (rs := [8]) (by kernel_rfl) (by simp) ?_
      refine AllReadyH.cons rfl (fun K hK => ?_) AllReadyH.nil
      go_simp
      refine (make_at (ByteArray.mk #[102]) _ [exA10] W107 (by unfold maxLen; decide) hTs4 (by decide)).mono ?_
      intro e W109 hh_
      obtain ⟨k8, n8, s8, a8, l8, c8, rfl, hN8, hb109⟩ := hh_.has2
      have hT8 := has_new hN8
      go_wp2_with fail
      have hE109 : Below wU.heap.size wU W109 := hE107.trans (hb109.mono hE107.size)
      have hT7 := Has.below hT7 hb109
      have hTs4 := HasTs.below hTs4 hb109
      have hQ7 := oth_below hb109 hQ7
      have hQ8 := HU.out.1.new (hN8.carry (fun _ _ => rfl) (fun c hc => ⟨Nat.le_trans hE107.size hc.1, hc.2⟩))
      refine hK.out _ _ (HS _ hE109) (fun hh110 => ?_)
      clear hK K
      try simp only [Act.put, List.setIfInBounds_toArray, List.set_cons_zero, List.set_cons_succ]
      have hU2 := unify_at (HU.out.1.step hE109) (Nat.le_trans HX.out.1.size hE109.size) (HX.out.2.1.below hE109) (HX.out.2.2.1.below hE109) gvτ _ _ exF3 exF4 hQ7 hQ8 gvF3 gvF4 (by decide) (by decide)
      rw [run_ex2] at hU2
      unfold MatchP at hU2
      refine wpAnyH_ready (rs := [9]) (by kernel_rfl) (by simp) ?_
      refine AllReadyH.cons rfl (fun K hK => ?_) AllReadyH.nil
      go_simp
      refine hU2.mono ?_
      clear hU2
      rintro e wV ⟨rfl, LV, hSV, hMV⟩
      go_wp2_with fail
      have HV := Lib.hid (And.intro hSV (HX.out.1.trans ((Mut.of_below (b := w2.heap.size) (V := V) (L := LU) hE109).trans hMV |> fun m => Mut.below HU.out.1 m HX.out.1.size)))
      have hxV := (hMV.keep _ (HX.out.2.2.2.1.below hE109)).1.trans (tbox_below HX.out.2.2.2.2 hE109)
      clear hSV hMV
      refine hK.out _ _ (tbox_cells hxV) (fun hhV => ?_)
      clear hK K
      try simp only [Act.put, List.setIfInBounds_toArray, List.set_cons_zero, List.set_cons_succ]
      refine wpAnyH_take (i := 10) (v := ?_) rfl (by kernel_rfl) (by kernel_rfl) (by kernel_rfl) (fun _ _ _ h => h) (Or.inl ⟨by kernel_rfl, ?_⟩) hhV ?_
      rotate_left
      · intro w0 hSw
        (try dsimp only at hSw)
        go_simp
        try (with_reducible rfl)
      try simp only [Act.put, List.setIfInBounds_toArray, List.set_cons_zero, List.set_cons_succ]
      refine wpAnyH_take (i := 11) (v := ?_) rfl (by kernel_rfl) (by kernel_rfl) (by kernel_rfl) (fun _ _ _ h => h) (Or.inl ⟨by kernel_rfl, ?_⟩) hhV ?_
      rotate_left
      · intro w0 hSw
        (try dsimp only at hSw)
        go_simp
        try (with_reducible rfl)
      try simp only [Act.put, List.setIfInBounds_toArray, List.set_cons_zero, List.set_cons_succ]
      refine wpAnyH_take (i := 12) (v := ?_) rfl (by kernel_rfl) (by kernel_rfl) (by kernel_rfl) (fun _ _ _ h => h) (Or.inl ⟨by kernel_rfl, ?_⟩) hhV ?_
      rotate_left
      · intro w0 hSw
        (try dsimp only at hSw)
        go_simp
        try (with_reducible rfl)
      try simp only [Act.put, List.setIfInBounds_toArray, List.set_cons_zero, List.set_cons_succ]
      refine wpAnyH_take (i := 13) (v := ?_) rfl (by kernel_rfl) (by kernel_rfl) (by kernel_rfl) (fun _ _ _ h => h) (Or.inl ⟨by kernel_rfl, ?_⟩) hhV ?_
      rotate_left
      · intro w0 hSw
        (try dsimp only at hSw)
        go_simp
        try (with_reducible rfl)
      try simp only [Act.put, List.setIfInBounds_toArray, List.set_cons_zero, List.set_cons_succ]
      refine wpAnyH_ready (rs := [14]) (by kernel_rfl) (by simp) ?_
      refine AllReadyH.cons rfl (fun K hK => ?_) AllReadyH.nil
      go_simp
      refine hK.out _ _ (tbox_cells hxV) (fun hhV => ?_)
      clear hK K
      try simp only [Act.put, List.setIfInBounds_toArray, List.set_cons_zero, List.set_cons_succ]
      refine wpAnyH_ready (rs := [15]) (by kernel_rfl) (by simp) ?_
      refine AllReadyH.cons rfl (fun K hK => ?_) AllReadyH.nil
      go_simp
      refine hK.out _ _ (tbox_cells hxV) (fun hhV => ?_)
      clear hK K
      try simp only [Act.put, List.setIfInBounds_toArray, List.set_cons_zero, List.set_cons_succ]
      refine wpAnyH_ready (rs := [16]) (by kernel_rfl) (by simp) ?_
      refine AllReadyH.cons rfl (fun K hK => ?_) AllReadyH.nil
      go_simp
      refine hK.out _ _ (tbox_cells hxV) (fun hhV => ?_)
      clear hK K
      try simp only [Act.put, List.setIfInBounds_toArray, List.set_cons_zero, List.set_cons_succ]
      refine wpAnyH_done (by kernel_rfl) ?_ _
      go_wp2_with fail
      go_meet
      exact ⟨rfl, rfl, rfl, LV, HV.out.1, HV.out.2⟩
  case rest =>
    obtain ⟨rfl, rfl, rfl, HC⟩ := hcut
    obtain ⟨L9, hS9, hB9⟩ := HC.out
    have H9 := Lib.hid (And.intro hS9 hB9)
    have hlet := let_at 0 wc ⟨by decide, by decide⟩
    have hwk : ∀ (w' : World) v, Below wc.heap.size wc w' → Has w' v (exX 0) → Calls Try.prog 41 #[.pointer (some ⟨w2.heap.size, 0, none⟩), v] w' fun e w'' => ∃ n s a l c, e = .returned (.agg #[.int .i64 4, .int .i64 n, .string s, .slice a l c]) ∧ Below w'.heap.size w' w'' := fun w' v hb hv =>
      (walk_at (H9.out.1.step hb) v (exX 0) hv (by rw [τ11_fin]; decide)).mono fun e w'' hh => by
        obtain ⟨k, n, s, a, l, c, rfl, hT, hB⟩ := hh.has2
        rw [τ11_fin] at hT
        cases hT
        exact ⟨_, _, _, _, _, rfl, hB⟩
    have hf0 := field0_11
    clear hS9 hB9 HC hTa HX H6 HU HW6
    go_wp2_with (first
      | (go_at_call 41; (have hq := hT91; clear hq); (with_reducible refine (hwk _ _ hb91 hT91).mono ?_); rintro e w92 ⟨n92, s92, a92, l92, c92, rfl, hb92⟩)
      | (go_at_call 21; (with_reducible refine hlet.mono ?_); intro e w91 hh_; obtain ⟨k91, n91, s91, a91, l91, c91, rfl, hN91, hb91⟩ := hh_.has2; have hT91 := has_new hN91))
    go_ret
    exact ⟨rfl, H9.out.2.trans ((hb91.trans (hb92.mono hb91.size)).mono H9.out.2.size)⟩
end Go.Proofs.Ytfjnajngelemkaa
