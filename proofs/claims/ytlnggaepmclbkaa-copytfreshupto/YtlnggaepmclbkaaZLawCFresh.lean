/-
  The law CopytFresh, walked.
-/
import Derived.Test.YtlnggaepmclbkaaZCopD
import Derived.BigQuiet
import Derived.Deep.DeepCutAuto
namespace Go.Proofs.Ytlnggaepmclbkaa
open Go.RowKit Go.Shelf
open Classical
set_option linter.unusedVariables false
set_option linter.unusedSimpArgs false

theorem fresh_len13 (σ : St) (n : Nat) : (σ.fresh n).vs.length = σ.vs.length + n := by
  show (σ.vs ++ List.replicate n none).length = _
  rw [List.length_append, List.length_replicate]
set_option maxRecDepth 100000 in
set_option maxHeartbeats 16000000 in
theorem copytFresh_at (v1 : Value) (A : Tm) (by_ : Int) (w : World) (hA : Has w v1 A) (sA : A.size ≤ 1048576) (h0 : 0 ≤ by_) (h1 : by_ ≤ 255) : Calls Try.prog 6 #[v1, .int .u8 by_] w (Gets w (.bool true)) := by
  obtain ⟨k1, n1, s1, a1, l1, c1, ks1, rfl, e1, -⟩ := hA.form
  clear e1
  obtain ⟨w2, hw2⟩ : ∃ w2, w2 = w.alloc (.cells #[.int .i64 k1, .int .i64 n1, .string s1, .slice a1 l1 c1] 24) := ⟨_, rfl⟩
  have hb2 : Below w.heap.size w w2 := by rw [hw2]; exact (Below.refl _ w).alloc (by simp) _
  have x1 : w2.heap[w.heap.size]? = some (.cells #[.int .i64 k1, .int .i64 n1, .string s1, .slice a1 l1 c1] 24 (0, 0)) := by rw [hw2]; exact World.alloc_heap_new _ _
  have t1 : Has w2 (.agg #[.int .i64 k1, .int .i64 n1, .string s1, .slice a1 l1 c1]) A := Has.below hA hb2
  have H2 := Lib.hid (And.intro (hb2) (And.intro (x1) (t1)))
  have HW := Lib.hid hw2
  clear hb2 hw2 x1 t1 hA
  go_enter Try.func6, Try.ntmps6
  go_upto_region 1 with fail
  rw [← HW.out]
  go_wp2_with fail
  refine (shown13_at w2).mono ?_
  rintro e w2 ⟨rfl, hb2⟩
  have HH3 := Lib.hid (And.intro (H2.out.1.trans (hb2.mono H2.out.1.size)) (And.intro (tbox_below H2.out.2.1 hb2) (Has.below H2.out.2.2 hb2)))
  clear H2 hb2
  go_wp2_with fail
  refine (new_at10 w2 w2.heap.size (Nat.le_refl _)).mono ?_
  rintro e w4 ⟨rfl, hB4, hlt4, hS4⟩
  have HH5 := Lib.hid (And.intro (hB4) (And.intro (hS4) (Kp.mk (tbox_below HH3.out.2.1 hB4) (Mut.lo hS4 hB4.size (Array.getElem?_eq_some_iff.1 HH3.out.2.1).1) (IsTm.later hB4 (Nat.le_refl _) HH3.out.2.2 |>.carry (fun _ _ => rfl) fun c hc => Mut.lo hS4 hB4.size hc))))
  clear hB4 hS4 hlt4
  obtain ⟨y10, y11, y12, y13⟩ := tbox_cells HH5.out.2.2.box
  by_cases hfew : A.size ≤ 300
  case neg =>
    go_wp2_with fail
    refine (few13_at _ A w4 HH5.out.2.2.has (by omega)).mono ?_
    rw [decide_eq_false hfew]
    rintro e w6 ⟨rfl, hb6⟩
    have HH7 := Lib.hid (And.intro (HH5.out.1.trans (hb6.mono HH5.out.1.size)) (And.intro (HH5.out.2.1.step hb6) (HH5.out.2.2.mut (Mut.of_below hb6))))
    clear HH5 hb6
    clear y10 y11 y12 y13
    clear hfew sA
    go_wp2_with fail
    go_ret
    exact ⟨rfl, HH3.out.1.trans (HH7.out.1.mono HH3.out.1.size)⟩
  go_wp2_with fail
  refine (few13_at _ A w4 HH5.out.2.2.has (by omega)).mono ?_
  rw [decide_eq_true hfew]
  rintro e w6 ⟨rfl, hb6⟩
  have HH7 := Lib.hid (And.intro (HH5.out.1.trans (hb6.mono HH5.out.1.size)) (And.intro (HH5.out.2.1.step hb6) (HH5.out.2.2.mut (Mut.of_below hb6))))
  clear HH5 hb6
  clear y10 y11 y12 y13
  obtain ⟨y10, y11, y12, y13⟩ := tbox_cells HH7.out.2.2.box
  obtain ⟨m, rfl⟩ : ∃ m : Nat, by_ = (m : Int) := ⟨by_.toNat, by omega⟩
  have HZ := Lib.hid (And.intro hfew (show m ≤ 255 by omega))
  clear hfew sA h0 h1
  by_cases hck : A.check 16 = 0
  case neg =>
    obtain ⟨ck, hckk⟩ : ∃ ck, A.check 16 = ck := ⟨_, rfl⟩
    rw [hckk] at hck
    have hck1 : (ck != 0) = true := by simpa using hck
    have hck2 : ¬ (ck = 0) := hck
    go_wp2_with fail
    refine (check_at _ A 16 w6 HH7.out.2.2.has (by have := HZ.out.1; omega)).mono ?_
    rw [hckk]
    rintro e w8 ⟨rfl, hb8⟩
    have HH9 := Lib.hid (And.intro (HH7.out.1.trans (hb8.mono HH7.out.1.size)) (And.intro (HH7.out.2.1.step hb8) (HH7.out.2.2.mut (Mut.of_below hb8))))
    clear HH7 hb8
    clear y10 y11 y12 y13
    clear hck hckk
    go_wp2_with fail
    go_ret
    exact ⟨rfl, HH3.out.1.trans (HH9.out.1.mono HH3.out.1.size)⟩
  go_wp2_with fail
  refine (check_at _ A 16 w6 HH7.out.2.2.has (by have := HZ.out.1; omega)).mono ?_
  rw [hck]
  rintro e w8 ⟨rfl, hb8⟩
  have HH9 := Lib.hid (And.intro (HH7.out.1.trans (hb8.mono HH7.out.1.size)) (And.intro (HH7.out.2.1.step hb8) (HH7.out.2.2.mut (Mut.of_below hb8))))
  clear HH7 hb8
  clear y10 y11 y12 y13
  clear hck
  have hcv : IntKind.i64.wrap (m : Int) = (m : Int) := by rw [IntKind.wrap_i64]; have := HZ.out.2; omega
  go_upto_region 5 with fail
  obtain ⟨y10, y11, y12, y13⟩ := tbox_cells HH9.out.2.2.box
  go_wp2_with fail
  refine (cfresh_at HH9.out.2.1 HH9.out.1.size _ A HH9.out.2.2.tm (by have := HZ.out.1; omega) m (by show 0 + m ≤ 4096; have := HZ.out.2; omega)).mono ?_
  rintro e wm10 ⟨kd, nd, sd, ad, ld, cd, rfl, V10, hS10, hM10, hT10⟩
  replace hS10 := hS10.weak (fun c hc => (hM10.keep c hc).2) (fun c hc => hc)
  have hT10a := hT10.carry (q := Oth wm10 w2.heap.size V10 (.slice none 0 0)) (fun _ _ => rfl) (fun c hc => hc.2)
  clear y10 y11 y12 y13
  have HH11 := Lib.hid (And.intro (HH9.out.1.trans (Mut.below HH9.out.2.1 hM10 HH9.out.1.size)) (And.intro (hS10) (And.intro (HH9.out.2.2.mut hM10) (hT10a))))
  clear HH9 hS10 hM10 hT10 hT10a
  obtain ⟨wb10, hwb10⟩ : ∃ wb, wb = wm10.alloc (.cells #[.int .i64 kd, .int .i64 nd, .string sd, .slice ad ld cd] 24) := ⟨_, rfl⟩
  have hC10 : Below wm10.heap.size wm10 wb10 := by rw [hwb10]; exact (Below.refl _ _).alloc (Nat.le_refl _) _
  have hX10 : wb10.heap[wm10.heap.size]? = some (.cells #[.int .i64 kd, .int .i64 nd, .string sd, .slice ad ld cd] 24 (0, 0)) := by rw [hwb10]; exact World.alloc_heap_new _ _
  have hK10 : Kp wb10 w2.heap.size V10 (.slice none 0 0) wm10.heap.size kd nd sd ad ld cd (A.shift ((St.mk [] []).vs.length : Int)) := ⟨hX10, HH11.out.2.1.fresh ⟨Nat.le_refl _, (Array.getElem?_eq_some_iff.1 hX10).1⟩, oth_below hC10 HH11.out.2.2.2⟩
  have HWB10 := Lib.hid hwb10
  have HH12 := Lib.hid (And.intro (HH11.out.1.trans (hC10.mono HH11.out.1.size)) (And.intro (HH11.out.2.1.step hC10) (And.intro (HH11.out.2.2.1.mut (Mut.of_below hC10)) (hK10))))
  clear HH11 hC10 hwb10 hX10 hK10
  go_upto_region 6 with fail
  rw [← HWB10.out]
  generalize hbk10 : wm10.heap.size = bk10 at *
  clear HWB10 hbk10
  obtain ⟨y10, y11, y12, y13⟩ := tbox_cells HH12.out.2.2.1.box
  go_wp2_with fail
  refine (cfresh_at HH12.out.2.1 HH12.out.1.size _ A HH12.out.2.2.1.tm (by have := HZ.out.1; omega) m (by rw [fresh_len13]; show 0 + m + m ≤ 4096; have := HZ.out.2; omega)).mono ?_
  rintro e wm13 ⟨ke, ne, se, ae, le, ce, rfl, V13, hS13, hM13, hT13⟩
  replace hS13 := hS13.weak (fun c hc => (hM13.keep c hc).2) (fun c hc => hc)
  have hT13a := hT13.carry (q := Oth wm13 w2.heap.size V13 (.slice none 0 0)) (fun _ _ => rfl) (fun c hc => hc.2)
  clear y10 y11 y12 y13
  have HH14 := Lib.hid (And.intro (HH12.out.1.trans (Mut.below HH12.out.2.1 hM13 HH12.out.1.size)) (And.intro (hS13) (And.intro (HH12.out.2.2.1.mut hM13) (And.intro (HH12.out.2.2.2.mut hM13) (hT13a)))))
  clear HH12 hS13 hM13 hT13 hT13a
  obtain ⟨wb13, hwb13⟩ : ∃ wb, wb = wm13.alloc (.cells #[.int .i64 ke, .int .i64 ne, .string se, .slice ae le ce] 24) := ⟨_, rfl⟩
  have hC13 : Below wm13.heap.size wm13 wb13 := by rw [hwb13]; exact (Below.refl _ _).alloc (Nat.le_refl _) _
  have hX13 : wb13.heap[wm13.heap.size]? = some (.cells #[.int .i64 ke, .int .i64 ne, .string se, .slice ae le ce] 24 (0, 0)) := by rw [hwb13]; exact World.alloc_heap_new _ _
  have hK13 : Kp wb13 w2.heap.size V13 (.slice none 0 0) wm13.heap.size ke ne se ae le ce (A.shift (((St.mk [] []).fresh m).vs.length : Int)) := ⟨hX13, HH14.out.2.1.fresh ⟨Nat.le_refl _, (Array.getElem?_eq_some_iff.1 hX13).1⟩, oth_below hC13 HH14.out.2.2.2.2⟩
  have HWB13 := Lib.hid hwb13
  have HH15 := Lib.hid (And.intro (HH14.out.1.trans (hC13.mono HH14.out.1.size)) (And.intro (HH14.out.2.1.step hC13) (And.intro (HH14.out.2.2.1.mut (Mut.of_below hC13)) (And.intro (HH14.out.2.2.2.1.mut (Mut.of_below hC13)) (hK13)))))
  clear HH14 hC13 hwb13 hX13 hK13
  go_upto_region 7 with fail
  rw [← HWB13.out]
  generalize hbk13 : wm13.heap.size = bk13 at *
  clear HWB13 hbk13
  go_wp2_with fail
  refine (fresh_at10 HH15.out.2.1 HH15.out.1.size 0 (by rw [fresh_len13, fresh_len13]; show 0 + m + m + 0 ≤ 4096; have := HZ.out.2; omega)).mono ?_
  rintro e wf ⟨rfl, Vf, hSf, hMf⟩
  have HH17 := Lib.hid (And.intro (HH15.out.1.trans (Mut.below HH15.out.2.1 hMf HH15.out.1.size)) (And.intro (hSf) (And.intro (HH15.out.2.2.1.mut hMf) (And.intro (HH15.out.2.2.2.1.mut hMf) (HH15.out.2.2.2.2.mut hMf)))))
  clear HH15 hSf hMf
  have hok := vars_ok HH17.out.2.2.1.has
  have e1 : A.shift ((St.mk [] []).vs.length : Int) = A := shift_zero hok
  have e2 : ((St.mk [] []).fresh m).vs.length = m := by rw [fresh_len13]; exact Nat.zero_add m
  have e3 : (((St.mk [] []).fresh m).fresh m).vs.length = 2 * m := by rw [fresh_len13, e2]; omega
  have HG := Lib.hid (And.intro e1 (And.intro e2 e3))
  have e4 : (((((St.mk [] []).fresh m).fresh m).vs.length : Nat) : Int) = 2 * (m : Int) := by rw [e3]; omega
  rw [e4]
  clear hok e1 e2 e3 e4
  go_upto_region 8 with fail
  have HS : ∀ w' : World, Below wf.heap.size wf w' → ((w'.cell? ⟨w.heap.size, 0, none⟩ = some (.int .i64 k1)) ∧ (w'.cell? ⟨w.heap.size, 1, none⟩ = some (.int .i64 n1)) ∧ (w'.cell? ⟨w.heap.size, 2, none⟩ = some (.string s1)) ∧ (w'.cell? ⟨w.heap.size, 3, none⟩ = some (.slice a1 l1 c1)) ∧ (w'.cell? ⟨bk10, 0, none⟩ = some (.int .i64 kd)) ∧ (w'.cell? ⟨bk10, 1, none⟩ = some (.int .i64 nd)) ∧ (w'.cell? ⟨bk10, 2, none⟩ = some (.string sd)) ∧ (w'.cell? ⟨bk10, 3, none⟩ = some (.slice ad ld cd)) ∧ (w'.cell? ⟨bk13, 0, none⟩ = some (.int .i64 ke)) ∧ (w'.cell? ⟨bk13, 1, none⟩ = some (.int .i64 ne)) ∧ (w'.cell? ⟨bk13, 2, none⟩ = some (.string se)) ∧ (w'.cell? ⟨bk13, 3, none⟩ = some (.slice ae le ce))) := fun w' hb => by
    obtain ⟨p0, p1, p2, p3⟩ := tbox_cells (tbox_below HH17.out.2.2.1.box hb)
    obtain ⟨q0, q1, q2, q3⟩ := tbox_cells (tbox_below HH17.out.2.2.2.1.box hb)
    obtain ⟨r0, r1, r2, r3⟩ := tbox_cells (tbox_below HH17.out.2.2.2.2.box hb)
    exact ⟨p0, p1, p2, p3, q0, q1, q2, q3, r0, r1, r2, r3⟩
  refine wp_region_last (S := (fun w' : World => (w'.cell? ⟨w.heap.size, 0, none⟩ = some (.int .i64 k1)) ∧ (w'.cell? ⟨w.heap.size, 1, none⟩ = some (.int .i64 n1)) ∧ (w'.cell? ⟨w.heap.size, 2, none⟩ = some (.string s1)) ∧ (w'.cell? ⟨w.heap.size, 3, none⟩ = some (.slice a1 l1 c1)) ∧ (w'.cell? ⟨bk10, 0, none⟩ = some (.int .i64 kd)) ∧ (w'.cell? ⟨bk10, 1, none⟩ = some (.int .i64 nd)) ∧ (w'.cell? ⟨bk10, 2, none⟩ = some (.string sd)) ∧ (w'.cell? ⟨bk10, 3, none⟩ = some (.slice ad ld cd)) ∧ (w'.cell? ⟨bk13, 0, none⟩ = some (.int .i64 ke)) ∧ (w'.cell? ⟨bk13, 1, none⟩ = some (.int .i64 ne)) ∧ (w'.cell? ⟨bk13, 2, none⟩ = some (.string se)) ∧ (w'.cell? ⟨bk13, 3, none⟩ = some (.slice ae le ce)))) 33 rfl (by kernel_rfl) (HS _ (Below.refl _ _).drew) fun hHeld => ?_
  simp only [List.take_succ_cons, List.take_zero]
  have hE0 : Below wf.heap.size wf wf.drew := (Below.refl _ _).drew
  refine wpAnyH_take (i := 0) (v := ?_) rfl (by kernel_rfl) (by kernel_rfl) (by kernel_rfl) (fun _ _ _ h => h) (Or.inl ⟨by kernel_rfl, ?_⟩) hHeld ?_
  rotate_left
  · intro w0 hSw
    (try dsimp only at hSw)
    go_simp
    try (with_reducible rfl)
  try simp only [Act.put, List.setIfInBounds_toArray, List.set_cons_zero, List.set_cons_succ]
  refine wpAnyH_take (i := 1) (v := ?_) rfl (by kernel_rfl) (by kernel_rfl) (by kernel_rfl) (fun _ _ _ h => h) (Or.inl ⟨by kernel_rfl, ?_⟩) hHeld ?_
  rotate_left
  · intro w0 hSw
    (try dsimp only at hSw)
    go_simp
    try (with_reducible rfl)
  try simp only [Act.put, List.setIfInBounds_toArray, List.set_cons_zero, List.set_cons_succ]
  refine wpAnyH_take (i := 2) (v := ?_) rfl (by kernel_rfl) (by kernel_rfl) (by kernel_rfl) (fun _ _ _ h => h) (Or.inl ⟨by kernel_rfl, ?_⟩) hHeld ?_
  rotate_left
  · intro w0 hSw
    (try dsimp only at hSw)
    go_simp
    try (with_reducible rfl)
  try simp only [Act.put, List.setIfInBounds_toArray, List.set_cons_zero, List.set_cons_succ]
  refine wpAnyH_take (i := 3) (v := ?_) rfl (by kernel_rfl) (by kernel_rfl) (by kernel_rfl) (fun _ _ _ h => h) (Or.inl ⟨by kernel_rfl, ?_⟩) hHeld ?_
  rotate_left
  · intro w0 hSw
    (try dsimp only at hSw)
    go_simp
    try (with_reducible rfl)
  try simp only [Act.put, List.setIfInBounds_toArray, List.set_cons_zero, List.set_cons_succ]
  refine wpAnyH_take (i := 4) (v := ?_) rfl (by kernel_rfl) (by kernel_rfl) (by kernel_rfl) (fun _ _ _ h => h) (Or.inl ⟨by kernel_rfl, ?_⟩) hHeld ?_
  rotate_left
  · intro w0 hSw
    (try dsimp only at hSw)
    go_simp
    try (with_reducible rfl)
  try simp only [Act.put, List.setIfInBounds_toArray, List.set_cons_zero, List.set_cons_succ]
  refine wpAnyH_take (i := 5) (v := ?_) rfl (by kernel_rfl) (by kernel_rfl) (by kernel_rfl) (fun _ _ _ h => h) (Or.inl ⟨by kernel_rfl, ?_⟩) hHeld ?_
  rotate_left
  · intro w0 hSw
    (try dsimp only at hSw)
    go_simp
    try (with_reducible rfl)
  try simp only [Act.put, List.setIfInBounds_toArray, List.set_cons_zero, List.set_cons_succ]
  refine wpAnyH_take (i := 6) (v := ?_) rfl (by kernel_rfl) (by kernel_rfl) (by kernel_rfl) (fun _ _ _ h => h) (Or.inl ⟨by kernel_rfl, ?_⟩) hHeld ?_
  rotate_left
  · intro w0 hSw
    (try dsimp only at hSw)
    go_simp
    try (with_reducible rfl)
  try simp only [Act.put, List.setIfInBounds_toArray, List.set_cons_zero, List.set_cons_succ]
  refine wpAnyH_take (i := 7) (v := ?_) rfl (by kernel_rfl) (by kernel_rfl) (by kernel_rfl) (fun _ _ _ h => h) (Or.inl ⟨by kernel_rfl, ?_⟩) hHeld ?_
  rotate_left
  · intro w0 hSw
    (try dsimp only at hSw)
    go_simp
    try (with_reducible rfl)
  try simp only [Act.put, List.setIfInBounds_toArray, List.set_cons_zero, List.set_cons_succ]
  refine wpAnyH_take (i := 8) (v := ?_) rfl (by kernel_rfl) (by kernel_rfl) (by kernel_rfl) (fun _ _ _ h => h) (Or.inl ⟨by kernel_rfl, ?_⟩) hHeld ?_
  rotate_left
  · intro w0 hSw
    (try dsimp only at hSw)
    go_simp
    try (with_reducible rfl)
  try simp only [Act.put, List.setIfInBounds_toArray, List.set_cons_zero, List.set_cons_succ]
  refine wpAnyH_take (i := 9) (v := ?_) rfl (by kernel_rfl) (by kernel_rfl) (by kernel_rfl) (fun _ _ _ h => h) (Or.inl ⟨by kernel_rfl, ?_⟩) hHeld ?_
  rotate_left
  · intro w0 hSw
    (try dsimp only at hSw)
    go_simp
    try (with_reducible rfl)
  try simp only [Act.put, List.setIfInBounds_toArray, List.set_cons_zero, List.set_cons_succ]
  refine wpAnyH_take (i := 10) (v := ?_) rfl (by kernel_rfl) (by kernel_rfl) (by kernel_rfl) (fun _ _ _ h => h) (Or.inl ⟨by kernel_rfl, ?_⟩) hHeld ?_
  rotate_left
  · intro w0 hSw
    (try dsimp only at hSw)
    go_simp
    try (with_reducible rfl)
  try simp only [Act.put, List.setIfInBounds_toArray, List.set_cons_zero, List.set_cons_succ]
  refine wpAnyH_take (i := 11) (v := ?_) rfl (by kernel_rfl) (by kernel_rfl) (by kernel_rfl) (fun _ _ _ h => h) (Or.inl ⟨by kernel_rfl, ?_⟩) hHeld ?_
  rotate_left
  · intro w0 hSw
    (try dsimp only at hSw)
    go_simp
    try (with_reducible rfl)
  try simp only [Act.put, List.setIfInBounds_toArray, List.set_cons_zero, List.set_cons_succ]
  refine wpAnyH_take (i := 12) (v := ?_) rfl (by kernel_rfl) (by kernel_rfl) (by kernel_rfl) (fun _ _ _ h => h) (Or.inl ⟨by kernel_rfl, ?_⟩) hHeld ?_
  rotate_left
  · intro w0 hSw
    (try dsimp only at hSw)
    go_simp
    try (with_reducible rfl)
  try simp only [Act.put, List.setIfInBounds_toArray, List.set_cons_zero, List.set_cons_succ]
  refine wpAnyH_take (i := 13) (v := ?_) rfl (by kernel_rfl) (by kernel_rfl) (by kernel_rfl) (fun _ _ _ h => h) (Or.inl ⟨by kernel_rfl, ?_⟩) hHeld ?_
  rotate_left
  · intro w0 hSw
    (try dsimp only at hSw)
    go_simp
    try (with_reducible rfl)
  try simp only [Act.put, List.setIfInBounds_toArray, List.set_cons_zero, List.set_cons_succ]
  refine wpAnyH_take (i := 14) (v := ?_) rfl (by kernel_rfl) (by kernel_rfl) (by kernel_rfl) (fun _ _ _ h => h) (Or.inl ⟨by kernel_rfl, ?_⟩) hHeld ?_
  rotate_left
  · intro w0 hSw
    (try dsimp only at hSw)
    go_simp
    try (with_reducible rfl)
  try simp only [Act.put, List.setIfInBounds_toArray, List.set_cons_zero, List.set_cons_succ]
  refine wpAnyH_take (i := 15) (v := ?_) rfl (by kernel_rfl) (by kernel_rfl) (by kernel_rfl) (fun _ _ _ h => h) (Or.inl ⟨by kernel_rfl, ?_⟩) hHeld ?_
  rotate_left
  · intro w0 hSw
    (try dsimp only at hSw)
    go_simp
    try (with_reducible rfl)
  try simp only [Act.put, List.setIfInBounds_toArray, List.set_cons_zero, List.set_cons_succ]
  refine wpAnyH_ready (rs := [16]) (by kernel_rfl) (by simp) ?_
  refine AllReadyH.cons rfl (fun K hK => ?_) AllReadyH.nil
  go_simp
  refine (same_at (A.shift ((St.mk [] []).vs.length : Int)) A _ _ wf.drew (Has.below HH17.out.2.2.2.1.has hE0) (Has.below HH17.out.2.2.1.has hE0) (by rw [Tm.size_shift]; have := HZ.out.1; omega) (by have := HZ.out.1; omega)).mono ?_
  rintro e W101 ⟨he, hb101⟩
  obtain rfl : e = .returned (.bool true) := he.trans (by rw [decide_eq_true (show (A.shift ((St.mk [] []).vs.length : Int)) = A by exact HG.out.1)])
  clear he
  go_wp2_with fail
  have hE101 : Below wf.heap.size wf W101 := hE0.trans (hb101.mono hE0.size)
  refine hK.out _ _ (HS _ hE101) (fun hh102 => ?_)
  clear hK K
  try simp only [Act.put, List.setIfInBounds_toArray, List.set_cons_zero, List.set_cons_succ]
  refine wpAnyH_take (i := 17) (v := ?_) rfl (by kernel_rfl) (by kernel_rfl) (by kernel_rfl) (fun _ _ _ h => h) (Or.inl ⟨by kernel_rfl, ?_⟩) hh102 ?_
  rotate_left
  · intro w0 hSw
    (try dsimp only at hSw)
    go_simp
    try (with_reducible rfl)
  try simp only [Act.put, List.setIfInBounds_toArray, List.set_cons_zero, List.set_cons_succ]
  refine wpAnyH_take (i := 18) (v := ?_) rfl (by kernel_rfl) (by kernel_rfl) (by kernel_rfl) (fun _ _ _ h => h) (Or.inl ⟨by kernel_rfl, ?_⟩) hh102 ?_
  rotate_left
  · intro w0 hSw
    (try dsimp only at hSw)
    go_simp
    try (with_reducible rfl)
  try simp only [Act.put, List.setIfInBounds_toArray, List.set_cons_zero, List.set_cons_succ]
  refine wpAnyH_take (i := 19) (v := ?_) rfl (by kernel_rfl) (by kernel_rfl) (by kernel_rfl) (fun _ _ _ h => h) (Or.inl ⟨by kernel_rfl, ?_⟩) hh102 ?_
  rotate_left
  · intro w0 hSw
    (try dsimp only at hSw)
    go_simp
    try (with_reducible rfl)
  try simp only [Act.put, List.setIfInBounds_toArray, List.set_cons_zero, List.set_cons_succ]
  refine wpAnyH_take (i := 20) (v := ?_) rfl (by kernel_rfl) (by kernel_rfl) (by kernel_rfl) (fun _ _ _ h => h) (Or.inl ⟨by kernel_rfl, ?_⟩) hh102 ?_
  rotate_left
  · intro w0 hSw
    (try dsimp only at hSw)
    go_simp
    try (with_reducible rfl)
  try simp only [Act.put, List.setIfInBounds_toArray, List.set_cons_zero, List.set_cons_succ]
  refine wpAnyH_take (i := 21) (v := ?_) rfl (by kernel_rfl) (by kernel_rfl) (by kernel_rfl) (fun _ _ _ h => h) (Or.inl ⟨by kernel_rfl, ?_⟩) hh102 ?_
  rotate_left
  · intro w0 hSw
    (try dsimp only at hSw)
    go_simp
    try (with_reducible rfl)
  try simp only [Act.put, List.setIfInBounds_toArray, List.set_cons_zero, List.set_cons_succ]
  refine wpAnyH_take (i := 22) (v := ?_) rfl (by kernel_rfl) (by kernel_rfl) (by kernel_rfl) (fun _ _ _ h => h) (Or.inl ⟨by kernel_rfl, ?_⟩) hh102 ?_
  rotate_left
  · intro w0 hSw
    (try dsimp only at hSw)
    go_simp
    try (with_reducible rfl)
  try simp only [Act.put, List.setIfInBounds_toArray, List.set_cons_zero, List.set_cons_succ]
  refine wpAnyH_ready (rs := [23]) (by kernel_rfl) (by simp) ?_
  refine AllReadyH.cons rfl (fun K hK => ?_) AllReadyH.nil
  go_simp
  refine (shift_at (m : Int) A _ W101 (Has.below HH17.out.2.2.1.has hE101) (by have := HZ.out.1; omega)).mono ?_
  intro e W103 hh_
  obtain ⟨kg, ng, sg, ag, lg, cg, rfl, hNg, hb103⟩ := hh_.has13
  have hTg := has_new13 hNg
  go_wp2_with fail
  have hE103 : Below wf.heap.size wf W103 := hE101.trans (hb103.mono hE101.size)
  refine hK.out _ _ (HS _ hE103) (fun hh104 => ?_)
  clear hK K
  try simp only [Act.put, List.setIfInBounds_toArray, List.set_cons_zero, List.set_cons_succ]
  refine wpAnyH_ready (rs := [24]) (by kernel_rfl) (by simp) ?_
  refine AllReadyH.cons rfl (fun K hK => ?_) AllReadyH.nil
  go_simp
  refine (same_at (A.shift (((St.mk [] []).fresh m).vs.length : Int)) (A.shift (m : Int)) _ _ W103 (Has.below HH17.out.2.2.2.2.has hE103) (hTg) (by rw [Tm.size_shift]; have := HZ.out.1; omega) (by rw [Tm.size_shift]; have := HZ.out.1; omega)).mono ?_
  rintro e W105 ⟨he, hb105⟩
  obtain rfl : e = .returned (.bool true) := he.trans (by rw [decide_eq_true (show (A.shift (((St.mk [] []).fresh m).vs.length : Int)) = (A.shift (m : Int)) by rw [HG.out.2.1])])
  clear he
  go_wp2_with fail
  have hE105 : Below wf.heap.size wf W105 := hE103.trans (hb105.mono hE103.size)
  refine hK.out _ _ (HS _ hE105) (fun hh106 => ?_)
  clear hK K
  try simp only [Act.put, List.setIfInBounds_toArray, List.set_cons_zero, List.set_cons_succ]
  have hmul : IntKind.i64.wrap (2 * (m : Int)) = 2 * (m : Int) := by rw [IntKind.wrap_i64]; have := HZ.out.2; omega
  refine wpAnyH_take (i := 25) (v := ?_) rfl (by kernel_rfl) (by kernel_rfl) (by kernel_rfl) (fun _ _ _ h => h) (Or.inl ⟨by kernel_rfl, ?_⟩) hh106 ?_
  rotate_left
  · intro w0 hSw
    (try dsimp only at hSw)
    go_simp
    try (with_reducible rfl)
  try simp only [Act.put, List.setIfInBounds_toArray, List.set_cons_zero, List.set_cons_succ]
  refine wpAnyH_take (i := 26) (v := ?_) rfl (by kernel_rfl) (by kernel_rfl) (by kernel_rfl) (fun _ _ _ h => h) (Or.inl ⟨by kernel_rfl, ?_⟩) hh106 ?_
  rotate_left
  · intro w0 hSw
    (try dsimp only at hSw)
    go_simp
    try (with_reducible rfl)
  try simp only [Act.put, List.setIfInBounds_toArray, List.set_cons_zero, List.set_cons_succ]
  refine wpAnyH_take (i := 27) (v := ?_) rfl (by kernel_rfl) (by kernel_rfl) (by kernel_rfl) (fun _ _ _ h => h) (Or.inl ⟨by kernel_rfl, ?_⟩) hh106 ?_
  rotate_left
  · intro w0 hSw
    (try dsimp only at hSw)
    go_simp
    try (with_reducible rfl)
  try simp only [Act.put, List.setIfInBounds_toArray, List.set_cons_zero, List.set_cons_succ]
  refine wpAnyH_take (i := 28) (v := ?_) rfl (by kernel_rfl) (by kernel_rfl) (by kernel_rfl) (fun _ _ _ h => h) (Or.inl ⟨by kernel_rfl, ?_⟩) hh106 ?_
  rotate_left
  · intro w0 hSw
    (try dsimp only at hSw)
    go_simp
    try (with_reducible rfl)
  try simp only [Act.put, List.setIfInBounds_toArray, List.set_cons_zero, List.set_cons_succ]
  refine wpAnyH_take (i := 29) (v := ?_) rfl (by kernel_rfl) (by kernel_rfl) (by kernel_rfl) (fun _ _ _ h => h) (Or.inl ⟨by kernel_rfl, ?_⟩) hh106 ?_
  rotate_left
  · intro w0 hSw
    (try dsimp only at hSw)
    go_simp
    try (with_reducible rfl)
  try simp only [Act.put, List.setIfInBounds_toArray, List.set_cons_zero, List.set_cons_succ]
  refine wpAnyH_take (i := 30) (v := ?_) rfl (by kernel_rfl) (by kernel_rfl) (by kernel_rfl) (fun _ _ _ h => h) (Or.inl ⟨by kernel_rfl, ?_⟩) hh106 ?_
  rotate_left
  · intro w0 hSw
    (try dsimp only at hSw)
    go_simp
    try (with_reducible rfl)
  try simp only [Act.put, List.setIfInBounds_toArray, List.set_cons_zero, List.set_cons_succ]
  refine wpAnyH_take (i := 31) (v := ?_) rfl (by kernel_rfl) (by kernel_rfl) (by kernel_rfl) (fun _ _ _ h => h) (Or.inl ⟨by kernel_rfl, ?_⟩) hh106 ?_
  rotate_left
  · intro w0 hSw
    (try dsimp only at hSw)
    go_simp
    try (with_reducible rfl)
  try simp only [Act.put, List.setIfInBounds_toArray, List.set_cons_zero, List.set_cons_succ]
  refine wpAnyH_take (i := 32) (v := ?_) rfl (by kernel_rfl) (by kernel_rfl) (by kernel_rfl) (fun _ _ _ h => h) (Or.inl ⟨by kernel_rfl, ?_⟩) hh106 ?_
  rotate_left
  · intro w0 hSw
    (try dsimp only at hSw)
    go_simp
    try (with_reducible rfl)
  try simp only [Act.put, List.setIfInBounds_toArray, List.set_cons_zero, List.set_cons_succ]
  refine wpAnyH_done (by kernel_rfl) ?_ _
  refine last_of_list rfl ?_
  go_wp2_with fail
  go_ret
  exact ⟨rfl, HH3.out.1.trans ((HH17.out.1.trans (hE105.mono HH17.out.1.size)).mono HH3.out.1.size)⟩
end Go.Proofs.Ytlnggaepmclbkaa
