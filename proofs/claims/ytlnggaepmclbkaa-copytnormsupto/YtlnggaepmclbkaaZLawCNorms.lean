/-
  The law CopytNorms, walked.
-/
import Derived.Test.YtlnggaepmclbkaaZCopD
import Derived.BigQuiet
import Derived.Deep.DeepCutAuto
namespace Go.Proofs.Ytlnggaepmclbkaa
open Go.RowKit Go.Shelf
open Classical
set_option linter.unusedVariables false
set_option linter.unusedSimpArgs false

set_option maxRecDepth 100000 in
set_option maxHeartbeats 16000000 in
theorem copytNorms_at (v1 : Value) (A : Tm) (by_ : Int) (w : World) (hA : Has w v1 A) (sA : A.size ≤ 1048576) (h0 : 0 ≤ by_) (h1 : by_ ≤ 65535) : Calls Try.prog 3 #[v1, .int .u16 by_] w (Gets w (.bool true)) := by
  obtain ⟨k1, n1, s1, a1, l1, c1, ks1, rfl, e1, -⟩ := hA.form
  clear e1
  obtain ⟨w2, hw2⟩ : ∃ w2, w2 = w.alloc (.cells #[.int .i64 k1, .int .i64 n1, .string s1, .slice a1 l1 c1] 24) := ⟨_, rfl⟩
  have hb2 : Below w.heap.size w w2 := by rw [hw2]; exact (Below.refl _ w).alloc (by simp) _
  have x1 : w2.heap[w.heap.size]? = some (.cells #[.int .i64 k1, .int .i64 n1, .string s1, .slice a1 l1 c1] 24 (0, 0)) := by rw [hw2]; exact World.alloc_heap_new _ _
  have t1 : Has w2 (.agg #[.int .i64 k1, .int .i64 n1, .string s1, .slice a1 l1 c1]) A := Has.below hA hb2
  have H2 := Lib.hid (And.intro (hb2) (And.intro (x1) (t1)))
  have HW := Lib.hid hw2
  clear hb2 hw2 x1 t1 hA
  go_enter Try.func3, Try.ntmps3
  go_upto_region 1 with fail
  rw [← HW.out]
  go_wp2_with fail
  refine (shown13_at w2).mono ?_
  rintro e w2 ⟨rfl, hb2⟩
  have HH3 := Lib.hid (And.intro (H2.out.1.trans (hb2.mono H2.out.1.size)) (And.intro (tbox_below H2.out.2.1 hb2) (Has.below H2.out.2.2 hb2)))
  clear H2 hb2
  obtain ⟨y10, y11, y12, y13⟩ := tbox_cells HH3.out.2.1
  by_cases hfew : A.size ≤ 300
  case neg =>
    go_wp2_with fail
    refine (few13_at _ A w2 HH3.out.2.2 (by omega)).mono ?_
    rw [decide_eq_false hfew]
    rintro e w4 ⟨rfl, hb4⟩
    have HH5 := Lib.hid (And.intro (HH3.out.1.trans (hb4.mono HH3.out.1.size)) (And.intro (tbox_below HH3.out.2.1 hb4) (Has.below HH3.out.2.2 hb4)))
    clear HH3 hb4
    clear y10 y11 y12 y13
    clear hfew sA
    go_wp2_with fail
    go_ret
    exact ⟨rfl, HH5.out.1⟩
  go_wp2_with fail
  refine (few13_at _ A w2 HH3.out.2.2 (by omega)).mono ?_
  rw [decide_eq_true hfew]
  rintro e w4 ⟨rfl, hb4⟩
  have HH5 := Lib.hid (And.intro (HH3.out.1.trans (hb4.mono HH3.out.1.size)) (And.intro (tbox_below HH3.out.2.1 hb4) (Has.below HH3.out.2.2 hb4)))
  clear HH3 hb4
  clear y10 y11 y12 y13
  obtain ⟨y10, y11, y12, y13⟩ := tbox_cells HH5.out.2.1
  have HZ := Lib.hid (And.intro hfew (And.intro h0 h1))
  clear hfew sA
  by_cases hck : A.check 16 = 0
  case neg =>
    obtain ⟨ck, hckk⟩ : ∃ ck, A.check 16 = ck := ⟨_, rfl⟩
    rw [hckk] at hck
    have hck1 : (ck != 0) = true := by simpa using hck
    have hck2 : ¬ (ck = 0) := hck
    go_wp2_with fail
    refine (check_at _ A 16 w4 HH5.out.2.2 (by have := HZ.out.1; omega)).mono ?_
    rw [hckk]
    rintro e w6 ⟨rfl, hb6⟩
    have HH7 := Lib.hid (And.intro (HH5.out.1.trans (hb6.mono HH5.out.1.size)) (And.intro (tbox_below HH5.out.2.1 hb6) (Has.below HH5.out.2.2 hb6)))
    clear HH5 hb6
    clear y10 y11 y12 y13
    clear hck hckk
    go_wp2_with fail
    go_ret
    exact ⟨rfl, HH7.out.1⟩
  go_wp2_with fail
  refine (check_at _ A 16 w4 HH5.out.2.2 (by have := HZ.out.1; omega)).mono ?_
  rw [hck]
  rintro e w6 ⟨rfl, hb6⟩
  have HH7 := Lib.hid (And.intro (HH5.out.1.trans (hb6.mono HH5.out.1.size)) (And.intro (tbox_below HH5.out.2.1 hb6) (Has.below HH5.out.2.2 hb6)))
  clear HH5 hb6
  clear y10 y11 y12 y13
  clear hck
  go_upto_region 4 with fail
  obtain ⟨y10, y11, y12, y13⟩ := tbox_cells HH7.out.2.1
  go_wp2_with fail
  refine (cnorm_at _ A w6 HH7.out.2.2 (by have := HZ.out.1; omega)).mono ?_
  intro e wn8 hn8
  obtain ⟨ka, na, sa, aa, la, ca, rfl, hT8, hB8⟩ := hn8
  obtain ⟨wb8, hwb8⟩ : ∃ wb, wb = wn8.alloc (.cells #[.int .i64 ka, .int .i64 na, .string sa, .slice aa la ca] 24) := ⟨_, rfl⟩
  have hC8 : Below wn8.heap.size wn8 wb8 := by rw [hwb8]; exact (Below.refl _ _).alloc (Nat.le_refl _) _
  have hX8 : wb8.heap[wn8.heap.size]? = some (.cells #[.int .i64 ka, .int .i64 na, .string sa, .slice aa la ca] 24 (0, 0)) := by rw [hwb8]; exact World.alloc_heap_new _ _
  have hU8 : Has wb8 (.agg #[.int .i64 ka, .int .i64 na, .string sa, .slice aa la ca]) A.norm := hT8.carry (fun b hb => hC8.block b hb.2) fun b hb => Nat.lt_of_lt_of_le hb.2 hC8.size
  have hE8 := hB8.trans (hC8.mono hB8.size)
  have HWB8 := Lib.hid hwb8
  have HH9 := Lib.hid (And.intro (HH7.out.1.trans (hE8.mono HH7.out.1.size)) (And.intro (tbox_below HH7.out.2.1 hE8) (And.intro (Has.below HH7.out.2.2 hE8) (And.intro (hX8) (hU8)))))
  clear HH7 hT8 hB8 hwb8 hC8 hX8 hU8 hE8
  clear y10 y11 y12 y13
  go_upto_region 5 with fail
  rw [← HWB8.out]
  generalize hbk8 : wn8.heap.size = bk8 at *
  clear HWB8 hbk8
  obtain ⟨ya0, ya1, ya2, ya3⟩ := tbox_cells HH9.out.2.2.2.1
  go_wp2_with fail
  refine (cnorm_at _ A.norm wb8 HH9.out.2.2.2.2 (by rw [norm_size]; have := HZ.out.1; omega)).mono ?_
  intro e wn10 hn10
  obtain ⟨kb, nb, sb, ab, lb, cb, rfl, hT10, hB10⟩ := hn10
  obtain ⟨wb10, hwb10⟩ : ∃ wb, wb = wn10.alloc (.cells #[.int .i64 kb, .int .i64 nb, .string sb, .slice ab lb cb] 24) := ⟨_, rfl⟩
  have hC10 : Below wn10.heap.size wn10 wb10 := by rw [hwb10]; exact (Below.refl _ _).alloc (Nat.le_refl _) _
  have hX10 : wb10.heap[wn10.heap.size]? = some (.cells #[.int .i64 kb, .int .i64 nb, .string sb, .slice ab lb cb] 24 (0, 0)) := by rw [hwb10]; exact World.alloc_heap_new _ _
  have hU10 : Has wb10 (.agg #[.int .i64 kb, .int .i64 nb, .string sb, .slice ab lb cb]) A.norm.norm := hT10.carry (fun b hb => hC10.block b hb.2) fun b hb => Nat.lt_of_lt_of_le hb.2 hC10.size
  have hE10 := hB10.trans (hC10.mono hB10.size)
  have HWB10 := Lib.hid hwb10
  have HH11 := Lib.hid (And.intro (HH9.out.1.trans (hE10.mono HH9.out.1.size)) (And.intro (tbox_below HH9.out.2.1 hE10) (And.intro (Has.below HH9.out.2.2.1 hE10) (And.intro (tbox_below HH9.out.2.2.2.1 hE10) (And.intro (Has.below HH9.out.2.2.2.2 hE10) (And.intro (hX10) (hU10)))))))
  clear HH9 hT10 hB10 hwb10 hC10 hX10 hU10 hE10
  clear ya0 ya1 ya2 ya3
  go_upto_region 6 with fail
  rw [← HWB10.out]
  generalize hbk10 : wn10.heap.size = bk10 at *
  clear HWB10 hbk10
  have hby := HZ.out.2.1
  have hby2 := HZ.out.2.2
  have hcv : IntKind.i64.wrap by_ = by_ := by rw [IntKind.wrap_i64]; omega
  obtain ⟨y10, y11, y12, y13⟩ := tbox_cells HH11.out.2.1
  go_wp2_with fail
  refine (shift_at by_ A _ wb10 HH11.out.2.2.1 (by have := HZ.out.1; omega)).mono ?_
  intro e ws12 hs12
  obtain ⟨kh, nh, sh, ah, lh, ch, rfl, hN12, hb12⟩ := hs12.has13
  have HH13 := Lib.hid (And.intro (HH11.out.1.trans (hb12.mono HH11.out.1.size)) (And.intro (tbox_below HH11.out.2.1 hb12) (And.intro (Has.below HH11.out.2.2.1 hb12) (And.intro (tbox_below HH11.out.2.2.2.1 hb12) (And.intro (Has.below HH11.out.2.2.2.2.1 hb12) (And.intro (tbox_below HH11.out.2.2.2.2.2.1 hb12) (And.intro (Has.below HH11.out.2.2.2.2.2.2 hb12) (has_new13 hN12))))))))
  clear HH11 hN12 hb12 hs12
  clear y10 y11 y12 y13
  go_wp2_with fail
  refine (cnorm_at _ (A.shift by_) ws12 HH13.out.2.2.2.2.2.2.2 (by rw [Tm.size_shift]; have := HZ.out.1; omega)).mono ?_
  intro e wn14 hn14
  obtain ⟨kc, nc, sc, ac, lc, cc, rfl, hT14, hB14⟩ := hn14
  obtain ⟨wb14, hwb14⟩ : ∃ wb, wb = wn14.alloc (.cells #[.int .i64 kc, .int .i64 nc, .string sc, .slice ac lc cc] 24) := ⟨_, rfl⟩
  have hC14 : Below wn14.heap.size wn14 wb14 := by rw [hwb14]; exact (Below.refl _ _).alloc (Nat.le_refl _) _
  have hX14 : wb14.heap[wn14.heap.size]? = some (.cells #[.int .i64 kc, .int .i64 nc, .string sc, .slice ac lc cc] 24 (0, 0)) := by rw [hwb14]; exact World.alloc_heap_new _ _
  have hU14 : Has wb14 (.agg #[.int .i64 kc, .int .i64 nc, .string sc, .slice ac lc cc]) (A.shift by_).norm := hT14.carry (fun b hb => hC14.block b hb.2) fun b hb => Nat.lt_of_lt_of_le hb.2 hC14.size
  have hE14 := hB14.trans (hC14.mono hB14.size)
  have HWB14 := Lib.hid hwb14
  have HH15 := Lib.hid (And.intro (HH13.out.1.trans (hE14.mono HH13.out.1.size)) (And.intro (tbox_below HH13.out.2.1 hE14) (And.intro (Has.below HH13.out.2.2.1 hE14) (And.intro (tbox_below HH13.out.2.2.2.1 hE14) (And.intro (Has.below HH13.out.2.2.2.2.1 hE14) (And.intro (tbox_below HH13.out.2.2.2.2.2.1 hE14) (And.intro (Has.below HH13.out.2.2.2.2.2.2.1 hE14) (And.intro (Has.below HH13.out.2.2.2.2.2.2.2 hE14) (And.intro (hX14) (hU14))))))))))
  clear HH13 hT14 hB14 hwb14 hC14 hX14 hU14 hE14
  go_upto_region 7 with fail
  rw [← HWB14.out]
  generalize hbk14 : wn14.heap.size = bk14 at *
  clear HWB14 hbk14
  have hok := vars_ok HH15.out.2.2.1
  have e1 : A.norm.norm = A.norm := norm_norm A
  have e2 : (A.shift by_).norm = A.norm := norm_shift by_ hok
  have e3 : A.norm.vars.length = A.vars.length := norm_vars_len A
  have e4 : (A.shift by_).vars.length = A.vars.length := shift_vars_len by_ hok
  have e5 : A.norm.size = A.size := norm_size A
  have HG := Lib.hid (And.intro e1 (And.intro e2 e5))
  rw [e3, e4]
  clear hok e1 e2 e3 e4 e5
  have HS : ∀ w' : World, Below wb14.heap.size wb14 w' → ((w'.cell? ⟨w.heap.size, 0, none⟩ = some (.int .i64 k1)) ∧ (w'.cell? ⟨w.heap.size, 1, none⟩ = some (.int .i64 n1)) ∧ (w'.cell? ⟨w.heap.size, 2, none⟩ = some (.string s1)) ∧ (w'.cell? ⟨w.heap.size, 3, none⟩ = some (.slice a1 l1 c1)) ∧ (w'.cell? ⟨bk8, 0, none⟩ = some (.int .i64 ka)) ∧ (w'.cell? ⟨bk8, 1, none⟩ = some (.int .i64 na)) ∧ (w'.cell? ⟨bk8, 2, none⟩ = some (.string sa)) ∧ (w'.cell? ⟨bk8, 3, none⟩ = some (.slice aa la ca)) ∧ (w'.cell? ⟨bk10, 0, none⟩ = some (.int .i64 kb)) ∧ (w'.cell? ⟨bk10, 1, none⟩ = some (.int .i64 nb)) ∧ (w'.cell? ⟨bk10, 2, none⟩ = some (.string sb)) ∧ (w'.cell? ⟨bk10, 3, none⟩ = some (.slice ab lb cb)) ∧ (w'.cell? ⟨bk14, 0, none⟩ = some (.int .i64 kc)) ∧ (w'.cell? ⟨bk14, 1, none⟩ = some (.int .i64 nc)) ∧ (w'.cell? ⟨bk14, 2, none⟩ = some (.string sc)) ∧ (w'.cell? ⟨bk14, 3, none⟩ = some (.slice ac lc cc))) := fun w' hb => by
    obtain ⟨p0, p1, p2, p3⟩ := tbox_cells (tbox_below HH15.out.2.1 hb)
    obtain ⟨q0, q1, q2, q3⟩ := tbox_cells (tbox_below HH15.out.2.2.2.1 hb)
    obtain ⟨r0, r1, r2, r3⟩ := tbox_cells (tbox_below HH15.out.2.2.2.2.2.1 hb)
    obtain ⟨u0, u1, u2, u3⟩ := tbox_cells (tbox_below HH15.out.2.2.2.2.2.2.2.2.1 hb)
    exact ⟨p0, p1, p2, p3, q0, q1, q2, q3, r0, r1, r2, r3, u0, u1, u2, u3⟩
  refine wp_region_last (S := (fun w' : World => (w'.cell? ⟨w.heap.size, 0, none⟩ = some (.int .i64 k1)) ∧ (w'.cell? ⟨w.heap.size, 1, none⟩ = some (.int .i64 n1)) ∧ (w'.cell? ⟨w.heap.size, 2, none⟩ = some (.string s1)) ∧ (w'.cell? ⟨w.heap.size, 3, none⟩ = some (.slice a1 l1 c1)) ∧ (w'.cell? ⟨bk8, 0, none⟩ = some (.int .i64 ka)) ∧ (w'.cell? ⟨bk8, 1, none⟩ = some (.int .i64 na)) ∧ (w'.cell? ⟨bk8, 2, none⟩ = some (.string sa)) ∧ (w'.cell? ⟨bk8, 3, none⟩ = some (.slice aa la ca)) ∧ (w'.cell? ⟨bk10, 0, none⟩ = some (.int .i64 kb)) ∧ (w'.cell? ⟨bk10, 1, none⟩ = some (.int .i64 nb)) ∧ (w'.cell? ⟨bk10, 2, none⟩ = some (.string sb)) ∧ (w'.cell? ⟨bk10, 3, none⟩ = some (.slice ab lb cb)) ∧ (w'.cell? ⟨bk14, 0, none⟩ = some (.int .i64 kc)) ∧ (w'.cell? ⟨bk14, 1, none⟩ = some (.int .i64 nc)) ∧ (w'.cell? ⟨bk14, 2, none⟩ = some (.string sc)) ∧ (w'.cell? ⟨bk14, 3, none⟩ = some (.slice ac lc cc)))) 40 rfl (by kernel_rfl) (HS _ (Below.refl _ _).drew) fun hHeld => ?_
  simp only [List.take_succ_cons, List.take_zero]
  have hE0 : Below wb14.heap.size wb14 wb14.drew := (Below.refl _ _).drew
  refine wpAnyH_take (i := 0) (v := ?_) rfl (by kernel_rfl) (by kernel_rfl) (by kernel_rfl) (fun _ _ _ h => h) (Or.inl ⟨by kernel_rfl, ?_⟩) hHeld ?_
  rotate_left
  · intro w0 hSw
    (try dsimp only at hSw)
    go_simp
    try (with_reducible rfl)
  try simp only [Act.put, List.setIfInBounds_toArray, List.set_cons_zero, List.set_cons_succ]
  refine wpAnyH_take (i := 1) (v := ?_) rfl (by kernel_rfl) (by kernel_rfl) (by kernel_rfl) (fun _ _ _ h => h) (Or.inl ⟨by kernel_rfl, ?_⟩) hHeld ?_
  rotate_left
  · intro w0 hSw
    (try dsimp only at hSw)
    go_simp
    try (with_reducible rfl)
  try simp only [Act.put, List.setIfInBounds_toArray, List.set_cons_zero, List.set_cons_succ]
  refine wpAnyH_take (i := 2) (v := ?_) rfl (by kernel_rfl) (by kernel_rfl) (by kernel_rfl) (fun _ _ _ h => h) (Or.inl ⟨by kernel_rfl, ?_⟩) hHeld ?_
  rotate_left
  · intro w0 hSw
    (try dsimp only at hSw)
    go_simp
    try (with_reducible rfl)
  try simp only [Act.put, List.setIfInBounds_toArray, List.set_cons_zero, List.set_cons_succ]
  refine wpAnyH_take (i := 3) (v := ?_) rfl (by kernel_rfl) (by kernel_rfl) (by kernel_rfl) (fun _ _ _ h => h) (Or.inl ⟨by kernel_rfl, ?_⟩) hHeld ?_
  rotate_left
  · intro w0 hSw
    (try dsimp only at hSw)
    go_simp
    try (with_reducible rfl)
  try simp only [Act.put, List.setIfInBounds_toArray, List.set_cons_zero, List.set_cons_succ]
  generalize wb14.drew = wD at hHeld hE0 ⊢
  refine wpAnyH_ready (rs := [4]) (by kernel_rfl) (by simp) ?_
  refine AllReadyH.cons rfl (fun K hK => ?_) AllReadyH.nil
  go_simp
  refine (same_at A.norm A.norm.norm _ _ wD (Has.below HH15.out.2.2.2.2.1 hE0) (Has.below HH15.out.2.2.2.2.2.2.1 hE0) (by rw [HG.out.2.2]; have := HZ.out.1; omega) (by first | (rw [HG.out.1, HG.out.2.2]; have := HZ.out.1; omega) | (rw [HG.out.2.1, HG.out.2.2]; have := HZ.out.1; omega))).mono ?_
  rintro e W101 ⟨he, hb101⟩
  obtain rfl : e = .returned (.bool true) := he.trans (by rw [decide_eq_true HG.out.1.symm])
  clear he
  go_wp2_with fail
  have hE101 : Below wb14.heap.size wb14 W101 := hE0.trans (hb101.mono hE0.size)
  refine hK.out _ _ (HS _ hE101) (fun hh102 => ?_)
  clear hK K
  try simp only [Act.put, List.setIfInBounds_toArray, List.set_cons_zero, List.set_cons_succ]
  refine wpAnyH_take (i := 5) (v := ?_) rfl (by kernel_rfl) (by kernel_rfl) (by kernel_rfl) (fun _ _ _ h => h) (Or.inl ⟨by kernel_rfl, ?_⟩) hh102 ?_
  rotate_left
  · intro w0 hSw
    (try dsimp only at hSw)
    go_simp
    try (with_reducible rfl)
  try simp only [Act.put, List.setIfInBounds_toArray, List.set_cons_zero, List.set_cons_succ]
  refine wpAnyH_take (i := 6) (v := ?_) rfl (by kernel_rfl) (by kernel_rfl) (by kernel_rfl) (fun _ _ _ h => h) (Or.inl ⟨by kernel_rfl, ?_⟩) hh102 ?_
  rotate_left
  · intro w0 hSw
    (try dsimp only at hSw)
    go_simp
    try (with_reducible rfl)
  try simp only [Act.put, List.setIfInBounds_toArray, List.set_cons_zero, List.set_cons_succ]
  refine wpAnyH_take (i := 7) (v := ?_) rfl (by kernel_rfl) (by kernel_rfl) (by kernel_rfl) (fun _ _ _ h => h) (Or.inl ⟨by kernel_rfl, ?_⟩) hh102 ?_
  rotate_left
  · intro w0 hSw
    (try dsimp only at hSw)
    go_simp
    try (with_reducible rfl)
  try simp only [Act.put, List.setIfInBounds_toArray, List.set_cons_zero, List.set_cons_succ]
  refine wpAnyH_take (i := 8) (v := ?_) rfl (by kernel_rfl) (by kernel_rfl) (by kernel_rfl) (fun _ _ _ h => h) (Or.inl ⟨by kernel_rfl, ?_⟩) hh102 ?_
  rotate_left
  · intro w0 hSw
    (try dsimp only at hSw)
    go_simp
    try (with_reducible rfl)
  try simp only [Act.put, List.setIfInBounds_toArray, List.set_cons_zero, List.set_cons_succ]
  refine wpAnyH_take (i := 9) (v := ?_) rfl (by kernel_rfl) (by kernel_rfl) (by kernel_rfl) (fun _ _ _ h => h) (Or.inl ⟨by kernel_rfl, ?_⟩) hh102 ?_
  rotate_left
  · intro w0 hSw
    (try dsimp only at hSw)
    go_simp
    try (with_reducible rfl)
  try simp only [Act.put, List.setIfInBounds_toArray, List.set_cons_zero, List.set_cons_succ]
  refine wpAnyH_take (i := 10) (v := ?_) rfl (by kernel_rfl) (by kernel_rfl) (by kernel_rfl) (fun _ _ _ h => h) (Or.inl ⟨by kernel_rfl, ?_⟩) hh102 ?_
  rotate_left
  · intro w0 hSw
    (try dsimp only at hSw)
    go_simp
    try (with_reducible rfl)
  try simp only [Act.put, List.setIfInBounds_toArray, List.set_cons_zero, List.set_cons_succ]
  refine wpAnyH_take (i := 11) (v := ?_) rfl (by kernel_rfl) (by kernel_rfl) (by kernel_rfl) (fun _ _ _ h => h) (Or.inl ⟨by kernel_rfl, ?_⟩) hh102 ?_
  rotate_left
  · intro w0 hSw
    (try dsimp only at hSw)
    go_simp
    try (with_reducible rfl)
  try simp only [Act.put, List.setIfInBounds_toArray, List.set_cons_zero, List.set_cons_succ]
  refine wpAnyH_take (i := 12) (v := ?_) rfl (by kernel_rfl) (by kernel_rfl) (by kernel_rfl) (fun _ _ _ h => h) (Or.inl ⟨by kernel_rfl, ?_⟩) hh102 ?_
  rotate_left
  · intro w0 hSw
    (try dsimp only at hSw)
    go_simp
    try (with_reducible rfl)
  try simp only [Act.put, List.setIfInBounds_toArray, List.set_cons_zero, List.set_cons_succ]
  refine wpAnyH_take (i := 13) (v := ?_) rfl (by kernel_rfl) (by kernel_rfl) (by kernel_rfl) (fun _ _ _ h => h) (Or.inl ⟨by kernel_rfl, ?_⟩) hh102 ?_
  rotate_left
  · intro w0 hSw
    (try dsimp only at hSw)
    go_simp
    try (with_reducible rfl)
  try simp only [Act.put, List.setIfInBounds_toArray, List.set_cons_zero, List.set_cons_succ]
  refine wpAnyH_ready (rs := [14]) (by kernel_rfl) (by simp) ?_
  refine AllReadyH.cons rfl (fun K hK => ?_) AllReadyH.nil
  go_simp
  refine (same_at A.norm (A.shift by_).norm _ _ W101 (Has.below HH15.out.2.2.2.2.1 hE101) (Has.below HH15.out.2.2.2.2.2.2.2.2.2 hE101) (by rw [HG.out.2.2]; have := HZ.out.1; omega) (by first | (rw [HG.out.1, HG.out.2.2]; have := HZ.out.1; omega) | (rw [HG.out.2.1, HG.out.2.2]; have := HZ.out.1; omega))).mono ?_
  rintro e W103 ⟨he, hb103⟩
  obtain rfl : e = .returned (.bool true) := he.trans (by rw [decide_eq_true HG.out.2.1.symm])
  clear he
  go_wp2_with fail
  have hE103 : Below wb14.heap.size wb14 W103 := hE101.trans (hb103.mono hE101.size)
  refine hK.out _ _ (HS _ hE103) (fun hh104 => ?_)
  clear hK K
  try simp only [Act.put, List.setIfInBounds_toArray, List.set_cons_zero, List.set_cons_succ]
  refine wpAnyH_take (i := 15) (v := ?_) rfl (by kernel_rfl) (by kernel_rfl) (by kernel_rfl) (fun _ _ _ h => h) (Or.inl ⟨by kernel_rfl, ?_⟩) hh104 ?_
  rotate_left
  · intro w0 hSw
    (try dsimp only at hSw)
    go_simp
    try (with_reducible rfl)
  try simp only [Act.put, List.setIfInBounds_toArray, List.set_cons_zero, List.set_cons_succ]
  refine wpAnyH_take (i := 16) (v := ?_) rfl (by kernel_rfl) (by kernel_rfl) (by kernel_rfl) (fun _ _ _ h => h) (Or.inl ⟨by kernel_rfl, ?_⟩) hh104 ?_
  rotate_left
  · intro w0 hSw
    (try dsimp only at hSw)
    go_simp
    try (with_reducible rfl)
  try simp only [Act.put, List.setIfInBounds_toArray, List.set_cons_zero, List.set_cons_succ]
  refine wpAnyH_take (i := 17) (v := ?_) rfl (by kernel_rfl) (by kernel_rfl) (by kernel_rfl) (fun _ _ _ h => h) (Or.inl ⟨by kernel_rfl, ?_⟩) hh104 ?_
  rotate_left
  · intro w0 hSw
    (try dsimp only at hSw)
    go_simp
    try (with_reducible rfl)
  try simp only [Act.put, List.setIfInBounds_toArray, List.set_cons_zero, List.set_cons_succ]
  refine wpAnyH_take (i := 18) (v := ?_) rfl (by kernel_rfl) (by kernel_rfl) (by kernel_rfl) (fun _ _ _ h => h) (Or.inl ⟨by kernel_rfl, ?_⟩) hh104 ?_
  rotate_left
  · intro w0 hSw
    (try dsimp only at hSw)
    go_simp
    try (with_reducible rfl)
  try simp only [Act.put, List.setIfInBounds_toArray, List.set_cons_zero, List.set_cons_succ]
  refine wpAnyH_take (i := 19) (v := ?_) rfl (by kernel_rfl) (by kernel_rfl) (by kernel_rfl) (fun _ _ _ h => h) (Or.inl ⟨by kernel_rfl, ?_⟩) hh104 ?_
  rotate_left
  · intro w0 hSw
    (try dsimp only at hSw)
    go_simp
    try (with_reducible rfl)
  try simp only [Act.put, List.setIfInBounds_toArray, List.set_cons_zero, List.set_cons_succ]
  refine wpAnyH_take (i := 20) (v := ?_) rfl (by kernel_rfl) (by kernel_rfl) (by kernel_rfl) (fun _ _ _ h => h) (Or.inl ⟨by kernel_rfl, ?_⟩) hh104 ?_
  rotate_left
  · intro w0 hSw
    (try dsimp only at hSw)
    go_simp
    try (with_reducible rfl)
  try simp only [Act.put, List.setIfInBounds_toArray, List.set_cons_zero, List.set_cons_succ]
  refine wpAnyH_take (i := 21) (v := ?_) rfl (by kernel_rfl) (by kernel_rfl) (by kernel_rfl) (fun _ _ _ h => h) (Or.inl ⟨by kernel_rfl, ?_⟩) hh104 ?_
  rotate_left
  · intro w0 hSw
    (try dsimp only at hSw)
    go_simp
    try (with_reducible rfl)
  try simp only [Act.put, List.setIfInBounds_toArray, List.set_cons_zero, List.set_cons_succ]
  refine wpAnyH_take (i := 22) (v := ?_) rfl (by kernel_rfl) (by kernel_rfl) (by kernel_rfl) (fun _ _ _ h => h) (Or.inl ⟨by kernel_rfl, ?_⟩) hh104 ?_
  rotate_left
  · intro w0 hSw
    (try dsimp only at hSw)
    go_simp
    try (with_reducible rfl)
  try simp only [Act.put, List.setIfInBounds_toArray, List.set_cons_zero, List.set_cons_succ]
  refine wpAnyH_take (i := 23) (v := ?_) rfl (by kernel_rfl) (by kernel_rfl) (by kernel_rfl) (fun _ _ _ h => h) (Or.inl ⟨by kernel_rfl, ?_⟩) hh104 ?_
  rotate_left
  · intro w0 hSw
    (try dsimp only at hSw)
    go_simp
    try (with_reducible rfl)
  try simp only [Act.put, List.setIfInBounds_toArray, List.set_cons_zero, List.set_cons_succ]
  refine wpAnyH_ready (rs := [24]) (by kernel_rfl) (by simp) ?_
  refine AllReadyH.cons rfl (fun K hK => ?_) AllReadyH.nil
  go_simp
  refine (cvariant_at _ _ A A.norm W103 (Has.below HH15.out.2.2.1 hE103) (Has.below HH15.out.2.2.2.2.1 hE103) (by have := HZ.out.1; omega) (by rw [HG.out.2.2]; have := HZ.out.1; omega)).mono ?_
  rintro e W105 ⟨he, hb105⟩
  obtain rfl : e = .returned (.bool true) := he.trans (by rw [decide_eq_true HG.out.1.symm])
  clear he
  go_wp2_with fail
  have hE105 : Below wb14.heap.size wb14 W105 := hE103.trans (hb105.mono hE103.size)
  refine hK.out _ _ (HS _ hE105) (fun hh106 => ?_)
  clear hK K
  try simp only [Act.put, List.setIfInBounds_toArray, List.set_cons_zero, List.set_cons_succ]
  refine wpAnyH_take (i := 25) (v := ?_) rfl (by kernel_rfl) (by kernel_rfl) (by kernel_rfl) (fun _ _ _ h => h) (Or.inl ⟨by kernel_rfl, ?_⟩) hh106 ?_
  rotate_left
  · intro w0 hSw
    (try dsimp only at hSw)
    go_simp
    try (with_reducible rfl)
  try simp only [Act.put, List.setIfInBounds_toArray, List.set_cons_zero, List.set_cons_succ]
  refine wpAnyH_take (i := 26) (v := ?_) rfl (by kernel_rfl) (by kernel_rfl) (by kernel_rfl) (fun _ _ _ h => h) (Or.inl ⟨by kernel_rfl, ?_⟩) hh106 ?_
  rotate_left
  · intro w0 hSw
    (try dsimp only at hSw)
    go_simp
    try (with_reducible rfl)
  try simp only [Act.put, List.setIfInBounds_toArray, List.set_cons_zero, List.set_cons_succ]
  refine wpAnyH_take (i := 27) (v := ?_) rfl (by kernel_rfl) (by kernel_rfl) (by kernel_rfl) (fun _ _ _ h => h) (Or.inl ⟨by kernel_rfl, ?_⟩) hh106 ?_
  rotate_left
  · intro w0 hSw
    (try dsimp only at hSw)
    go_simp
    try (with_reducible rfl)
  try simp only [Act.put, List.setIfInBounds_toArray, List.set_cons_zero, List.set_cons_succ]
  refine wpAnyH_take (i := 28) (v := ?_) rfl (by kernel_rfl) (by kernel_rfl) (by kernel_rfl) (fun _ _ _ h => h) (Or.inl ⟨by kernel_rfl, ?_⟩) hh106 ?_
  rotate_left
  · intro w0 hSw
    (try dsimp only at hSw)
    go_simp
    try (with_reducible rfl)
  try simp only [Act.put, List.setIfInBounds_toArray, List.set_cons_zero, List.set_cons_succ]
  refine wpAnyH_ready (rs := [29]) (by kernel_rfl) (by simp) ?_
  refine AllReadyH.cons rfl (fun K hK => ?_) AllReadyH.nil
  go_simp
  refine (vars_at _ A W105 (Has.below HH15.out.2.2.1 hE105) (by have := HZ.out.1; omega)).mono ?_
  rintro e W107 ⟨rv, rfl, hI, hb107⟩
  obtain ⟨av, cv, rfl, -⟩ := hI
  go_wp2_with fail
  have hE107 : Below wb14.heap.size wb14 W107 := hE105.trans (hb107.mono hE105.size)
  refine hK.out _ _ (HS _ hE107) (fun hh108 => ?_)
  clear hK K
  try simp only [Act.put, List.setIfInBounds_toArray, List.set_cons_zero, List.set_cons_succ]
  refine wpAnyH_take (i := 30) (v := ?_) rfl (by kernel_rfl) (by kernel_rfl) (by kernel_rfl) (fun _ _ _ h => h) (Or.inl ⟨by kernel_rfl, ?_⟩) hh108 ?_
  rotate_left
  · intro w0 hSw
    (try dsimp only at hSw)
    go_simp
    try (with_reducible rfl)
  try simp only [Act.put, List.setIfInBounds_toArray, List.set_cons_zero, List.set_cons_succ]
  refine wpAnyH_take (i := 31) (v := ?_) rfl (by kernel_rfl) (by kernel_rfl) (by kernel_rfl) (fun _ _ _ h => h) (Or.inl ⟨by kernel_rfl, ?_⟩) hh108 ?_
  rotate_left
  · intro w0 hSw
    (try dsimp only at hSw)
    go_simp
    try (with_reducible rfl)
  try simp only [Act.put, List.setIfInBounds_toArray, List.set_cons_zero, List.set_cons_succ]
  refine wpAnyH_take (i := 32) (v := ?_) rfl (by kernel_rfl) (by kernel_rfl) (by kernel_rfl) (fun _ _ _ h => h) (Or.inl ⟨by kernel_rfl, ?_⟩) hh108 ?_
  rotate_left
  · intro w0 hSw
    (try dsimp only at hSw)
    go_simp
    try (with_reducible rfl)
  try simp only [Act.put, List.setIfInBounds_toArray, List.set_cons_zero, List.set_cons_succ]
  refine wpAnyH_take (i := 33) (v := ?_) rfl (by kernel_rfl) (by kernel_rfl) (by kernel_rfl) (fun _ _ _ h => h) (Or.inl ⟨by kernel_rfl, ?_⟩) hh108 ?_
  rotate_left
  · intro w0 hSw
    (try dsimp only at hSw)
    go_simp
    try (with_reducible rfl)
  try simp only [Act.put, List.setIfInBounds_toArray, List.set_cons_zero, List.set_cons_succ]
  refine wpAnyH_take (i := 34) (v := ?_) rfl (by kernel_rfl) (by kernel_rfl) (by kernel_rfl) (fun _ _ _ h => h) (Or.inl ⟨by kernel_rfl, ?_⟩) hh108 ?_
  rotate_left
  · intro w0 hSw
    (try dsimp only at hSw)
    go_simp
    try (with_reducible rfl)
  try simp only [Act.put, List.setIfInBounds_toArray, List.set_cons_zero, List.set_cons_succ]
  refine wpAnyH_take (i := 36) (v := ?_) rfl (by kernel_rfl) (by kernel_rfl) (by kernel_rfl) (fun _ _ _ h => h) (Or.inl ⟨by kernel_rfl, ?_⟩) hh108 ?_
  rotate_left
  · intro w0 hSw
    (try dsimp only at hSw)
    go_simp
    try (with_reducible rfl)
  try simp only [Act.put, List.setIfInBounds_toArray, List.set_cons_zero, List.set_cons_succ]
  refine wpAnyH_ready (rs := [35]) (by kernel_rfl) (by simp) ?_
  refine AllReadyH.cons rfl (fun K hK => ?_) AllReadyH.nil
  go_simp
  refine (size_at _ A.norm W107 (Has.below HH15.out.2.2.2.2.1 hE107) (by rw [HG.out.2.2]; have := HZ.out.1; omega)).mono ?_
  rintro e W109 ⟨rfl, hb109⟩
  go_wp2_with fail
  have hE109 : Below wb14.heap.size wb14 W109 := hE107.trans (hb109.mono hE107.size)
  refine hK.out _ _ (HS _ hE109) (fun hh110 => ?_)
  clear hK K
  try simp only [Act.put, List.setIfInBounds_toArray, List.set_cons_zero, List.set_cons_succ]
  refine wpAnyH_ready (rs := [37]) (by kernel_rfl) (by simp) ?_
  refine AllReadyH.cons rfl (fun K hK => ?_) AllReadyH.nil
  go_simp
  refine (size_at _ A W109 (Has.below HH15.out.2.2.1 hE109) (by have := HZ.out.1; omega)).mono ?_
  rintro e W111 ⟨rfl, hb111⟩
  go_wp2_with fail
  have hE111 : Below wb14.heap.size wb14 W111 := hE109.trans (hb111.mono hE109.size)
  refine hK.out _ _ (HS _ hE111) (fun hh112 => ?_)
  clear hK K
  try simp only [Act.put, List.setIfInBounds_toArray, List.set_cons_zero, List.set_cons_succ]
  have e5 := HG.out.2.2
  refine wpAnyH_take (i := 38) (v := ?_) rfl (by kernel_rfl) (by kernel_rfl) (by kernel_rfl) (fun _ _ _ h => h) (Or.inl ⟨by kernel_rfl, ?_⟩) hh112 ?_
  rotate_left
  · intro w0 hSw
    (try dsimp only at hSw)
    go_simp
    try (with_reducible rfl)
  try simp only [Act.put, List.setIfInBounds_toArray, List.set_cons_zero, List.set_cons_succ]
  refine wpAnyH_take (i := 39) (v := ?_) rfl (by kernel_rfl) (by kernel_rfl) (by kernel_rfl) (fun _ _ _ h => h) (Or.inl ⟨by kernel_rfl, ?_⟩) hh112 ?_
  rotate_left
  · intro w0 hSw
    (try dsimp only at hSw)
    go_simp
    try (with_reducible rfl)
  try simp only [Act.put, List.setIfInBounds_toArray, List.set_cons_zero, List.set_cons_succ]
  refine wpAnyH_done (by kernel_rfl) ?_ _
  refine last_of_list rfl ?_
  go_wp2_with fail
  go_ret
  exact ⟨rfl, HH15.out.1.trans (hE111.mono HH15.out.1.size)⟩
end Go.Proofs.Ytlnggaepmclbkaa
