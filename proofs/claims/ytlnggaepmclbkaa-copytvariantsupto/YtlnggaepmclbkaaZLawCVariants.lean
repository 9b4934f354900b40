/-
  The law CopytVariants, walked.
-/
import Derived.Test.YtlnggaepmclbkaaZCopD
import Derived.BigQuiet
import Derived.Deep.DeepCutAuto
namespace Go.Proofs.Ytlnggaepmclbkaa
open Go.RowKit Go.Shelf
open Classical
set_option linter.unusedVariables false
set_option linter.unusedSimpArgs false

set_option maxRecDepth 100000 in
set_option maxHeartbeats 16000000 in
theorem copytVariants_at (v1 : Value) (A : Tm) (v2 : Value) (B : Tm) (v3 : Value) (C : Tm) (by_ : Int) (w : World) (hA : Has w v1 A) (hB : Has w v2 B) (hC : Has w v3 C) (sA : A.size ≤ 1048576) (sB : B.size ≤ 1048576) (sC : C.size ≤ 1048576) (h0 : 0 ≤ by_) (h1 : by_ ≤ 65535) : Calls Try.prog 5 #[v1, v2, v3, .int .u16 by_] w (Gets w (.bool true)) := by
  obtain ⟨k1, n1, s1, a1, l1, c1, ks1, rfl, e1, -⟩ := hA.form
  obtain ⟨k2, n2, s2, a2, l2, c2, ks2, rfl, e2, -⟩ := hB.form
  obtain ⟨k3, n3, s3, a3, l3, c3, ks3, rfl, e3, -⟩ := hC.form
  clear e1 e2 e3
  obtain ⟨w2, hw2⟩ : ∃ w2, w2 = ((w.alloc (.cells #[.int .i64 k1, .int .i64 n1, .string s1, .slice a1 l1 c1] 24)).alloc (.cells #[.int .i64 k2, .int .i64 n2, .string s2, .slice a2 l2 c2] 24)).alloc (.cells #[.int .i64 k3, .int .i64 n3, .string s3, .slice a3 l3 c3] 24) := ⟨_, rfl⟩
  have hb2 : Below w.heap.size w w2 := by rw [hw2]; exact (((Below.refl _ w).alloc (by simp) _).alloc (by simp) _).alloc (by simp; omega) _
  have x1 : w2.heap[w.heap.size]? = some (.cells #[.int .i64 k1, .int .i64 n1, .string s1, .slice a1 l1 c1] 24 (0, 0)) := by rw [hw2]; exact (Below.heap_alloc _ _ _ (by simp; omega)).trans ((Below.heap_alloc _ _ _ (by simp)).trans (World.alloc_heap_new _ _))
  have x2 : w2.heap[w.heap.size + 1]? = some (.cells #[.int .i64 k2, .int .i64 n2, .string s2, .slice a2 l2 c2] 24 (0, 0)) := by rw [hw2]; exact (Below.heap_alloc _ _ _ (by simp)).trans ((by simpa using World.alloc_heap_new (w.alloc (.cells #[.int .i64 k1, .int .i64 n1, .string s1, .slice a1 l1 c1] 24)) (.cells #[.int .i64 k2, .int .i64 n2, .string s2, .slice a2 l2 c2] 24)))
  have x3 : w2.heap[w.heap.size + 1 + 1]? = some (.cells #[.int .i64 k3, .int .i64 n3, .string s3, .slice a3 l3 c3] 24 (0, 0)) := by rw [hw2]; exact (by simpa using World.alloc_heap_new ((w.alloc (.cells #[.int .i64 k1, .int .i64 n1, .string s1, .slice a1 l1 c1] 24)).alloc (.cells #[.int .i64 k2, .int .i64 n2, .string s2, .slice a2 l2 c2] 24)) (.cells #[.int .i64 k3, .int .i64 n3, .string s3, .slice a3 l3 c3] 24))
  have t1 : Has w2 (.agg #[.int .i64 k1, .int .i64 n1, .string s1, .slice a1 l1 c1]) A := Has.below hA hb2
  have t2 : Has w2 (.agg #[.int .i64 k2, .int .i64 n2, .string s2, .slice a2 l2 c2]) B := Has.below hB hb2
  have t3 : Has w2 (.agg #[.int .i64 k3, .int .i64 n3, .string s3, .slice a3 l3 c3]) C := Has.below hC hb2
  have H2 := Lib.hid (And.intro (hb2) (And.intro (x1) (And.intro (t1) (And.intro (x2) (And.intro (t2) (And.intro (x3) (t3)))))))
  have HW := Lib.hid hw2
  clear hb2 hw2 x1 t1 hA x2 t2 hB x3 t3 hC
  go_enter Try.func5, Try.ntmps5
  go_upto_region 1 with fail
  rw [← HW.out]
  go_wp2_with fail
  refine (shown13_at w2).mono ?_
  rintro e w2 ⟨rfl, hb2⟩
  have HH3 := Lib.hid (And.intro (H2.out.1.trans (hb2.mono H2.out.1.size)) (And.intro (tbox_below H2.out.2.1 hb2) (And.intro (Has.below H2.out.2.2.1 hb2) (And.intro (tbox_below H2.out.2.2.2.1 hb2) (And.intro (Has.below H2.out.2.2.2.2.1 hb2) (And.intro (tbox_below H2.out.2.2.2.2.2.1 hb2) (Has.below H2.out.2.2.2.2.2.2 hb2)))))))
  clear H2 hb2
  have HBY := Lib.hid (And.intro h0 h1)
  obtain ⟨y10, y11, y12, y13⟩ := tbox_cells HH3.out.2.1
  by_cases hfew1 : A.size ≤ 300
  case neg =>
    go_wp2_with fail
    refine (few13_at _ A w2 HH3.out.2.2.1 (by omega)).mono ?_
    rw [decide_eq_false hfew1]
    rintro e w4 ⟨rfl, hb4⟩
    have HH5 := Lib.hid (And.intro (HH3.out.1.trans (hb4.mono HH3.out.1.size)) (And.intro (tbox_below HH3.out.2.1 hb4) (And.intro (Has.below HH3.out.2.2.1 hb4) (And.intro (tbox_below HH3.out.2.2.2.1 hb4) (And.intro (Has.below HH3.out.2.2.2.2.1 hb4) (And.intro (tbox_below HH3.out.2.2.2.2.2.1 hb4) (Has.below HH3.out.2.2.2.2.2.2 hb4)))))))
    clear HH3 hb4
    clear y10 y11 y12 y13
    clear hfew1
    go_wp2_with fail
    go_ret
    exact ⟨rfl, HH5.out.1⟩
  go_wp2_with fail
  refine (few13_at _ A w2 HH3.out.2.2.1 (by omega)).mono ?_
  rw [decide_eq_true hfew1]
  rintro e w4 ⟨rfl, hb4⟩
  have HH5 := Lib.hid (And.intro (HH3.out.1.trans (hb4.mono HH3.out.1.size)) (And.intro (tbox_below HH3.out.2.1 hb4) (And.intro (Has.below HH3.out.2.2.1 hb4) (And.intro (tbox_below HH3.out.2.2.2.1 hb4) (And.intro (Has.below HH3.out.2.2.2.2.1 hb4) (And.intro (tbox_below HH3.out.2.2.2.2.2.1 hb4) (Has.below HH3.out.2.2.2.2.2.2 hb4)))))))
  clear HH3 hb4
  clear y10 y11 y12 y13
  obtain ⟨y20, y21, y22, y23⟩ := tbox_cells HH5.out.2.2.2.1
  by_cases hfew2 : B.size ≤ 300
  case neg =>
    go_wp2_with fail
    refine (few13_at _ B w4 HH5.out.2.2.2.2.1 (by omega)).mono ?_
    rw [decide_eq_false hfew2]
    rintro e w6 ⟨rfl, hb6⟩
    have HH7 := Lib.hid (And.intro (HH5.out.1.trans (hb6.mono HH5.out.1.size)) (And.intro (tbox_below HH5.out.2.1 hb6) (And.intro (Has.below HH5.out.2.2.1 hb6) (And.intro (tbox_below HH5.out.2.2.2.1 hb6) (And.intro (Has.below HH5.out.2.2.2.2.1 hb6) (And.intro (tbox_below HH5.out.2.2.2.2.2.1 hb6) (Has.below HH5.out.2.2.2.2.2.2 hb6)))))))
    clear HH5 hb6
    clear y20 y21 y22 y23
    clear hfew2
    go_wp2_with fail
    go_ret
    exact ⟨rfl, HH7.out.1⟩
  go_wp2_with fail
  refine (few13_at _ B w4 HH5.out.2.2.2.2.1 (by omega)).mono ?_
  rw [decide_eq_true hfew2]
  rintro e w6 ⟨rfl, hb6⟩
  have HH7 := Lib.hid (And.intro (HH5.out.1.trans (hb6.mono HH5.out.1.size)) (And.intro (tbox_below HH5.out.2.1 hb6) (And.intro (Has.below HH5.out.2.2.1 hb6) (And.intro (tbox_below HH5.out.2.2.2.1 hb6) (And.intro (Has.below HH5.out.2.2.2.2.1 hb6) (And.intro (tbox_below HH5.out.2.2.2.2.2.1 hb6) (Has.below HH5.out.2.2.2.2.2.2 hb6)))))))
  clear HH5 hb6
  clear y20 y21 y22 y23
  obtain ⟨y30, y31, y32, y33⟩ := tbox_cells HH7.out.2.2.2.2.2.1
  by_cases hfew3 : C.size ≤ 300
  case neg =>
    go_wp2_with fail
    refine (few13_at _ C w6 HH7.out.2.2.2.2.2.2 (by omega)).mono ?_
    rw [decide_eq_false hfew3]
    rintro e w8 ⟨rfl, hb8⟩
    have HH9 := Lib.hid (And.intro (HH7.out.1.trans (hb8.mono HH7.out.1.size)) (And.intro (tbox_below HH7.out.2.1 hb8) (And.intro (Has.below HH7.out.2.2.1 hb8) (And.intro (tbox_below HH7.out.2.2.2.1 hb8) (And.intro (Has.below HH7.out.2.2.2.2.1 hb8) (And.intro (tbox_below HH7.out.2.2.2.2.2.1 hb8) (Has.below HH7.out.2.2.2.2.2.2 hb8)))))))
    clear HH7 hb8
    clear y30 y31 y32 y33
    clear hfew3
    go_wp2_with fail
    go_ret
    exact ⟨rfl, HH9.out.1⟩
  go_wp2_with fail
  refine (few13_at _ C w6 HH7.out.2.2.2.2.2.2 (by omega)).mono ?_
  rw [decide_eq_true hfew3]
  rintro e w8 ⟨rfl, hb8⟩
  have HH9 := Lib.hid (And.intro (HH7.out.1.trans (hb8.mono HH7.out.1.size)) (And.intro (tbox_below HH7.out.2.1 hb8) (And.intro (Has.below HH7.out.2.2.1 hb8) (And.intro (tbox_below HH7.out.2.2.2.1 hb8) (And.intro (Has.below HH7.out.2.2.2.2.1 hb8) (And.intro (tbox_below HH7.out.2.2.2.2.2.1 hb8) (Has.below HH7.out.2.2.2.2.2.2 hb8)))))))
  clear HH7 hb8
  clear y30 y31 y32 y33
  have HZ := Lib.hid (And.intro hfew1 (And.intro hfew2 hfew3))
  clear hfew1 hfew2 hfew3 sA sB sC
  obtain ⟨y10, y11, y12, y13⟩ := tbox_cells HH9.out.2.1
  obtain ⟨y20, y21, y22, y23⟩ := tbox_cells HH9.out.2.2.2.1
  go_wp2_with fail
  refine (cvariant_at _ _ A B w8 HH9.out.2.2.1 HH9.out.2.2.2.2.1 (by have := HZ.out.1; omega) (by have := HZ.out.2.1; omega)).mono ?_
  rintro e w10 ⟨rfl, hb10⟩
  have HH11 := Lib.hid (And.intro (HH9.out.1.trans (hb10.mono HH9.out.1.size)) (And.intro (tbox_below HH9.out.2.1 hb10) (And.intro (Has.below HH9.out.2.2.1 hb10) (And.intro (tbox_below HH9.out.2.2.2.1 hb10) (And.intro (Has.below HH9.out.2.2.2.2.1 hb10) (And.intro (tbox_below HH9.out.2.2.2.2.2.1 hb10) (Has.below HH9.out.2.2.2.2.2.2 hb10)))))))
  clear HH9 hb10
  clear y10 y11 y12 y13
  clear y20 y21 y22 y23
  obtain ⟨y20, y21, y22, y23⟩ := tbox_cells HH11.out.2.2.2.1
  obtain ⟨y30, y31, y32, y33⟩ := tbox_cells HH11.out.2.2.2.2.2.1
  go_wp2_with fail
  refine (cvariant_at _ _ B C w10 HH11.out.2.2.2.2.1 HH11.out.2.2.2.2.2.2 (by have := HZ.out.2.1; omega) (by have := HZ.out.2.2; omega)).mono ?_
  rintro e w12 ⟨rfl, hb12⟩
  have HH13 := Lib.hid (And.intro (HH11.out.1.trans (hb12.mono HH11.out.1.size)) (And.intro (tbox_below HH11.out.2.1 hb12) (And.intro (Has.below HH11.out.2.2.1 hb12) (And.intro (tbox_below HH11.out.2.2.2.1 hb12) (And.intro (Has.below HH11.out.2.2.2.2.1 hb12) (And.intro (tbox_below HH11.out.2.2.2.2.2.1 hb12) (Has.below HH11.out.2.2.2.2.2.2 hb12)))))))
  clear HH11 hb12
  clear y20 y21 y22 y23
  clear y30 y31 y32 y33
  obtain ⟨y10, y11, y12, y13⟩ := tbox_cells HH13.out.2.1
  obtain ⟨ck, hckk⟩ : ∃ ck, A.check 16 = ck := ⟨_, rfl⟩
  go_wp2_with fail
  refine (check_at _ A 16 w12 HH13.out.2.2.1 (by have := HZ.out.1; omega)).mono ?_
  rw [hckk]
  rintro e w14 ⟨rfl, hb14⟩
  have HH15 := Lib.hid (And.intro (HH13.out.1.trans (hb14.mono HH13.out.1.size)) (And.intro (tbox_below HH13.out.2.1 hb14) (And.intro (Has.below HH13.out.2.2.1 hb14) (And.intro (tbox_below HH13.out.2.2.2.1 hb14) (And.intro (Has.below HH13.out.2.2.2.2.1 hb14) (And.intro (tbox_below HH13.out.2.2.2.2.2.1 hb14) (Has.below HH13.out.2.2.2.2.2.2 hb14)))))))
  clear HH13 hb14
  clear y10 y11 y12 y13
  clear hckk
  have hok := vars_ok HH15.out.2.2.1
  have hsh : (A.shift by_).norm = A.norm := norm_shift by_ hok
  have hba : decide (B.norm = A.norm) = decide (A.norm = B.norm) := by rw [decide_eq_decide]; exact eq_comm
  have hac : A.norm = B.norm → B.norm = C.norm → A.norm = C.norm := fun h g => h.trans g
  obtain ⟨x, hx⟩ : ∃ x, x = decide (A.norm = B.norm) := ⟨_, rfl⟩
  obtain ⟨y, hy⟩ : ∃ y, y = decide (B.norm = C.norm) := ⟨_, rfl⟩
  obtain ⟨z, hz⟩ : ∃ z, z = decide (A.norm = C.norm) := ⟨_, rfl⟩
  have hxz : x = true → y = true → z = true := fun h g => by rw [hx] at h; rw [hy] at g; rw [hz]; exact decide_eq_true (hac (of_decide_eq_true h) (of_decide_eq_true g))
  rw [← hx, ← hy]
  have HG := Lib.hid (And.intro hsh (And.intro (hba.trans hx.symm) hz))
  clear hok hsh hba hac hx hy hz
  go_upto_region 7 with fail
  have hby := HBY.out.1
  have hby2 := HBY.out.2
  have hcv : IntKind.i64.wrap by_ = by_ := by rw [IntKind.wrap_i64]; omega
  have HS : ∀ w' : World, Below w14.heap.size w14 w' → ((w'.cell? ⟨w.heap.size, 0, none⟩ = some (.int .i64 k1)) ∧ (w'.cell? ⟨w.heap.size, 1, none⟩ = some (.int .i64 n1)) ∧ (w'.cell? ⟨w.heap.size, 2, none⟩ = some (.string s1)) ∧ (w'.cell? ⟨w.heap.size, 3, none⟩ = some (.slice a1 l1 c1)) ∧ (w'.cell? ⟨w.heap.size + 1, 0, none⟩ = some (.int .i64 k2)) ∧ (w'.cell? ⟨w.heap.size + 1, 1, none⟩ = some (.int .i64 n2)) ∧ (w'.cell? ⟨w.heap.size + 1, 2, none⟩ = some (.string s2)) ∧ (w'.cell? ⟨w.heap.size + 1, 3, none⟩ = some (.slice a2 l2 c2)) ∧ (w'.cell? ⟨w.heap.size + 1 + 1, 0, none⟩ = some (.int .i64 k3)) ∧ (w'.cell? ⟨w.heap.size + 1 + 1, 1, none⟩ = some (.int .i64 n3)) ∧ (w'.cell? ⟨w.heap.size + 1 + 1, 2, none⟩ = some (.string s3)) ∧ (w'.cell? ⟨w.heap.size + 1 + 1, 3, none⟩ = some (.slice a3 l3 c3))) := fun w' hb => by
    obtain ⟨p0, p1, p2, p3⟩ := tbox_cells (tbox_below HH15.out.2.1 hb)
    obtain ⟨q0, q1, q2, q3⟩ := tbox_cells (tbox_below HH15.out.2.2.2.1 hb)
    obtain ⟨r0, r1, r2, r3⟩ := tbox_cells (tbox_below HH15.out.2.2.2.2.2.1 hb)
    exact ⟨p0, p1, p2, p3, q0, q1, q2, q3, r0, r1, r2, r3⟩
  cases x with
  | false =>
    clear hxz
    by_cases hc0 : ck = 0
    · subst hc0
      refine wp_region_last (S := (fun w' : World => (w'.cell? ⟨w.heap.size, 0, none⟩ = some (.int .i64 k1)) ∧ (w'.cell? ⟨w.heap.size, 1, none⟩ = some (.int .i64 n1)) ∧ (w'.cell? ⟨w.heap.size, 2, none⟩ = some (.string s1)) ∧ (w'.cell? ⟨w.heap.size, 3, none⟩ = some (.slice a1 l1 c1)) ∧ (w'.cell? ⟨w.heap.size + 1, 0, none⟩ = some (.int .i64 k2)) ∧ (w'.cell? ⟨w.heap.size + 1, 1, none⟩ = some (.int .i64 n2)) ∧ (w'.cell? ⟨w.heap.size + 1, 2, none⟩ = some (.string s2)) ∧ (w'.cell? ⟨w.heap.size + 1, 3, none⟩ = some (.slice a2 l2 c2)) ∧ (w'.cell? ⟨w.heap.size + 1 + 1, 0, none⟩ = some (.int .i64 k3)) ∧ (w'.cell? ⟨w.heap.size + 1 + 1, 1, none⟩ = some (.int .i64 n3)) ∧ (w'.cell? ⟨w.heap.size + 1 + 1, 2, none⟩ = some (.string s3)) ∧ (w'.cell? ⟨w.heap.size + 1 + 1, 3, none⟩ = some (.slice a3 l3 c3)))) 38 rfl (by kernel_rfl) (HS _ (Below.refl _ _).drew) fun hHeld => ?_
      simp only [List.take_succ_cons, List.take_zero]
      have hE0 : Below w14.heap.size w14 w14.drew := (Below.refl _ _).drew
      refine wpAnyH_take (i := 0) (v := ?_) rfl (by kernel_rfl) (by kernel_rfl) (by kernel_rfl) (fun _ _ _ h => h) (Or.inl ⟨by kernel_rfl, ?_⟩) hHeld ?_
      rotate_left
      · intro w0 hSw
        (try dsimp only at hSw)
        go_simp
        try (with_reducible rfl)
      try simp only [Act.put, List.setIfInBounds_toArray, List.set_cons_zero, List.set_cons_succ]
      refine wpAnyH_take (i := 1) (v := ?_) rfl (by kernel_rfl) (by kernel_rfl) (by kernel_rfl) (fun _ _ _ h => h) (Or.inl ⟨by kernel_rfl, ?_⟩) hHeld ?_
      rotate_left
      · intro w0 hSw
        (try dsimp only at hSw)
        go_simp
        try (with_reducible rfl)
      try simp only [Act.put, List.setIfInBounds_toArray, List.set_cons_zero, List.set_cons_succ]
      refine wpAnyH_take (i := 2) (v := ?_) rfl (by kernel_rfl) (by kernel_rfl) (by kernel_rfl) (fun _ _ _ h => h) (Or.inl ⟨by kernel_rfl, ?_⟩) hHeld ?_
      rotate_left
      · intro w0 hSw
        (try dsimp only at hSw)
        go_simp
        try (with_reducible rfl)
      try simp only [Act.put, List.setIfInBounds_toArray, List.set_cons_zero, List.set_cons_succ]
      refine wpAnyH_take (i := 3) (v := ?_) rfl (by kernel_rfl) (by kernel_rfl) (by kernel_rfl) (fun _ _ _ h => h) (Or.inl ⟨by kernel_rfl, ?_⟩) hHeld ?_
      rotate_left
      · intro w0 hSw
        (try dsimp only at hSw)
        go_simp
        try (with_reducible rfl)
      try simp only [Act.put, List.setIfInBounds_toArray, List.set_cons_zero, List.set_cons_succ]
      refine wpAnyH_take (i := 4) (v := ?_) rfl (by kernel_rfl) (by kernel_rfl) (by kernel_rfl) (fun _ _ _ h => h) (Or.inl ⟨by kernel_rfl, ?_⟩) hHeld ?_
      rotate_left
      · intro w0 hSw
        (try dsimp only at hSw)
        go_simp
        try (with_reducible rfl)
      try simp only [Act.put, List.setIfInBounds_toArray, List.set_cons_zero, List.set_cons_succ]
      generalize w14.drew = wD at hHeld hE0 ⊢
      refine wpAnyH_ready (rs := [5]) (by kernel_rfl) (by simp) ?_
      refine AllReadyH.cons rfl (fun K hK => ?_) AllReadyH.nil
      go_simp
      refine (cvariant_at _ _ B A wD (Has.below HH15.out.2.2.2.2.1 hE0) (Has.below HH15.out.2.2.1 hE0) (by have := HZ.out.2.1; omega) (by have := HZ.out.1; omega)).mono ?_
      rintro e W101 ⟨he, hb101⟩
      obtain rfl : e = .returned (.bool false) := he.trans (by rw [HG.out.2.1])
      clear he
      go_wp2_with fail
      have hE101 : Below w14.heap.size w14 W101 := hE0.trans (hb101.mono hE0.size)
      refine hK.out _ _ (HS _ hE101) (fun hh102 => ?_)
      clear hK K
      try simp only [Act.put, List.setIfInBounds_toArray, List.set_cons_zero, List.set_cons_succ]
      refine wpAnyH_take (i := 6) (v := ?_) rfl (by kernel_rfl) (by kernel_rfl) (by kernel_rfl) (fun _ _ _ h => h) (Or.inl ⟨by kernel_rfl, ?_⟩) hh102 ?_
      rotate_left
      · intro w0 hSw
        (try dsimp only at hSw)
        go_simp
        try (with_reducible rfl)
      try simp only [Act.put, List.setIfInBounds_toArray, List.set_cons_zero, List.set_cons_succ]
      refine wpAnyH_take (i := 7) (v := ?_) rfl (by kernel_rfl) (by kernel_rfl) (by kernel_rfl) (fun _ _ _ h => h) (Or.inl ⟨by kernel_rfl, ?_⟩) hh102 ?_
      rotate_left
      · intro w0 hSw
        (try dsimp only at hSw)
        go_simp
        try (with_reducible rfl)
      try simp only [Act.put, List.setIfInBounds_toArray, List.set_cons_zero, List.set_cons_succ]
      refine wpAnyH_take (i := 8) (v := ?_) rfl (by kernel_rfl) (by kernel_rfl) (by kernel_rfl) (fun _ _ _ h => h) (Or.inl ⟨by kernel_rfl, ?_⟩) hh102 ?_
      rotate_left
      · intro w0 hSw
        (try dsimp only at hSw)
        go_simp
        try (with_reducible rfl)
      try simp only [Act.put, List.setIfInBounds_toArray, List.set_cons_zero, List.set_cons_succ]
      refine wpAnyH_take (i := 9) (v := ?_) rfl (by kernel_rfl) (by kernel_rfl) (by kernel_rfl) (fun _ _ _ h => h) (Or.inl ⟨by kernel_rfl, ?_⟩) hh102 ?_
      rotate_left
      · intro w0 hSw
        (try dsimp only at hSw)
        go_simp
        try (with_reducible rfl)
      try simp only [Act.put, List.setIfInBounds_toArray, List.set_cons_zero, List.set_cons_succ]
      refine wpAnyH_take (i := 10) (v := ?_) rfl (by kernel_rfl) (by kernel_rfl) (by kernel_rfl) (fun _ _ _ h => h) (Or.inl ⟨by kernel_rfl, ?_⟩) hh102 ?_
      rotate_left
      · intro w0 hSw
        (try dsimp only at hSw)
        go_simp
        try (with_reducible rfl)
      try simp only [Act.put, List.setIfInBounds_toArray, List.set_cons_zero, List.set_cons_succ]
      refine wpAnyH_take (i := 11) (v := ?_) rfl (by kernel_rfl) (by kernel_rfl) (by kernel_rfl) (fun _ _ _ h => h) (Or.inl ⟨by kernel_rfl, ?_⟩) hh102 ?_
      rotate_left
      · intro w0 hSw
        (try dsimp only at hSw)
        go_simp
        try (with_reducible rfl)
      try simp only [Act.put, List.setIfInBounds_toArray, List.set_cons_zero, List.set_cons_succ]
      refine wpAnyH_take (i := 12) (v := undef) rfl (by kernel_rfl) (by kernel_rfl) (by kernel_rfl) (fun _ _ _ h => h) (Or.inr ⟨by kernel_rfl, rfl⟩) hh102 ?_
      try simp only [Act.put, List.setIfInBounds_toArray, List.set_cons_zero, List.set_cons_succ]
      refine wpAnyH_take (i := 13) (v := undef) rfl (by kernel_rfl) (by kernel_rfl) (by kernel_rfl) (fun _ _ _ h => h) (Or.inr ⟨by kernel_rfl, rfl⟩) hh102 ?_
      try simp only [Act.put, List.setIfInBounds_toArray, List.set_cons_zero, List.set_cons_succ]
      refine wpAnyH_take (i := 14) (v := ?_) rfl (by kernel_rfl) (by kernel_rfl) (by kernel_rfl) (fun _ _ _ h => h) (Or.inl ⟨by kernel_rfl, ?_⟩) hh102 ?_
      rotate_left
      · intro w0 hSw
        (try dsimp only at hSw)
        go_simp
        try (with_reducible rfl)
      try simp only [Act.put, List.setIfInBounds_toArray, List.set_cons_zero, List.set_cons_succ]
      refine wpAnyH_take (i := 15) (v := ?_) rfl (by kernel_rfl) (by kernel_rfl) (by kernel_rfl) (fun _ _ _ h => h) (Or.inl ⟨by kernel_rfl, ?_⟩) hh102 ?_
      rotate_left
      · intro w0 hSw
        (try dsimp only at hSw)
        go_simp
        try (with_reducible rfl)
      try simp only [Act.put, List.setIfInBounds_toArray, List.set_cons_zero, List.set_cons_succ]
      refine wpAnyH_take (i := 16) (v := undef) rfl (by kernel_rfl) (by kernel_rfl) (by kernel_rfl) (fun _ _ _ h => h) (Or.inr ⟨by kernel_rfl, rfl⟩) hh102 ?_
      try simp only [Act.put, List.setIfInBounds_toArray, List.set_cons_zero, List.set_cons_succ]
      refine wpAnyH_take (i := 17) (v := undef) rfl (by kernel_rfl) (by kernel_rfl) (by kernel_rfl) (fun _ _ _ h => h) (Or.inr ⟨by kernel_rfl, rfl⟩) hh102 ?_
      try simp only [Act.put, List.setIfInBounds_toArray, List.set_cons_zero, List.set_cons_succ]
      refine wpAnyH_take (i := 18) (v := undef) rfl (by kernel_rfl) (by kernel_rfl) (by kernel_rfl) (fun _ _ _ h => h) (Or.inr ⟨by kernel_rfl, rfl⟩) hh102 ?_
      try simp only [Act.put, List.setIfInBounds_toArray, List.set_cons_zero, List.set_cons_succ]
      refine wpAnyH_take (i := 19) (v := ?_) rfl (by kernel_rfl) (by kernel_rfl) (by kernel_rfl) (fun _ _ _ h => h) (Or.inl ⟨by kernel_rfl, ?_⟩) hh102 ?_
      rotate_left
      · intro w0 hSw
        (try dsimp only at hSw)
        go_simp
        try (with_reducible rfl)
      try simp only [Act.put, List.setIfInBounds_toArray, List.set_cons_zero, List.set_cons_succ]
      refine wpAnyH_take (i := 20) (v := ?_) rfl (by kernel_rfl) (by kernel_rfl) (by kernel_rfl) (fun _ _ _ h => h) (Or.inl ⟨by kernel_rfl, ?_⟩) hh102 ?_
      rotate_left
      · intro w0 hSw
        (try dsimp only at hSw)
        go_simp
        try (with_reducible rfl)
      try simp only [Act.put, List.setIfInBounds_toArray, List.set_cons_zero, List.set_cons_succ]
      refine wpAnyH_take (i := 21) (v := ?_) rfl (by kernel_rfl) (by kernel_rfl) (by kernel_rfl) (fun _ _ _ h => h) (Or.inl ⟨by kernel_rfl, ?_⟩) hh102 ?_
      rotate_left
      · intro w0 hSw
        (try dsimp only at hSw)
        go_simp
        try (with_reducible rfl)
      try simp only [Act.put, List.setIfInBounds_toArray, List.set_cons_zero, List.set_cons_succ]
      refine wpAnyH_take (i := 22) (v := ?_) rfl (by kernel_rfl) (by kernel_rfl) (by kernel_rfl) (fun _ _ _ h => h) (Or.inl ⟨by kernel_rfl, ?_⟩) hh102 ?_
      rotate_left
      · intro w0 hSw
        (try dsimp only at hSw)
        go_simp
        try (with_reducible rfl)
      try simp only [Act.put, List.setIfInBounds_toArray, List.set_cons_zero, List.set_cons_succ]
      refine wpAnyH_take (i := 23) (v := ?_) rfl (by kernel_rfl) (by kernel_rfl) (by kernel_rfl) (fun _ _ _ h => h) (Or.inl ⟨by kernel_rfl, ?_⟩) hh102 ?_
      rotate_left
      · intro w0 hSw
        (try dsimp only at hSw)
        go_simp
        try (with_reducible rfl)
      try simp only [Act.put, List.setIfInBounds_toArray, List.set_cons_zero, List.set_cons_succ]
      refine wpAnyH_ready (rs := [24]) (by kernel_rfl) (by simp) ?_
      refine AllReadyH.cons rfl (fun K hK => ?_) AllReadyH.nil
      go_simp
      refine (cvariant_at _ _ A A W101 (Has.below HH15.out.2.2.1 hE101) (Has.below HH15.out.2.2.1 hE101) (by have := HZ.out.1; omega) (by have := HZ.out.1; omega)).mono ?_
      rintro e W103 ⟨he, hb103⟩
      obtain rfl : e = .returned (.bool true) := he.trans (by rw [decide_eq_true rfl])
      clear he
      go_wp2_with fail
      have hE103 : Below w14.heap.size w14 W103 := hE101.trans (hb103.mono hE101.size)
      refine hK.out _ _ (HS _ hE103) (fun hh104 => ?_)
      clear hK K
      try simp only [Act.put, List.setIfInBounds_toArray, List.set_cons_zero, List.set_cons_succ]
      refine wpAnyH_take (i := 25) (v := ?_) rfl (by kernel_rfl) (by kernel_rfl) (by kernel_rfl) (fun _ _ _ h => h) (Or.inl ⟨by kernel_rfl, ?_⟩) hh104 ?_
      rotate_left
      · intro w0 hSw
        (try dsimp only at hSw)
        go_simp
        try (with_reducible rfl)
      try simp only [Act.put, List.setIfInBounds_toArray, List.set_cons_zero, List.set_cons_succ]
      refine wpAnyH_take (i := 26) (v := ?_) rfl (by kernel_rfl) (by kernel_rfl) (by kernel_rfl) (fun _ _ _ h => h) (Or.inl ⟨by kernel_rfl, ?_⟩) hh104 ?_
      rotate_left
      · intro w0 hSw
        (try dsimp only at hSw)
        go_simp
        try (with_reducible rfl)
      try simp only [Act.put, List.setIfInBounds_toArray, List.set_cons_zero, List.set_cons_succ]
      refine wpAnyH_take (i := 27) (v := ?_) rfl (by kernel_rfl) (by kernel_rfl) (by kernel_rfl) (fun _ _ _ h => h) (Or.inl ⟨by kernel_rfl, ?_⟩) hh104 ?_
      rotate_left
      · intro w0 hSw
        (try dsimp only at hSw)
        go_simp
        try (with_reducible rfl)
      try simp only [Act.put, List.setIfInBounds_toArray, List.set_cons_zero, List.set_cons_succ]
      refine wpAnyH_take (i := 28) (v := ?_) rfl (by kernel_rfl) (by kernel_rfl) (by kernel_rfl) (fun _ _ _ h => h) (Or.inl ⟨by kernel_rfl, ?_⟩) hh104 ?_
      rotate_left
      · intro w0 hSw
        (try dsimp only at hSw)
        go_simp
        try (with_reducible rfl)
      try simp only [Act.put, List.setIfInBounds_toArray, List.set_cons_zero, List.set_cons_succ]
      refine wpAnyH_take (i := 29) (v := ?_) rfl (by kernel_rfl) (by kernel_rfl) (by kernel_rfl) (fun _ _ _ h => h) (Or.inl ⟨by kernel_rfl, ?_⟩) hh104 ?_
      rotate_left
      · intro w0 hSw
        (try dsimp only at hSw)
        go_simp
        try (with_reducible rfl)
      try simp only [Act.put, List.setIfInBounds_toArray, List.set_cons_zero, List.set_cons_succ]
      refine wpAnyH_take (i := 30) (v := ?_) rfl (by kernel_rfl) (by kernel_rfl) (by kernel_rfl) (fun _ _ _ h => h) (Or.inl ⟨by kernel_rfl, ?_⟩) hh104 ?_
      rotate_left
      · intro w0 hSw
        (try dsimp only at hSw)
        go_simp
        try (with_reducible rfl)
      try simp only [Act.put, List.setIfInBounds_toArray, List.set_cons_zero, List.set_cons_succ]
      refine wpAnyH_take (i := 31) (v := ?_) rfl (by kernel_rfl) (by kernel_rfl) (by kernel_rfl) (fun _ _ _ h => h) (Or.inl ⟨by kernel_rfl, ?_⟩) hh104 ?_
      rotate_left
      · intro w0 hSw
        (try dsimp only at hSw)
        go_simp
        try (with_reducible rfl)
      try simp only [Act.put, List.setIfInBounds_toArray, List.set_cons_zero, List.set_cons_succ]
      refine wpAnyH_take (i := 32) (v := ?_) rfl (by kernel_rfl) (by kernel_rfl) (by kernel_rfl) (fun _ _ _ h => h) (Or.inl ⟨by kernel_rfl, ?_⟩) hh104 ?_
      rotate_left
      · intro w0 hSw
        (try dsimp only at hSw)
        go_simp
        try (with_reducible rfl)
      try simp only [Act.put, List.setIfInBounds_toArray, List.set_cons_zero, List.set_cons_succ]
      refine wpAnyH_take (i := 33) (v := ?_) rfl (by kernel_rfl) (by kernel_rfl) (by kernel_rfl) (fun _ _ _ h => h) (Or.inl ⟨by kernel_rfl, ?_⟩) hh104 ?_
      rotate_left
      · intro w0 hSw
        (try dsimp only at hSw)
        go_simp
        try (with_reducible rfl)
      try simp only [Act.put, List.setIfInBounds_toArray, List.set_cons_zero, List.set_cons_succ]
      refine wpAnyH_ready (rs := [34]) (by kernel_rfl) (by simp) ?_
      refine AllReadyH.cons rfl (fun K hK => ?_) AllReadyH.nil
      go_simp
      refine (shift_at by_ A _ W103 (Has.below HH15.out.2.2.1 hE103) (by have := HZ.out.1; omega)).mono ?_
      intro e W105 hh_
      obtain ⟨kg, ng, sg, ag, lg, cg, rfl, hNg, hb105⟩ := hh_.has13
      have hTg := has_new13 hNg
      go_wp2_with fail
      have hE105 : Below w14.heap.size w14 W105 := hE103.trans (hb105.mono hE103.size)
      refine hK.out _ _ (HS _ hE105) (fun hh106 => ?_)
      clear hK K
      try simp only [Act.put, List.setIfInBounds_toArray, List.set_cons_zero, List.set_cons_succ]
      refine wpAnyH_ready (rs := [35]) (by kernel_rfl) (by simp) ?_
      refine AllReadyH.cons rfl (fun K hK => ?_) AllReadyH.nil
      go_simp
      refine (cvariant_at _ _ A (A.shift by_) W105 (Has.below HH15.out.2.2.1 hE105) (hTg) (by have := HZ.out.1; omega) (by rw [Tm.size_shift]; have := HZ.out.1; omega)).mono ?_
      rintro e W107 ⟨he, hb107⟩
      obtain rfl : e = .returned (.bool true) := he.trans (by rw [decide_eq_true HG.out.1.symm])
      clear he
      go_wp2_with fail
      have hE107 : Below w14.heap.size w14 W107 := hE105.trans (hb107.mono hE105.size)
      refine hK.out _ _ (HS _ hE107) (fun hh108 => ?_)
      clear hK K
      try simp only [Act.put, List.setIfInBounds_toArray, List.set_cons_zero, List.set_cons_succ]
      refine wpAnyH_take (i := 36) (v := ?_) rfl (by kernel_rfl) (by kernel_rfl) (by kernel_rfl) (fun _ _ _ h => h) (Or.inl ⟨by kernel_rfl, ?_⟩) hh108 ?_
      rotate_left
      · intro w0 hSw
        (try dsimp only at hSw)
        go_simp
        try (with_reducible rfl)
      try simp only [Act.put, List.setIfInBounds_toArray, List.set_cons_zero, List.set_cons_succ]
      refine wpAnyH_take (i := 37) (v := ?_) rfl (by kernel_rfl) (by kernel_rfl) (by kernel_rfl) (fun _ _ _ h => h) (Or.inl ⟨by kernel_rfl, ?_⟩) hh108 ?_
      rotate_left
      · intro w0 hSw
        (try dsimp only at hSw)
        go_simp
        try (with_reducible rfl)
      try simp only [Act.put, List.setIfInBounds_toArray, List.set_cons_zero, List.set_cons_succ]
      refine wpAnyH_done (by kernel_rfl) ?_ _
      refine last_of_list rfl ?_
      go_wp2_with fail
      go_ret
      exact ⟨rfl, HH15.out.1.trans (hE107.mono HH15.out.1.size)⟩
    · have hck1 : (ck == 0) = false := by simpa using hc0
      have hck2 : ¬ (ck = 0) := hc0
      clear hc0
      refine wp_region_last (S := (fun w' : World => (w'.cell? ⟨w.heap.size, 0, none⟩ = some (.int .i64 k1)) ∧ (w'.cell? ⟨w.heap.size, 1, none⟩ = some (.int .i64 n1)) ∧ (w'.cell? ⟨w.heap.size, 2, none⟩ = some (.string s1)) ∧ (w'.cell? ⟨w.heap.size, 3, none⟩ = some (.slice a1 l1 c1)) ∧ (w'.cell? ⟨w.heap.size + 1, 0, none⟩ = some (.int .i64 k2)) ∧ (w'.cell? ⟨w.heap.size + 1, 1, none⟩ = some (.int .i64 n2)) ∧ (w'.cell? ⟨w.heap.size + 1, 2, none⟩ = some (.string s2)) ∧ (w'.cell? ⟨w.heap.size + 1, 3, none⟩ = some (.slice a2 l2 c2)) ∧ (w'.cell? ⟨w.heap.size + 1 + 1, 0, none⟩ = some (.int .i64 k3)) ∧ (w'.cell? ⟨w.heap.size + 1 + 1, 1, none⟩ = some (.int .i64 n3)) ∧ (w'.cell? ⟨w.heap.size + 1 + 1, 2, none⟩ = some (.string s3)) ∧ (w'.cell? ⟨w.heap.size + 1 + 1, 3, none⟩ = some (.slice a3 l3 c3)))) 38 rfl (by kernel_rfl) (HS _ (Below.refl _ _).drew) fun hHeld => ?_
      simp only [List.take_succ_cons, List.take_zero]
      have hE0 : Below w14.heap.size w14 w14.drew := (Below.refl _ _).drew
      refine wpAnyH_take (i := 0) (v := ?_) rfl (by kernel_rfl) (by kernel_rfl) (by kernel_rfl) (fun _ _ _ h => h) (Or.inl ⟨by kernel_rfl, ?_⟩) hHeld ?_
      rotate_left
      · intro w0 hSw
        (try dsimp only at hSw)
        go_simp
        try (with_reducible rfl)
      try simp only [Act.put, List.setIfInBounds_toArray, List.set_cons_zero, List.set_cons_succ]
      refine wpAnyH_take (i := 1) (v := ?_) rfl (by kernel_rfl) (by kernel_rfl) (by kernel_rfl) (fun _ _ _ h => h) (Or.inl ⟨by kernel_rfl, ?_⟩) hHeld ?_
      rotate_left
      · intro w0 hSw
        (try dsimp only at hSw)
        go_simp
        try (with_reducible rfl)
      try simp only [Act.put, List.setIfInBounds_toArray, List.set_cons_zero, List.set_cons_succ]
      refine wpAnyH_take (i := 2) (v := ?_) rfl (by kernel_rfl) (by kernel_rfl) (by kernel_rfl) (fun _ _ _ h => h) (Or.inl ⟨by kernel_rfl, ?_⟩) hHeld ?_
      rotate_left
      · intro w0 hSw
        (try dsimp only at hSw)
        go_simp
        try (with_reducible rfl)
      try simp only [Act.put, List.setIfInBounds_toArray, List.set_cons_zero, List.set_cons_succ]
      refine wpAnyH_take (i := 3) (v := ?_) rfl (by kernel_rfl) (by kernel_rfl) (by kernel_rfl) (fun _ _ _ h => h) (Or.inl ⟨by kernel_rfl, ?_⟩) hHeld ?_
      rotate_left
      · intro w0 hSw
        (try dsimp only at hSw)
        go_simp
        try (with_reducible rfl)
      try simp only [Act.put, List.setIfInBounds_toArray, List.set_cons_zero, List.set_cons_succ]
      refine wpAnyH_take (i := 4) (v := ?_) rfl (by kernel_rfl) (by kernel_rfl) (by kernel_rfl) (fun _ _ _ h => h) (Or.inl ⟨by kernel_rfl, ?_⟩) hHeld ?_
      rotate_left
      · intro w0 hSw
        (try dsimp only at hSw)
        go_simp
        try (with_reducible rfl)
      try simp only [Act.put, List.setIfInBounds_toArray, List.set_cons_zero, List.set_cons_succ]
      generalize w14.drew = wD at hHeld hE0 ⊢
      refine wpAnyH_ready (rs := [5]) (by kernel_rfl) (by simp) ?_
      refine AllReadyH.cons rfl (fun K hK => ?_) AllReadyH.nil
      go_simp
      refine (cvariant_at _ _ B A wD (Has.below HH15.out.2.2.2.2.1 hE0) (Has.below HH15.out.2.2.1 hE0) (by have := HZ.out.2.1; omega) (by have := HZ.out.1; omega)).mono ?_
      rintro e W101 ⟨he, hb101⟩
      obtain rfl : e = .returned (.bool false) := he.trans (by rw [HG.out.2.1])
      clear he
      go_wp2_with fail
      have hE101 : Below w14.heap.size w14 W101 := hE0.trans (hb101.mono hE0.size)
      refine hK.out _ _ (HS _ hE101) (fun hh102 => ?_)
      clear hK K
      try simp only [Act.put, List.setIfInBounds_toArray, List.set_cons_zero, List.set_cons_succ]
      refine wpAnyH_take (i := 6) (v := ?_) rfl (by kernel_rfl) (by kernel_rfl) (by kernel_rfl) (fun _ _ _ h => h) (Or.inl ⟨by kernel_rfl, ?_⟩) hh102 ?_
      rotate_left
      · intro w0 hSw
        (try dsimp only at hSw)
        go_simp
        try (with_reducible rfl)
      try simp only [Act.put, List.setIfInBounds_toArray, List.set_cons_zero, List.set_cons_succ]
      refine wpAnyH_take (i := 7) (v := ?_) rfl (by kernel_rfl) (by kernel_rfl) (by kernel_rfl) (fun _ _ _ h => h) (Or.inl ⟨by kernel_rfl, ?_⟩) hh102 ?_
      rotate_left
      · intro w0 hSw
        (try dsimp only at hSw)
        go_simp
        try (with_reducible rfl)
      try simp only [Act.put, List.setIfInBounds_toArray, List.set_cons_zero, List.set_cons_succ]
      refine wpAnyH_take (i := 8) (v := ?_) rfl (by kernel_rfl) (by kernel_rfl) (by kernel_rfl) (fun _ _ _ h => h) (Or.inl ⟨by kernel_rfl, ?_⟩) hh102 ?_
      rotate_left
      · intro w0 hSw
        (try dsimp only at hSw)
        go_simp
        try (with_reducible rfl)
      try simp only [Act.put, List.setIfInBounds_toArray, List.set_cons_zero, List.set_cons_succ]
      refine wpAnyH_take (i := 9) (v := ?_) rfl (by kernel_rfl) (by kernel_rfl) (by kernel_rfl) (fun _ _ _ h => h) (Or.inl ⟨by kernel_rfl, ?_⟩) hh102 ?_
      rotate_left
      · intro w0 hSw
        (try dsimp only at hSw)
        go_simp
        try (with_reducible rfl)
      try simp only [Act.put, List.setIfInBounds_toArray, List.set_cons_zero, List.set_cons_succ]
      refine wpAnyH_take (i := 10) (v := ?_) rfl (by kernel_rfl) (by kernel_rfl) (by kernel_rfl) (fun _ _ _ h => h) (Or.inl ⟨by kernel_rfl, ?_⟩) hh102 ?_
      rotate_left
      · intro w0 hSw
        (try dsimp only at hSw)
        go_simp
        try (with_reducible rfl)
      try simp only [Act.put, List.setIfInBounds_toArray, List.set_cons_zero, List.set_cons_succ]
      refine wpAnyH_take (i := 11) (v := ?_) rfl (by kernel_rfl) (by kernel_rfl) (by kernel_rfl) (fun _ _ _ h => h) (Or.inl ⟨by kernel_rfl, ?_⟩) hh102 ?_
      rotate_left
      · intro w0 hSw
        (try dsimp only at hSw)
        go_simp
        try (with_reducible rfl)
      try simp only [Act.put, List.setIfInBounds_toArray, List.set_cons_zero, List.set_cons_succ]
      refine wpAnyH_take (i := 12) (v := undef) rfl (by kernel_rfl) (by kernel_rfl) (by kernel_rfl) (fun _ _ _ h => h) (Or.inr ⟨by kernel_rfl, rfl⟩) hh102 ?_
      try simp only [Act.put, List.setIfInBounds_toArray, List.set_cons_zero, List.set_cons_succ]
      refine wpAnyH_take (i := 13) (v := undef) rfl (by kernel_rfl) (by kernel_rfl) (by kernel_rfl) (fun _ _ _ h => h) (Or.inr ⟨by kernel_rfl, rfl⟩) hh102 ?_
      try simp only [Act.put, List.setIfInBounds_toArray, List.set_cons_zero, List.set_cons_succ]
      refine wpAnyH_take (i := 14) (v := ?_) rfl (by kernel_rfl) (by kernel_rfl) (by kernel_rfl) (fun _ _ _ h => h) (Or.inl ⟨by kernel_rfl, ?_⟩) hh102 ?_
      rotate_left
      · intro w0 hSw
        (try dsimp only at hSw)
        go_simp
        try (with_reducible rfl)
      try simp only [Act.put, List.setIfInBounds_toArray, List.set_cons_zero, List.set_cons_succ]
      refine wpAnyH_take (i := 15) (v := ?_) rfl (by kernel_rfl) (by kernel_rfl) (by kernel_rfl) (fun _ _ _ h => h) (Or.inl ⟨by kernel_rfl, ?_⟩) hh102 ?_
      rotate_left
      · intro w0 hSw
        (try dsimp only at hSw)
        go_simp
        try (with_reducible rfl)
      try simp only [Act.put, List.setIfInBounds_toArray, List.set_cons_zero, List.set_cons_succ]
      refine wpAnyH_take (i := 16) (v := undef) rfl (by kernel_rfl) (by kernel_rfl) (by kernel_rfl) (fun _ _ _ h => h) (Or.inr ⟨by kernel_rfl, rfl⟩) hh102 ?_
      try simp only [Act.put, List.setIfInBounds_toArray, List.set_cons_zero, List.set_cons_succ]
      refine wpAnyH_take (i := 17) (v := undef) rfl (by kernel_rfl) (by kernel_rfl) (by kernel_rfl) (fun _ _ _ h => h) (Or.inr ⟨by kernel_rfl, rfl⟩) hh102 ?_
      try simp only [Act.put, List.setIfInBounds_toArray, List.set_cons_zero, List.set_cons_succ]
      refine wpAnyH_take (i := 18) (v := undef) rfl (by kernel_rfl) (by kernel_rfl) (by kernel_rfl) (fun _ _ _ h => h) (Or.inr ⟨by kernel_rfl, rfl⟩) hh102 ?_
      try simp only [Act.put, List.setIfInBounds_toArray, List.set_cons_zero, List.set_cons_succ]
      refine wpAnyH_take (i := 19) (v := ?_) rfl (by kernel_rfl) (by kernel_rfl) (by kernel_rfl) (fun _ _ _ h => h) (Or.inl ⟨by kernel_rfl, ?_⟩) hh102 ?_
      rotate_left
      · intro w0 hSw
        (try dsimp only at hSw)
        go_simp
        try (with_reducible rfl)
      try simp only [Act.put, List.setIfInBounds_toArray, List.set_cons_zero, List.set_cons_succ]
      refine wpAnyH_take (i := 20) (v := ?_) rfl (by kernel_rfl) (by kernel_rfl) (by kernel_rfl) (fun _ _ _ h => h) (Or.inl ⟨by kernel_rfl, ?_⟩) hh102 ?_
      rotate_left
      · intro w0 hSw
        (try dsimp only at hSw)
        go_simp
        try (with_reducible rfl)
      try simp only [Act.put, List.setIfInBounds_toArray, List.set_cons_zero, List.set_cons_succ]
      refine wpAnyH_take (i := 21) (v := ?_) rfl (by kernel_rfl) (by kernel_rfl) (by kernel_rfl) (fun _ _ _ h => h) (Or.inl ⟨by kernel_rfl, ?_⟩) hh102 ?_
      rotate_left
      · intro w0 hSw
        (try dsimp only at hSw)
        go_simp
        try (with_reducible rfl)
      try simp only [Act.put, List.setIfInBounds_toArray, List.set_cons_zero, List.set_cons_succ]
      refine wpAnyH_take (i := 22) (v := ?_) rfl (by kernel_rfl) (by kernel_rfl) (by kernel_rfl) (fun _ _ _ h => h) (Or.inl ⟨by kernel_rfl, ?_⟩) hh102 ?_
      rotate_left
      · intro w0 hSw
        (try dsimp only at hSw)
        go_simp
        try (with_reducible rfl)
      try simp only [Act.put, List.setIfInBounds_toArray, List.set_cons_zero, List.set_cons_succ]
      refine wpAnyH_take (i := 23) (v := ?_) rfl (by kernel_rfl) (by kernel_rfl) (by kernel_rfl) (fun _ _ _ h => h) (Or.inl ⟨by kernel_rfl, ?_⟩) hh102 ?_
      rotate_left
      · intro w0 hSw
        (try dsimp only at hSw)
        go_simp
        try (with_reducible rfl)
      try simp only [Act.put, List.setIfInBounds_toArray, List.set_cons_zero, List.set_cons_succ]
      refine wpAnyH_ready (rs := [24]) (by kernel_rfl) (by simp) ?_
      refine AllReadyH.cons rfl (fun K hK => ?_) AllReadyH.nil
      go_simp
      refine (cvariant_at _ _ A A W101 (Has.below HH15.out.2.2.1 hE101) (Has.below HH15.out.2.2.1 hE101) (by have := HZ.out.1; omega) (by have := HZ.out.1; omega)).mono ?_
      rintro e W103 ⟨he, hb103⟩
      obtain rfl : e = .returned (.bool true) := he.trans (by rw [decide_eq_true rfl])
      clear he
      go_wp2_with fail
      have hE103 : Below w14.heap.size w14 W103 := hE101.trans (hb103.mono hE101.size)
      refine hK.out _ _ (HS _ hE103) (fun hh104 => ?_)
      clear hK K
      try simp only [Act.put, List.setIfInBounds_toArray, List.set_cons_zero, List.set_cons_succ]
      refine wpAnyH_take (i := 25) (v := ?_) rfl (by kernel_rfl) (by kernel_rfl) (by kernel_rfl) (fun _ _ _ h => h) (Or.inl ⟨by kernel_rfl, ?_⟩) hh104 ?_
      rotate_left
      · intro w0 hSw
        (try dsimp only at hSw)
        go_simp
        try (with_reducible rfl)
      try simp only [Act.put, List.setIfInBounds_toArray, List.set_cons_zero, List.set_cons_succ]
      refine wpAnyH_take (i := 26) (v := ?_) rfl (by kernel_rfl) (by kernel_rfl) (by kernel_rfl) (fun _ _ _ h => h) (Or.inl ⟨by kernel_rfl, ?_⟩) hh104 ?_
      rotate_left
      · intro w0 hSw
        (try dsimp only at hSw)
        go_simp
        try (with_reducible rfl)
      try simp only [Act.put, List.setIfInBounds_toArray, List.set_cons_zero, List.set_cons_succ]
      refine wpAnyH_take (i := 27) (v := ?_) rfl (by kernel_rfl) (by kernel_rfl) (by kernel_rfl) (fun _ _ _ h => h) (Or.inl ⟨by kernel_rfl, ?_⟩) hh104 ?_
      rotate_left
      · intro w0 hSw
        (try dsimp only at hSw)
        go_simp
        try (with_reducible rfl)
      try simp only [Act.put, List.setIfInBounds_toArray, List.set_cons_zero, List.set_cons_succ]
      refine wpAnyH_take (i := 28) (v := ?_) rfl (by kernel_rfl) (by kernel_rfl) (by kernel_rfl) (fun _ _ _ h => h) (Or.inl ⟨by kernel_rfl, ?_⟩) hh104 ?_
      rotate_left
      · intro w0 hSw
        (try dsimp only at hSw)
        go_simp
        try (with_reducible rfl)
      try simp only [Act.put, List.setIfInBounds_toArray, List.set_cons_zero, List.set_cons_succ]
      refine wpAnyH_take (i := 29) (v := ?_) rfl (by kernel_rfl) (by kernel_rfl) (by kernel_rfl) (fun _ _ _ h => h) (Or.inl ⟨by kernel_rfl, ?_⟩) hh104 ?_
      rotate_left
      · intro w0 hSw
        (try dsimp only at hSw)
        go_simp
        try (with_reducible rfl)
      try simp only [Act.put, List.setIfInBounds_toArray, List.set_cons_zero, List.set_cons_succ]
      refine wpAnyH_take (i := 30) (v := undef) rfl (by kernel_rfl) (by kernel_rfl) (by kernel_rfl) (fun _ _ _ h => h) (Or.inr ⟨by kernel_rfl, rfl⟩) hh104 ?_
      try simp only [Act.put, List.setIfInBounds_toArray, List.set_cons_zero, List.set_cons_succ]
      refine wpAnyH_take (i := 31) (v := undef) rfl (by kernel_rfl) (by kernel_rfl) (by kernel_rfl) (fun _ _ _ h => h) (Or.inr ⟨by kernel_rfl, rfl⟩) hh104 ?_
      try simp only [Act.put, List.setIfInBounds_toArray, List.set_cons_zero, List.set_cons_succ]
      refine wpAnyH_take (i := 32) (v := undef) rfl (by kernel_rfl) (by kernel_rfl) (by kernel_rfl) (fun _ _ _ h => h) (Or.inr ⟨by kernel_rfl, rfl⟩) hh104 ?_
      try simp only [Act.put, List.setIfInBounds_toArray, List.set_cons_zero, List.set_cons_succ]
      refine wpAnyH_take (i := 33) (v := undef) rfl (by kernel_rfl) (by kernel_rfl) (by kernel_rfl) (fun _ _ _ h => h) (Or.inr ⟨by kernel_rfl, rfl⟩) hh104 ?_
      try simp only [Act.put, List.setIfInBounds_toArray, List.set_cons_zero, List.set_cons_succ]
      refine wpAnyH_take (i := 34) (v := undef) rfl (by kernel_rfl) (by kernel_rfl) (by kernel_rfl) (fun _ _ _ h => h) (Or.inr ⟨by kernel_rfl, rfl⟩) hh104 ?_
      try simp only [Act.put, List.setIfInBounds_toArray, List.set_cons_zero, List.set_cons_succ]
      refine wpAnyH_take (i := 35) (v := undef) rfl (by kernel_rfl) (by kernel_rfl) (by kernel_rfl) (fun _ _ _ h => h) (Or.inr ⟨by kernel_rfl, rfl⟩) hh104 ?_
      try simp only [Act.put, List.setIfInBounds_toArray, List.set_cons_zero, List.set_cons_succ]
      refine wpAnyH_take (i := 36) (v := ?_) rfl (by kernel_rfl) (by kernel_rfl) (by kernel_rfl) (fun _ _ _ h => h) (Or.inl ⟨by kernel_rfl, ?_⟩) hh104 ?_
      rotate_left
      · intro w0 hSw
        (try dsimp only at hSw)
        go_simp
        try (with_reducible rfl)
      try simp only [Act.put, List.setIfInBounds_toArray, List.set_cons_zero, List.set_cons_succ]
      refine wpAnyH_take (i := 37) (v := ?_) rfl (by kernel_rfl) (by kernel_rfl) (by kernel_rfl) (fun _ _ _ h => h) (Or.inl ⟨by kernel_rfl, ?_⟩) hh104 ?_
      rotate_left
      · intro w0 hSw
        (try dsimp only at hSw)
        go_simp
        try (with_reducible rfl)
      try simp only [Act.put, List.setIfInBounds_toArray, List.set_cons_zero, List.set_cons_succ]
      refine wpAnyH_done (by kernel_rfl) ?_ _
      refine last_of_list rfl ?_
      go_wp2_with fail
      go_ret
      exact ⟨rfl, HH15.out.1.trans (hE103.mono HH15.out.1.size)⟩
  | true =>
    cases y with
    | false =>
      clear hxz
      by_cases hc0 : ck = 0
      · subst hc0
        refine wp_region_last (S := (fun w' : World => (w'.cell? ⟨w.heap.size, 0, none⟩ = some (.int .i64 k1)) ∧ (w'.cell? ⟨w.heap.size, 1, none⟩ = some (.int .i64 n1)) ∧ (w'.cell? ⟨w.heap.size, 2, none⟩ = some (.string s1)) ∧ (w'.cell? ⟨w.heap.size, 3, none⟩ = some (.slice a1 l1 c1)) ∧ (w'.cell? ⟨w.heap.size + 1, 0, none⟩ = some (.int .i64 k2)) ∧ (w'.cell? ⟨w.heap.size + 1, 1, none⟩ = some (.int .i64 n2)) ∧ (w'.cell? ⟨w.heap.size + 1, 2, none⟩ = some (.string s2)) ∧ (w'.cell? ⟨w.heap.size + 1, 3, none⟩ = some (.slice a2 l2 c2)) ∧ (w'.cell? ⟨w.heap.size + 1 + 1, 0, none⟩ = some (.int .i64 k3)) ∧ (w'.cell? ⟨w.heap.size + 1 + 1, 1, none⟩ = some (.int .i64 n3)) ∧ (w'.cell? ⟨w.heap.size + 1 + 1, 2, none⟩ = some (.string s3)) ∧ (w'.cell? ⟨w.heap.size + 1 + 1, 3, none⟩ = some (.slice a3 l3 c3)))) 38 rfl (by kernel_rfl) (HS _ (Below.refl _ _).drew) fun hHeld => ?_
        simp only [List.take_succ_cons, List.take_zero]
        have hE0 : Below w14.heap.size w14 w14.drew := (Below.refl _ _).drew
        refine wpAnyH_take (i := 0) (v := ?_) rfl (by kernel_rfl) (by kernel_rfl) (by kernel_rfl) (fun _ _ _ h => h) (Or.inl ⟨by kernel_rfl, ?_⟩) hHeld ?_
        rotate_left
        · intro w0 hSw
          (try dsimp only at hSw)
          go_simp
          try (with_reducible rfl)
        try simp only [Act.put, List.setIfInBounds_toArray, List.set_cons_zero, List.set_cons_succ]
        refine wpAnyH_take (i := 1) (v := ?_) rfl (by kernel_rfl) (by kernel_rfl) (by kernel_rfl) (fun _ _ _ h => h) (Or.inl ⟨by kernel_rfl, ?_⟩) hHeld ?_
        rotate_left
        · intro w0 hSw
          (try dsimp only at hSw)
          go_simp
          try (with_reducible rfl)
        try simp only [Act.put, List.setIfInBounds_toArray, List.set_cons_zero, List.set_cons_succ]
        refine wpAnyH_take (i := 2) (v := ?_) rfl (by kernel_rfl) (by kernel_rfl) (by kernel_rfl) (fun _ _ _ h => h) (Or.inl ⟨by kernel_rfl, ?_⟩) hHeld ?_
        rotate_left
        · intro w0 hSw
          (try dsimp only at hSw)
          go_simp
          try (with_reducible rfl)
        try simp only [Act.put, List.setIfInBounds_toArray, List.set_cons_zero, List.set_cons_succ]
        refine wpAnyH_take (i := 3) (v := ?_) rfl (by kernel_rfl) (by kernel_rfl) (by kernel_rfl) (fun _ _ _ h => h) (Or.inl ⟨by kernel_rfl, ?_⟩) hHeld ?_
        rotate_left
        · intro w0 hSw
          (try dsimp only at hSw)
          go_simp
          try (with_reducible rfl)
        try simp only [Act.put, List.setIfInBounds_toArray, List.set_cons_zero, List.set_cons_succ]
        refine wpAnyH_take (i := 4) (v := ?_) rfl (by kernel_rfl) (by kernel_rfl) (by kernel_rfl) (fun _ _ _ h => h) (Or.inl ⟨by kernel_rfl, ?_⟩) hHeld ?_
        rotate_left
        · intro w0 hSw
          (try dsimp only at hSw)
          go_simp
          try (with_reducible rfl)
        try simp only [Act.put, List.setIfInBounds_toArray, List.set_cons_zero, List.set_cons_succ]
        generalize w14.drew = wD at hHeld hE0 ⊢
        refine wpAnyH_ready (rs := [5]) (by kernel_rfl) (by simp) ?_
        refine AllReadyH.cons rfl (fun K hK => ?_) AllReadyH.nil
        go_simp
        refine (cvariant_at _ _ B A wD (Has.below HH15.out.2.2.2.2.1 hE0) (Has.below HH15.out.2.2.1 hE0) (by have := HZ.out.2.1; omega) (by have := HZ.out.1; omega)).mono ?_
        rintro e W101 ⟨he, hb101⟩
        obtain rfl : e = .returned (.bool true) := he.trans (by rw [HG.out.2.1])
        clear he
        go_wp2_with fail
        have hE101 : Below w14.heap.size w14 W101 := hE0.trans (hb101.mono hE0.size)
        refine hK.out _ _ (HS _ hE101) (fun hh102 => ?_)
        clear hK K
        try simp only [Act.put, List.setIfInBounds_toArray, List.set_cons_zero, List.set_cons_succ]
        refine wpAnyH_take (i := 6) (v := ?_) rfl (by kernel_rfl) (by kernel_rfl) (by kernel_rfl) (fun _ _ _ h => h) (Or.inl ⟨by kernel_rfl, ?_⟩) hh102 ?_
        rotate_left
        · intro w0 hSw
          (try dsimp only at hSw)
          go_simp
          try (with_reducible rfl)
        try simp only [Act.put, List.setIfInBounds_toArray, List.set_cons_zero, List.set_cons_succ]
        refine wpAnyH_take (i := 7) (v := ?_) rfl (by kernel_rfl) (by kernel_rfl) (by kernel_rfl) (fun _ _ _ h => h) (Or.inl ⟨by kernel_rfl, ?_⟩) hh102 ?_
        rotate_left
        · intro w0 hSw
          (try dsimp only at hSw)
          go_simp
          try (with_reducible rfl)
        try simp only [Act.put, List.setIfInBounds_toArray, List.set_cons_zero, List.set_cons_succ]
        refine wpAnyH_take (i := 8) (v := ?_) rfl (by kernel_rfl) (by kernel_rfl) (by kernel_rfl) (fun _ _ _ h => h) (Or.inl ⟨by kernel_rfl, ?_⟩) hh102 ?_
        rotate_left
        · intro w0 hSw
          (try dsimp only at hSw)
          go_simp
          try (with_reducible rfl)
        try simp only [Act.put, List.setIfInBounds_toArray, List.set_cons_zero, List.set_cons_succ]
        refine wpAnyH_take (i := 9) (v := ?_) rfl (by kernel_rfl) (by kernel_rfl) (by kernel_rfl) (fun _ _ _ h => h) (Or.inl ⟨by kernel_rfl, ?_⟩) hh102 ?_
        rotate_left
        · intro w0 hSw
          (try dsimp only at hSw)
          go_simp
          try (with_reducible rfl)
        try simp only [Act.put, List.setIfInBounds_toArray, List.set_cons_zero, List.set_cons_succ]
        refine wpAnyH_take (i := 10) (v := ?_) rfl (by kernel_rfl) (by kernel_rfl) (by kernel_rfl) (fun _ _ _ h => h) (Or.inl ⟨by kernel_rfl, ?_⟩) hh102 ?_
        rotate_left
        · intro w0 hSw
          (try dsimp only at hSw)
          go_simp
          try (with_reducible rfl)
        try simp only [Act.put, List.setIfInBounds_toArray, List.set_cons_zero, List.set_cons_succ]
        refine wpAnyH_take (i := 11) (v := ?_) rfl (by kernel_rfl) (by kernel_rfl) (by kernel_rfl) (fun _ _ _ h => h) (Or.inl ⟨by kernel_rfl, ?_⟩) hh102 ?_
        rotate_left
        · intro w0 hSw
          (try dsimp only at hSw)
          go_simp
          try (with_reducible rfl)
        try simp only [Act.put, List.setIfInBounds_toArray, List.set_cons_zero, List.set_cons_succ]
        refine wpAnyH_take (i := 12) (v := ?_) rfl (by kernel_rfl) (by kernel_rfl) (by kernel_rfl) (fun _ _ _ h => h) (Or.inl ⟨by kernel_rfl, ?_⟩) hh102 ?_
        rotate_left
        · intro w0 hSw
          (try dsimp only at hSw)
          go_simp
          try (with_reducible rfl)
        try simp only [Act.put, List.setIfInBounds_toArray, List.set_cons_zero, List.set_cons_succ]
        refine wpAnyH_take (i := 13) (v := ?_) rfl (by kernel_rfl) (by kernel_rfl) (by kernel_rfl) (fun _ _ _ h => h) (Or.inl ⟨by kernel_rfl, ?_⟩) hh102 ?_
        rotate_left
        · intro w0 hSw
          (try dsimp only at hSw)
          go_simp
          try (with_reducible rfl)
        try simp only [Act.put, List.setIfInBounds_toArray, List.set_cons_zero, List.set_cons_succ]
        refine wpAnyH_take (i := 14) (v := ?_) rfl (by kernel_rfl) (by kernel_rfl) (by kernel_rfl) (fun _ _ _ h => h) (Or.inl ⟨by kernel_rfl, ?_⟩) hh102 ?_
        rotate_left
        · intro w0 hSw
          (try dsimp only at hSw)
          go_simp
          try (with_reducible rfl)
        try simp only [Act.put, List.setIfInBounds_toArray, List.set_cons_zero, List.set_cons_succ]
        refine wpAnyH_take (i := 15) (v := ?_) rfl (by kernel_rfl) (by kernel_rfl) (by kernel_rfl) (fun _ _ _ h => h) (Or.inl ⟨by kernel_rfl, ?_⟩) hh102 ?_
        rotate_left
        · intro w0 hSw
          (try dsimp only at hSw)
          go_simp
          try (with_reducible rfl)
        try simp only [Act.put, List.setIfInBounds_toArray, List.set_cons_zero, List.set_cons_succ]
        refine wpAnyH_take (i := 16) (v := undef) rfl (by kernel_rfl) (by kernel_rfl) (by kernel_rfl) (fun _ _ _ h => h) (Or.inr ⟨by kernel_rfl, rfl⟩) hh102 ?_
        try simp only [Act.put, List.setIfInBounds_toArray, List.set_cons_zero, List.set_cons_succ]
        refine wpAnyH_take (i := 17) (v := undef) rfl (by kernel_rfl) (by kernel_rfl) (by kernel_rfl) (fun _ _ _ h => h) (Or.inr ⟨by kernel_rfl, rfl⟩) hh102 ?_
        try simp only [Act.put, List.setIfInBounds_toArray, List.set_cons_zero, List.set_cons_succ]
        refine wpAnyH_take (i := 18) (v := undef) rfl (by kernel_rfl) (by kernel_rfl) (by kernel_rfl) (fun _ _ _ h => h) (Or.inr ⟨by kernel_rfl, rfl⟩) hh102 ?_
        try simp only [Act.put, List.setIfInBounds_toArray, List.set_cons_zero, List.set_cons_succ]
        refine wpAnyH_take (i := 19) (v := ?_) rfl (by kernel_rfl) (by kernel_rfl) (by kernel_rfl) (fun _ _ _ h => h) (Or.inl ⟨by kernel_rfl, ?_⟩) hh102 ?_
        rotate_left
        · intro w0 hSw
          (try dsimp only at hSw)
          go_simp
          try (with_reducible rfl)
        try simp only [Act.put, List.setIfInBounds_toArray, List.set_cons_zero, List.set_cons_succ]
        refine wpAnyH_take (i := 20) (v := ?_) rfl (by kernel_rfl) (by kernel_rfl) (by kernel_rfl) (fun _ _ _ h => h) (Or.inl ⟨by kernel_rfl, ?_⟩) hh102 ?_
        rotate_left
        · intro w0 hSw
          (try dsimp only at hSw)
          go_simp
          try (with_reducible rfl)
        try simp only [Act.put, List.setIfInBounds_toArray, List.set_cons_zero, List.set_cons_succ]
        refine wpAnyH_take (i := 21) (v := ?_) rfl (by kernel_rfl) (by kernel_rfl) (by kernel_rfl) (fun _ _ _ h => h) (Or.inl ⟨by kernel_rfl, ?_⟩) hh102 ?_
        rotate_left
        · intro w0 hSw
          (try dsimp only at hSw)
          go_simp
          try (with_reducible rfl)
        try simp only [Act.put, List.setIfInBounds_toArray, List.set_cons_zero, List.set_cons_succ]
        refine wpAnyH_take (i := 22) (v := ?_) rfl (by kernel_rfl) (by kernel_rfl) (by kernel_rfl) (fun _ _ _ h => h) (Or.inl ⟨by kernel_rfl, ?_⟩) hh102 ?_
        rotate_left
        · intro w0 hSw
          (try dsimp only at hSw)
          go_simp
          try (with_reducible rfl)
        try simp only [Act.put, List.setIfInBounds_toArray, List.set_cons_zero, List.set_cons_succ]
        refine wpAnyH_take (i := 23) (v := ?_) rfl (by kernel_rfl) (by kernel_rfl) (by kernel_rfl) (fun _ _ _ h => h) (Or.inl ⟨by kernel_rfl, ?_⟩) hh102 ?_
        rotate_left
        · intro w0 hSw
          (try dsimp only at hSw)
          go_simp
          try (with_reducible rfl)
        try simp only [Act.put, List.setIfInBounds_toArray, List.set_cons_zero, List.set_cons_succ]
        refine wpAnyH_ready (rs := [24]) (by kernel_rfl) (by simp) ?_
        refine AllReadyH.cons rfl (fun K hK => ?_) AllReadyH.nil
        go_simp
        refine (cvariant_at _ _ A A W101 (Has.below HH15.out.2.2.1 hE101) (Has.below HH15.out.2.2.1 hE101) (by have := HZ.out.1; omega) (by have := HZ.out.1; omega)).mono ?_
        rintro e W103 ⟨he, hb103⟩
        obtain rfl : e = .returned (.bool true) := he.trans (by rw [decide_eq_true rfl])
        clear he
        go_wp2_with fail
        have hE103 : Below w14.heap.size w14 W103 := hE101.trans (hb103.mono hE101.size)
        refine hK.out _ _ (HS _ hE103) (fun hh104 => ?_)
        clear hK K
        try simp only [Act.put, List.setIfInBounds_toArray, List.set_cons_zero, List.set_cons_succ]
        refine wpAnyH_take (i := 25) (v := ?_) rfl (by kernel_rfl) (by kernel_rfl) (by kernel_rfl) (fun _ _ _ h => h) (Or.inl ⟨by kernel_rfl, ?_⟩) hh104 ?_
        rotate_left
        · intro w0 hSw
          (try dsimp only at hSw)
          go_simp
          try (with_reducible rfl)
        try simp only [Act.put, List.setIfInBounds_toArray, List.set_cons_zero, List.set_cons_succ]
        refine wpAnyH_take (i := 26) (v := ?_) rfl (by kernel_rfl) (by kernel_rfl) (by kernel_rfl) (fun _ _ _ h => h) (Or.inl ⟨by kernel_rfl, ?_⟩) hh104 ?_
        rotate_left
        · intro w0 hSw
          (try dsimp only at hSw)
          go_simp
          try (with_reducible rfl)
        try simp only [Act.put, List.setIfInBounds_toArray, List.set_cons_zero, List.set_cons_succ]
        refine wpAnyH_take (i := 27) (v := ?_) rfl (by kernel_rfl) (by kernel_rfl) (by kernel_rfl) (fun _ _ _ h => h) (Or.inl ⟨by kernel_rfl, ?_⟩) hh104 ?_
        rotate_left
        · intro w0 hSw
          (try dsimp only at hSw)
          go_simp
          try (with_reducible rfl)
        try simp only [Act.put, List.setIfInBounds_toArray, List.set_cons_zero, List.set_cons_succ]
        refine wpAnyH_take (i := 28) (v := ?_) rfl (by kernel_rfl) (by kernel_rfl) (by kernel_rfl) (fun _ _ _ h => h) (Or.inl ⟨by kernel_rfl, ?_⟩) hh104 ?_
        rotate_left
        · intro w0 hSw
          (try dsimp only at hSw)
          go_simp
          try (with_reducible rfl)
        try simp only [Act.put, List.setIfInBounds_toArray, List.set_cons_zero, List.set_cons_succ]
        refine wpAnyH_take (i := 29) (v := ?_) rfl (by kernel_rfl) (by kernel_rfl) (by kernel_rfl) (fun _ _ _ h => h) (Or.inl ⟨by kernel_rfl, ?_⟩) hh104 ?_
        rotate_left
        · intro w0 hSw
          (try dsimp only at hSw)
          go_simp
          try (with_reducible rfl)
        try simp only [Act.put, List.setIfInBounds_toArray, List.set_cons_zero, List.set_cons_succ]
        refine wpAnyH_take (i := 30) (v := ?_) rfl (by kernel_rfl) (by kernel_rfl) (by kernel_rfl) (fun _ _ _ h => h) (Or.inl ⟨by kernel_rfl, ?_⟩) hh104 ?_
        rotate_left
        · intro w0 hSw
          (try dsimp only at hSw)
          go_simp
          try (with_reducible rfl)
        try simp only [Act.put, List.setIfInBounds_toArray, List.set_cons_zero, List.set_cons_succ]
        refine wpAnyH_take (i := 31) (v := ?_) rfl (by kernel_rfl) (by kernel_rfl) (by kernel_rfl) (fun _ _ _ h => h) (Or.inl ⟨by kernel_rfl, ?_⟩) hh104 ?_
        rotate_left
        · intro w0 hSw
          (try dsimp only at hSw)
          go_simp
          try (with_reducible rfl)
        try simp only [Act.put, List.setIfInBounds_toArray, List.set_cons_zero, List.set_cons_succ]
        refine wpAnyH_take (i := 32) (v := ?_) rfl (by kernel_rfl) (by kernel_rfl) (by kernel_rfl) (fun _ _ _ h => h) (Or.inl ⟨by kernel_rfl, ?_⟩) hh104 ?_
        rotate_left
        · intro w0 hSw
          (try dsimp only at hSw)
          go_simp
          try (with_reducible rfl)
        try simp only [Act.put, List.setIfInBounds_toArray, List.set_cons_zero, List.set_cons_succ]
        refine wpAnyH_take (i := 33) (v := ?_) rfl (by kernel_rfl) (by kernel_rfl) (by kernel_rfl) (fun _ _ _ h => h) (Or.inl ⟨by kernel_rfl, ?_⟩) hh104 ?_
        rotate_left
        · intro w0 hSw
          (try dsimp only at hSw)
          go_simp
          try (with_reducible rfl)
        try simp only [Act.put, List.setIfInBounds_toArray, List.set_cons_zero, List.set_cons_succ]
        refine wpAnyH_ready (rs := [34]) (by kernel_rfl) (by simp) ?_
        refine AllReadyH.cons rfl (fun K hK => ?_) AllReadyH.nil
        go_simp
        refine (shift_at by_ A _ W103 (Has.below HH15.out.2.2.1 hE103) (by have := HZ.out.1; omega)).mono ?_
        intro e W105 hh_
        obtain ⟨kg, ng, sg, ag, lg, cg, rfl, hNg, hb105⟩ := hh_.has13
        have hTg := has_new13 hNg
        go_wp2_with fail
        have hE105 : Below w14.heap.size w14 W105 := hE103.trans (hb105.mono hE103.size)
        refine hK.out _ _ (HS _ hE105) (fun hh106 => ?_)
        clear hK K
        try simp only [Act.put, List.setIfInBounds_toArray, List.set_cons_zero, List.set_cons_succ]
        refine wpAnyH_ready (rs := [35]) (by kernel_rfl) (by simp) ?_
        refine AllReadyH.cons rfl (fun K hK => ?_) AllReadyH.nil
        go_simp
        refine (cvariant_at _ _ A (A.shift by_) W105 (Has.below HH15.out.2.2.1 hE105) (hTg) (by have := HZ.out.1; omega) (by rw [Tm.size_shift]; have := HZ.out.1; omega)).mono ?_
        rintro e W107 ⟨he, hb107⟩
        obtain rfl : e = .returned (.bool true) := he.trans (by rw [decide_eq_true HG.out.1.symm])
        clear he
        go_wp2_with fail
        have hE107 : Below w14.heap.size w14 W107 := hE105.trans (hb107.mono hE105.size)
        refine hK.out _ _ (HS _ hE107) (fun hh108 => ?_)
        clear hK K
        try simp only [Act.put, List.setIfInBounds_toArray, List.set_cons_zero, List.set_cons_succ]
        refine wpAnyH_take (i := 36) (v := ?_) rfl (by kernel_rfl) (by kernel_rfl) (by kernel_rfl) (fun _ _ _ h => h) (Or.inl ⟨by kernel_rfl, ?_⟩) hh108 ?_
        rotate_left
        · intro w0 hSw
          (try dsimp only at hSw)
          go_simp
          try (with_reducible rfl)
        try simp only [Act.put, List.setIfInBounds_toArray, List.set_cons_zero, List.set_cons_succ]
        refine wpAnyH_take (i := 37) (v := ?_) rfl (by kernel_rfl) (by kernel_rfl) (by kernel_rfl) (fun _ _ _ h => h) (Or.inl ⟨by kernel_rfl, ?_⟩) hh108 ?_
        rotate_left
        · intro w0 hSw
          (try dsimp only at hSw)
          go_simp
          try (with_reducible rfl)
        try simp only [Act.put, List.setIfInBounds_toArray, List.set_cons_zero, List.set_cons_succ]
        refine wpAnyH_done (by kernel_rfl) ?_ _
        refine last_of_list rfl ?_
        go_wp2_with fail
        go_ret
        exact ⟨rfl, HH15.out.1.trans (hE107.mono HH15.out.1.size)⟩
      · have hck1 : (ck == 0) = false := by simpa using hc0
        have hck2 : ¬ (ck = 0) := hc0
        clear hc0
        refine wp_region_last (S := (fun w' : World => (w'.cell? ⟨w.heap.size, 0, none⟩ = some (.int .i64 k1)) ∧ (w'.cell? ⟨w.heap.size, 1, none⟩ = some (.int .i64 n1)) ∧ (w'.cell? ⟨w.heap.size, 2, none⟩ = some (.string s1)) ∧ (w'.cell? ⟨w.heap.size, 3, none⟩ = some (.slice a1 l1 c1)) ∧ (w'.cell? ⟨w.heap.size + 1, 0, none⟩ = some (.int .i64 k2)) ∧ (w'.cell? ⟨w.heap.size + 1, 1, none⟩ = some (.int .i64 n2)) ∧ (w'.cell? ⟨w.heap.size + 1, 2, none⟩ = some (.string s2)) ∧ (w'.cell? ⟨w.heap.size + 1, 3, none⟩ = some (.slice a2 l2 c2)) ∧ (w'.cell? ⟨w.heap.size + 1 + 1, 0, none⟩ = some (.int .i64 k3)) ∧ (w'.cell? ⟨w.heap.size + 1 + 1, 1, none⟩ = some (.int .i64 n3)) ∧ (w'.cell? ⟨w.heap.size + 1 + 1, 2, none⟩ = some (.string s3)) ∧ (w'.cell? ⟨w.heap.size + 1 + 1, 3, none⟩ = some (.slice a3 l3 c3)))) 38 rfl (by kernel_rfl) (HS _ (Below.refl _ _).drew) fun hHeld => ?_
        simp only [List.take_succ_cons, List.take_zero]
        have hE0 : Below w14.heap.size w14 w14.drew := (Below.refl _ _).drew
        refine wpAnyH_take (i := 0) (v := ?_) rfl (by kernel_rfl) (by kernel_rfl) (by kernel_rfl) (fun _ _ _ h => h) (Or.inl ⟨by kernel_rfl, ?_⟩) hHeld ?_
        rotate_left
        · intro w0 hSw
          (try dsimp only at hSw)
          go_simp
          try (with_reducible rfl)
        try simp only [Act.put, List.setIfInBounds_toArray, List.set_cons_zero, List.set_cons_succ]
        refine wpAnyH_take (i := 1) (v := ?_) rfl (by kernel_rfl) (by kernel_rfl) (by kernel_rfl) (fun _ _ _ h => h) (Or.inl ⟨by kernel_rfl, ?_⟩) hHeld ?_
        rotate_left
        · intro w0 hSw
          (try dsimp only at hSw)
          go_simp
          try (with_reducible rfl)
        try simp only [Act.put, List.setIfInBounds_toArray, List.set_cons_zero, List.set_cons_succ]
        refine wpAnyH_take (i := 2) (v := ?_) rfl (by kernel_rfl) (by kernel_rfl) (by kernel_rfl) (fun _ _ _ h => h) (Or.inl ⟨by kernel_rfl, ?_⟩) hHeld ?_
        rotate_left
        · intro w0 hSw
          (try dsimp only at hSw)
          go_simp
          try (with_reducible rfl)
        try simp only [Act.put, List.setIfInBounds_toArray, List.set_cons_zero, List.set_cons_succ]
        refine wpAnyH_take (i := 3) (v := ?_) rfl (by kernel_rfl) (by kernel_rfl) (by kernel_rfl) (fun _ _ _ h => h) (Or.inl ⟨by kernel_rfl, ?_⟩) hHeld ?_
        rotate_left
        · intro w0 hSw
          (try dsimp only at hSw)
          go_simp
          try (with_reducible rfl)
        try simp only [Act.put, List.setIfInBounds_toArray, List.set_cons_zero, List.set_cons_succ]
        refine wpAnyH_take (i := 4) (v := ?_) rfl (by kernel_rfl) (by kernel_rfl) (by kernel_rfl) (fun _ _ _ h => h) (Or.inl ⟨by kernel_rfl, ?_⟩) hHeld ?_
        rotate_left
        · intro w0 hSw
          (try dsimp only at hSw)
          go_simp
          try (with_reducible rfl)
        try simp only [Act.put, List.setIfInBounds_toArray, List.set_cons_zero, List.set_cons_succ]
        generalize w14.drew = wD at hHeld hE0 ⊢
        refine wpAnyH_ready (rs := [5]) (by kernel_rfl) (by simp) ?_
        refine AllReadyH.cons rfl (fun K hK => ?_) AllReadyH.nil
        go_simp
        refine (cvariant_at _ _ B A wD (Has.below HH15.out.2.2.2.2.1 hE0) (Has.below HH15.out.2.2.1 hE0) (by have := HZ.out.2.1; omega) (by have := HZ.out.1; omega)).mono ?_
        rintro e W101 ⟨he, hb101⟩
        obtain rfl : e = .returned (.bool true) := he.trans (by rw [HG.out.2.1])
        clear he
        go_wp2_with fail
        have hE101 : Below w14.heap.size w14 W101 := hE0.trans (hb101.mono hE0.size)
        refine hK.out _ _ (HS _ hE101) (fun hh102 => ?_)
        clear hK K
        try simp only [Act.put, List.setIfInBounds_toArray, List.set_cons_zero, List.set_cons_succ]
        refine wpAnyH_take (i := 6) (v := ?_) rfl (by kernel_rfl) (by kernel_rfl) (by kernel_rfl) (fun _ _ _ h => h) (Or.inl ⟨by kernel_rfl, ?_⟩) hh102 ?_
        rotate_left
        · intro w0 hSw
          (try dsimp only at hSw)
          go_simp
          try (with_reducible rfl)
        try simp only [Act.put, List.setIfInBounds_toArray, List.set_cons_zero, List.set_cons_succ]
        refine wpAnyH_take (i := 7) (v := ?_) rfl (by kernel_rfl) (by kernel_rfl) (by kernel_rfl) (fun _ _ _ h => h) (Or.inl ⟨by kernel_rfl, ?_⟩) hh102 ?_
        rotate_left
        · intro w0 hSw
          (try dsimp only at hSw)
          go_simp
          try (with_reducible rfl)
        try simp only [Act.put, List.setIfInBounds_toArray, List.set_cons_zero, List.set_cons_succ]
        refine wpAnyH_take (i := 8) (v := ?_) rfl (by kernel_rfl) (by kernel_rfl) (by kernel_rfl) (fun _ _ _ h => h) (Or.inl ⟨by kernel_rfl, ?_⟩) hh102 ?_
        rotate_left
        · intro w0 hSw
          (try dsimp only at hSw)
          go_simp
          try (with_reducible rfl)
        try simp only [Act.put, List.setIfInBounds_toArray, List.set_cons_zero, List.set_cons_succ]
        refine wpAnyH_take (i := 9) (v := ?_) rfl (by kernel_rfl) (by kernel_rfl) (by kernel_rfl) (fun _ _ _ h => h) (Or.inl ⟨by kernel_rfl, ?_⟩) hh102 ?_
        rotate_left
        · intro w0 hSw
          (try dsimp only at hSw)
          go_simp
          try (with_reducible rfl)
        try simp only [Act.put, List.setIfInBounds_toArray, List.set_cons_zero, List.set_cons_succ]
        refine wpAnyH_take (i := 10) (v := ?_) rfl (by kernel_rfl) (by kernel_rfl) (by kernel_rfl) (fun _ _ _ h => h) (Or.inl ⟨by kernel_rfl, ?_⟩) hh102 ?_
        rotate_left
        · intro w0 hSw
          (try dsimp only at hSw)
          go_simp
          try (with_reducible rfl)
        try simp only [Act.put, List.setIfInBounds_toArray, List.set_cons_zero, List.set_cons_succ]
        refine wpAnyH_take (i := 11) (v := ?_) rfl (by kernel_rfl) (by kernel_rfl) (by kernel_rfl) (fun _ _ _ h => h) (Or.inl ⟨by kernel_rfl, ?_⟩) hh102 ?_
        rotate_left
        · intro w0 hSw
          (try dsimp only at hSw)
          go_simp
          try (with_reducible rfl)
        try simp only [Act.put, List.setIfInBounds_toArray, List.set_cons_zero, List.set_cons_succ]
        refine wpAnyH_take (i := 12) (v := ?_) rfl (by kernel_rfl) (by kernel_rfl) (by kernel_rfl) (fun _ _ _ h => h) (Or.inl ⟨by kernel_rfl, ?_⟩) hh102 ?_
        rotate_left
        · intro w0 hSw
          (try dsimp only at hSw)
          go_simp
          try (with_reducible rfl)
        try simp only [Act.put, List.setIfInBounds_toArray, List.set_cons_zero, List.set_cons_succ]
        refine wpAnyH_take (i := 13) (v := ?_) rfl (by kernel_rfl) (by kernel_rfl) (by kernel_rfl) (fun _ _ _ h => h) (Or.inl ⟨by kernel_rfl, ?_⟩) hh102 ?_
        rotate_left
        · intro w0 hSw
          (try dsimp only at hSw)
          go_simp
          try (with_reducible rfl)
        try simp only [Act.put, List.setIfInBounds_toArray, List.set_cons_zero, List.set_cons_succ]
        refine wpAnyH_take (i := 14) (v := ?_) rfl (by kernel_rfl) (by kernel_rfl) (by kernel_rfl) (fun _ _ _ h => h) (Or.inl ⟨by kernel_rfl, ?_⟩) hh102 ?_
        rotate_left
        · intro w0 hSw
          (try dsimp only at hSw)
          go_simp
          try (with_reducible rfl)
        try simp only [Act.put, List.setIfInBounds_toArray, List.set_cons_zero, List.set_cons_succ]
        refine wpAnyH_take (i := 15) (v := ?_) rfl (by kernel_rfl) (by kernel_rfl) (by kernel_rfl) (fun _ _ _ h => h) (Or.inl ⟨by kernel_rfl, ?_⟩) hh102 ?_
        rotate_left
        · intro w0 hSw
          (try dsimp only at hSw)
          go_simp
          try (with_reducible rfl)
        try simp only [Act.put, List.setIfInBounds_toArray, List.set_cons_zero, List.set_cons_succ]
        refine wpAnyH_take (i := 16) (v := undef) rfl (by kernel_rfl) (by kernel_rfl) (by kernel_rfl) (fun _ _ _ h => h) (Or.inr ⟨by kernel_rfl, rfl⟩) hh102 ?_
        try simp only [Act.put, List.setIfInBounds_toArray, List.set_cons_zero, List.set_cons_succ]
        refine wpAnyH_take (i := 17) (v := undef) rfl (by kernel_rfl) (by kernel_rfl) (by kernel_rfl) (fun _ _ _ h => h) (Or.inr ⟨by kernel_rfl, rfl⟩) hh102 ?_
        try simp only [Act.put, List.setIfInBounds_toArray, List.set_cons_zero, List.set_cons_succ]
        refine wpAnyH_take (i := 18) (v := undef) rfl (by kernel_rfl) (by kernel_rfl) (by kernel_rfl) (fun _ _ _ h => h) (Or.inr ⟨by kernel_rfl, rfl⟩) hh102 ?_
        try simp only [Act.put, List.setIfInBounds_toArray, List.set_cons_zero, List.set_cons_succ]
        refine wpAnyH_take (i := 19) (v := ?_) rfl (by kernel_rfl) (by kernel_rfl) (by kernel_rfl) (fun _ _ _ h => h) (Or.inl ⟨by kernel_rfl, ?_⟩) hh102 ?_
        rotate_left
        · intro w0 hSw
          (try dsimp only at hSw)
          go_simp
          try (with_reducible rfl)
        try simp only [Act.put, List.setIfInBounds_toArray, List.set_cons_zero, List.set_cons_succ]
        refine wpAnyH_take (i := 20) (v := ?_) rfl (by kernel_rfl) (by kernel_rfl) (by kernel_rfl) (fun _ _ _ h => h) (Or.inl ⟨by kernel_rfl, ?_⟩) hh102 ?_
        rotate_left
        · intro w0 hSw
          (try dsimp only at hSw)
          go_simp
          try (with_reducible rfl)
        try simp only [Act.put, List.setIfInBounds_toArray, List.set_cons_zero, List.set_cons_succ]
        refine wpAnyH_take (i := 21) (v := ?_) rfl (by kernel_rfl) (by kernel_rfl) (by kernel_rfl) (fun _ _ _ h => h) (Or.inl ⟨by kernel_rfl, ?_⟩) hh102 ?_
        rotate_left
        · intro w0 hSw
          (try dsimp only at hSw)
          go_simp
          try (with_reducible rfl)
        try simp only [Act.put, List.setIfInBounds_toArray, List.set_cons_zero, List.set_cons_succ]
        refine wpAnyH_take (i := 22) (v := ?_) rfl (by kernel_rfl) (by kernel_rfl) (by kernel_rfl) (fun _ _ _ h => h) (Or.inl ⟨by kernel_rfl, ?_⟩) hh102 ?_
        rotate_left
        · intro w0 hSw
          (try dsimp only at hSw)
          go_simp
          try (with_reducible rfl)
        try simp only [Act.put, List.setIfInBounds_toArray, List.set_cons_zero, List.set_cons_succ]
        refine wpAnyH_take (i := 23) (v := ?_) rfl (by kernel_rfl) (by kernel_rfl) (by kernel_rfl) (fun _ _ _ h => h) (Or.inl ⟨by kernel_rfl, ?_⟩) hh102 ?_
        rotate_left
        · intro w0 hSw
          (try dsimp only at hSw)
          go_simp
          try (with_reducible rfl)
        try simp only [Act.put, List.setIfInBounds_toArray, List.set_cons_zero, List.set_cons_succ]
        refine wpAnyH_ready (rs := [24]) (by kernel_rfl) (by simp) ?_
        refine AllReadyH.cons rfl (fun K hK => ?_) AllReadyH.nil
        go_simp
        refine (cvariant_at _ _ A A W101 (Has.below HH15.out.2.2.1 hE101) (Has.below HH15.out.2.2.1 hE101) (by have := HZ.out.1; omega) (by have := HZ.out.1; omega)).mono ?_
        rintro e W103 ⟨he, hb103⟩
        obtain rfl : e = .returned (.bool true) := he.trans (by rw [decide_eq_true rfl])
        clear he
        go_wp2_with fail
        have hE103 : Below w14.heap.size w14 W103 := hE101.trans (hb103.mono hE101.size)
        refine hK.out _ _ (HS _ hE103) (fun hh104 => ?_)
        clear hK K
        try simp only [Act.put, List.setIfInBounds_toArray, List.set_cons_zero, List.set_cons_succ]
        refine wpAnyH_take (i := 25) (v := ?_) rfl (by kernel_rfl) (by kernel_rfl) (by kernel_rfl) (fun _ _ _ h => h) (Or.inl ⟨by kernel_rfl, ?_⟩) hh104 ?_
        rotate_left
        · intro w0 hSw
          (try dsimp only at hSw)
          go_simp
          try (with_reducible rfl)
        try simp only [Act.put, List.setIfInBounds_toArray, List.set_cons_zero, List.set_cons_succ]
        refine wpAnyH_take (i := 26) (v := ?_) rfl (by kernel_rfl) (by kernel_rfl) (by kernel_rfl) (fun _ _ _ h => h) (Or.inl ⟨by kernel_rfl, ?_⟩) hh104 ?_
        rotate_left
        · intro w0 hSw
          (try dsimp only at hSw)
          go_simp
          try (with_reducible rfl)
        try simp only [Act.put, List.setIfInBounds_toArray, List.set_cons_zero, List.set_cons_succ]
        refine wpAnyH_take (i := 27) (v := ?_) rfl (by kernel_rfl) (by kernel_rfl) (by kernel_rfl) (fun _ _ _ h => h) (Or.inl ⟨by kernel_rfl, ?_⟩) hh104 ?_
        rotate_left
        · intro w0 hSw
          (try dsimp only at hSw)
          go_simp
          try (with_reducible rfl)
        try simp only [Act.put, List.setIfInBounds_toArray, List.set_cons_zero, List.set_cons_succ]
        refine wpAnyH_take (i := 28) (v := ?_) rfl (by kernel_rfl) (by kernel_rfl) (by kernel_rfl) (fun _ _ _ h => h) (Or.inl ⟨by kernel_rfl, ?_⟩) hh104 ?_
        rotate_left
        · intro w0 hSw
          (try dsimp only at hSw)
          go_simp
          try (with_reducible rfl)
        try simp only [Act.put, List.setIfInBounds_toArray, List.set_cons_zero, List.set_cons_succ]
        refine wpAnyH_take (i := 29) (v := ?_) rfl (by kernel_rfl) (by kernel_rfl) (by kernel_rfl) (fun _ _ _ h => h) (Or.inl ⟨by kernel_rfl, ?_⟩) hh104 ?_
        rotate_left
        · intro w0 hSw
          (try dsimp only at hSw)
          go_simp
          try (with_reducible rfl)
        try simp only [Act.put, List.setIfInBounds_toArray, List.set_cons_zero, List.set_cons_succ]
        refine wpAnyH_take (i := 30) (v := undef) rfl (by kernel_rfl) (by kernel_rfl) (by kernel_rfl) (fun _ _ _ h => h) (Or.inr ⟨by kernel_rfl, rfl⟩) hh104 ?_
        try simp only [Act.put, List.setIfInBounds_toArray, List.set_cons_zero, List.set_cons_succ]
        refine wpAnyH_take (i := 31) (v := undef) rfl (by kernel_rfl) (by kernel_rfl) (by kernel_rfl) (fun _ _ _ h => h) (Or.inr ⟨by kernel_rfl, rfl⟩) hh104 ?_
        try simp only [Act.put, List.setIfInBounds_toArray, List.set_cons_zero, List.set_cons_succ]
        refine wpAnyH_take (i := 32) (v := undef) rfl (by kernel_rfl) (by kernel_rfl) (by kernel_rfl) (fun _ _ _ h => h) (Or.inr ⟨by kernel_rfl, rfl⟩) hh104 ?_
        try simp only [Act.put, List.setIfInBounds_toArray, List.set_cons_zero, List.set_cons_succ]
        refine wpAnyH_take (i := 33) (v := undef) rfl (by kernel_rfl) (by kernel_rfl) (by kernel_rfl) (fun _ _ _ h => h) (Or.inr ⟨by kernel_rfl, rfl⟩) hh104 ?_
        try simp only [Act.put, List.setIfInBounds_toArray, List.set_cons_zero, List.set_cons_succ]
        refine wpAnyH_take (i := 34) (v := undef) rfl (by kernel_rfl) (by kernel_rfl) (by kernel_rfl) (fun _ _ _ h => h) (Or.inr ⟨by kernel_rfl, rfl⟩) hh104 ?_
        try simp only [Act.put, List.setIfInBounds_toArray, List.set_cons_zero, List.set_cons_succ]
        refine wpAnyH_take (i := 35) (v := undef) rfl (by kernel_rfl) (by kernel_rfl) (by kernel_rfl) (fun _ _ _ h => h) (Or.inr ⟨by kernel_rfl, rfl⟩) hh104 ?_
        try simp only [Act.put, List.setIfInBounds_toArray, List.set_cons_zero, List.set_cons_succ]
        refine wpAnyH_take (i := 36) (v := ?_) rfl (by kernel_rfl) (by kernel_rfl) (by kernel_rfl) (fun _ _ _ h => h) (Or.inl ⟨by kernel_rfl, ?_⟩) hh104 ?_
        rotate_left
        · intro w0 hSw
          (try dsimp only at hSw)
          go_simp
          try (with_reducible rfl)
        try simp only [Act.put, List.setIfInBounds_toArray, List.set_cons_zero, List.set_cons_succ]
        refine wpAnyH_take (i := 37) (v := ?_) rfl (by kernel_rfl) (by kernel_rfl) (by kernel_rfl) (fun _ _ _ h => h) (Or.inl ⟨by kernel_rfl, ?_⟩) hh104 ?_
        rotate_left
        · intro w0 hSw
          (try dsimp only at hSw)
          go_simp
          try (with_reducible rfl)
        try simp only [Act.put, List.setIfInBounds_toArray, List.set_cons_zero, List.set_cons_succ]
        refine wpAnyH_done (by kernel_rfl) ?_ _
        refine last_of_list rfl ?_
        go_wp2_with fail
        go_ret
        exact ⟨rfl, HH15.out.1.trans (hE103.mono HH15.out.1.size)⟩
    | true =>
      have HXZ := Lib.hid (hxz rfl rfl)
      clear hxz
      by_cases hc0 : ck = 0
      · subst hc0
        refine wp_region_last (S := (fun w' : World => (w'.cell? ⟨w.heap.size, 0, none⟩ = some (.int .i64 k1)) ∧ (w'.cell? ⟨w.heap.size, 1, none⟩ = some (.int .i64 n1)) ∧ (w'.cell? ⟨w.heap.size, 2, none⟩ = some (.string s1)) ∧ (w'.cell? ⟨w.heap.size, 3, none⟩ = some (.slice a1 l1 c1)) ∧ (w'.cell? ⟨w.heap.size + 1, 0, none⟩ = some (.int .i64 k2)) ∧ (w'.cell? ⟨w.heap.size + 1, 1, none⟩ = some (.int .i64 n2)) ∧ (w'.cell? ⟨w.heap.size + 1, 2, none⟩ = some (.string s2)) ∧ (w'.cell? ⟨w.heap.size + 1, 3, none⟩ = some (.slice a2 l2 c2)) ∧ (w'.cell? ⟨w.heap.size + 1 + 1, 0, none⟩ = some (.int .i64 k3)) ∧ (w'.cell? ⟨w.heap.size + 1 + 1, 1, none⟩ = some (.int .i64 n3)) ∧ (w'.cell? ⟨w.heap.size + 1 + 1, 2, none⟩ = some (.string s3)) ∧ (w'.cell? ⟨w.heap.size + 1 + 1, 3, none⟩ = some (.slice a3 l3 c3)))) 38 rfl (by kernel_rfl) (HS _ (Below.refl _ _).drew) fun hHeld => ?_
        simp only [List.take_succ_cons, List.take_zero]
        have hE0 : Below w14.heap.size w14 w14.drew := (Below.refl _ _).drew
        refine wpAnyH_take (i := 0) (v := ?_) rfl (by kernel_rfl) (by kernel_rfl) (by kernel_rfl) (fun _ _ _ h => h) (Or.inl ⟨by kernel_rfl, ?_⟩) hHeld ?_
        rotate_left
        · intro w0 hSw
          (try dsimp only at hSw)
          go_simp
          try (with_reducible rfl)
        try simp only [Act.put, List.setIfInBounds_toArray, List.set_cons_zero, List.set_cons_succ]
        refine wpAnyH_take (i := 1) (v := ?_) rfl (by kernel_rfl) (by kernel_rfl) (by kernel_rfl) (fun _ _ _ h => h) (Or.inl ⟨by kernel_rfl, ?_⟩) hHeld ?_
        rotate_left
        · intro w0 hSw
          (try dsimp only at hSw)
          go_simp
          try (with_reducible rfl)
        try simp only [Act.put, List.setIfInBounds_toArray, List.set_cons_zero, List.set_cons_succ]
        refine wpAnyH_take (i := 2) (v := ?_) rfl (by kernel_rfl) (by kernel_rfl) (by kernel_rfl) (fun _ _ _ h => h) (Or.inl ⟨by kernel_rfl, ?_⟩) hHeld ?_
        rotate_left
        · intro w0 hSw
          (try dsimp only at hSw)
          go_simp
          try (with_reducible rfl)
        try simp only [Act.put, List.setIfInBounds_toArray, List.set_cons_zero, List.set_cons_succ]
        refine wpAnyH_take (i := 3) (v := ?_) rfl (by kernel_rfl) (by kernel_rfl) (by kernel_rfl) (fun _ _ _ h => h) (Or.inl ⟨by kernel_rfl, ?_⟩) hHeld ?_
        rotate_left
        · intro w0 hSw
          (try dsimp only at hSw)
          go_simp
          try (with_reducible rfl)
        try simp only [Act.put, List.setIfInBounds_toArray, List.set_cons_zero, List.set_cons_succ]
        refine wpAnyH_take (i := 4) (v := ?_) rfl (by kernel_rfl) (by kernel_rfl) (by kernel_rfl) (fun _ _ _ h => h) (Or.inl ⟨by kernel_rfl, ?_⟩) hHeld ?_
        rotate_left
        · intro w0 hSw
          (try dsimp only at hSw)
          go_simp
          try (with_reducible rfl)
        try simp only [Act.put, List.setIfInBounds_toArray, List.set_cons_zero, List.set_cons_succ]
        generalize w14.drew = wD at hHeld hE0 ⊢
        refine wpAnyH_ready (rs := [5]) (by kernel_rfl) (by simp) ?_
        refine AllReadyH.cons rfl (fun K hK => ?_) AllReadyH.nil
        go_simp
        refine (cvariant_at _ _ B A wD (Has.below HH15.out.2.2.2.2.1 hE0) (Has.below HH15.out.2.2.1 hE0) (by have := HZ.out.2.1; omega) (by have := HZ.out.1; omega)).mono ?_
        rintro e W101 ⟨he, hb101⟩
        obtain rfl : e = .returned (.bool true) := he.trans (by rw [HG.out.2.1])
        clear he
        go_wp2_with fail
        have hE101 : Below w14.heap.size w14 W101 := hE0.trans (hb101.mono hE0.size)
        refine hK.out _ _ (HS _ hE101) (fun hh102 => ?_)
        clear hK K
        try simp only [Act.put, List.setIfInBounds_toArray, List.set_cons_zero, List.set_cons_succ]
        refine wpAnyH_take (i := 6) (v := ?_) rfl (by kernel_rfl) (by kernel_rfl) (by kernel_rfl) (fun _ _ _ h => h) (Or.inl ⟨by kernel_rfl, ?_⟩) hh102 ?_
        rotate_left
        · intro w0 hSw
          (try dsimp only at hSw)
          go_simp
          try (with_reducible rfl)
        try simp only [Act.put, List.setIfInBounds_toArray, List.set_cons_zero, List.set_cons_succ]
        refine wpAnyH_take (i := 7) (v := ?_) rfl (by kernel_rfl) (by kernel_rfl) (by kernel_rfl) (fun _ _ _ h => h) (Or.inl ⟨by kernel_rfl, ?_⟩) hh102 ?_
        rotate_left
        · intro w0 hSw
          (try dsimp only at hSw)
          go_simp
          try (with_reducible rfl)
        try simp only [Act.put, List.setIfInBounds_toArray, List.set_cons_zero, List.set_cons_succ]
        refine wpAnyH_take (i := 8) (v := ?_) rfl (by kernel_rfl) (by kernel_rfl) (by kernel_rfl) (fun _ _ _ h => h) (Or.inl ⟨by kernel_rfl, ?_⟩) hh102 ?_
        rotate_left
        · intro w0 hSw
          (try dsimp only at hSw)
          go_simp
          try (with_reducible rfl)
        try simp only [Act.put, List.setIfInBounds_toArray, List.set_cons_zero, List.set_cons_succ]
        refine wpAnyH_take (i := 9) (v := ?_) rfl (by kernel_rfl) (by kernel_rfl) (by kernel_rfl) (fun _ _ _ h => h) (Or.inl ⟨by kernel_rfl, ?_⟩) hh102 ?_
        rotate_left
        · intro w0 hSw
          (try dsimp only at hSw)
          go_simp
          try (with_reducible rfl)
        try simp only [Act.put, List.setIfInBounds_toArray, List.set_cons_zero, List.set_cons_succ]
        refine wpAnyH_take (i := 10) (v := ?_) rfl (by kernel_rfl) (by kernel_rfl) (by kernel_rfl) (fun _ _ _ h => h) (Or.inl ⟨by kernel_rfl, ?_⟩) hh102 ?_
        rotate_left
        · intro w0 hSw
          (try dsimp only at hSw)
          go_simp
          try (with_reducible rfl)
        try simp only [Act.put, List.setIfInBounds_toArray, List.set_cons_zero, List.set_cons_succ]
        refine wpAnyH_take (i := 11) (v := ?_) rfl (by kernel_rfl) (by kernel_rfl) (by kernel_rfl) (fun _ _ _ h => h) (Or.inl ⟨by kernel_rfl, ?_⟩) hh102 ?_
        rotate_left
        · intro w0 hSw
          (try dsimp only at hSw)
          go_simp
          try (with_reducible rfl)
        try simp only [Act.put, List.setIfInBounds_toArray, List.set_cons_zero, List.set_cons_succ]
        refine wpAnyH_take (i := 12) (v := ?_) rfl (by kernel_rfl) (by kernel_rfl) (by kernel_rfl) (fun _ _ _ h => h) (Or.inl ⟨by kernel_rfl, ?_⟩) hh102 ?_
        rotate_left
        · intro w0 hSw
          (try dsimp only at hSw)
          go_simp
          try (with_reducible rfl)
        try simp only [Act.put, List.setIfInBounds_toArray, List.set_cons_zero, List.set_cons_succ]
        refine wpAnyH_take (i := 13) (v := ?_) rfl (by kernel_rfl) (by kernel_rfl) (by kernel_rfl) (fun _ _ _ h => h) (Or.inl ⟨by kernel_rfl, ?_⟩) hh102 ?_
        rotate_left
        · intro w0 hSw
          (try dsimp only at hSw)
          go_simp
          try (with_reducible rfl)
        try simp only [Act.put, List.setIfInBounds_toArray, List.set_cons_zero, List.set_cons_succ]
        refine wpAnyH_take (i := 14) (v := ?_) rfl (by kernel_rfl) (by kernel_rfl) (by kernel_rfl) (fun _ _ _ h => h) (Or.inl ⟨by kernel_rfl, ?_⟩) hh102 ?_
        rotate_left
        · intro w0 hSw
          (try dsimp only at hSw)
          go_simp
          try (with_reducible rfl)
        try simp only [Act.put, List.setIfInBounds_toArray, List.set_cons_zero, List.set_cons_succ]
        refine wpAnyH_take (i := 15) (v := ?_) rfl (by kernel_rfl) (by kernel_rfl) (by kernel_rfl) (fun _ _ _ h => h) (Or.inl ⟨by kernel_rfl, ?_⟩) hh102 ?_
        rotate_left
        · intro w0 hSw
          (try dsimp only at hSw)
          go_simp
          try (with_reducible rfl)
        try simp only [Act.put, List.setIfInBounds_toArray, List.set_cons_zero, List.set_cons_succ]
        refine wpAnyH_take (i := 16) (v := ?_) rfl (by kernel_rfl) (by kernel_rfl) (by kernel_rfl) (fun _ _ _ h => h) (Or.inl ⟨by kernel_rfl, ?_⟩) hh102 ?_
        rotate_left
        · intro w0 hSw
          (try dsimp only at hSw)
          go_simp
          try (with_reducible rfl)
        try simp only [Act.put, List.setIfInBounds_toArray, List.set_cons_zero, List.set_cons_succ]
        refine wpAnyH_take (i := 17) (v := ?_) rfl (by kernel_rfl) (by kernel_rfl) (by kernel_rfl) (fun _ _ _ h => h) (Or.inl ⟨by kernel_rfl, ?_⟩) hh102 ?_
        rotate_left
        · intro w0 hSw
          (try dsimp only at hSw)
          go_simp
          try (with_reducible rfl)
        try simp only [Act.put, List.setIfInBounds_toArray, List.set_cons_zero, List.set_cons_succ]
        refine wpAnyH_ready (rs := [18]) (by kernel_rfl) (by simp) ?_
        refine AllReadyH.cons rfl (fun K hK => ?_) AllReadyH.nil
        go_simp
        refine (cvariant_at _ _ A C W101 (Has.below HH15.out.2.2.1 hE101) (Has.below HH15.out.2.2.2.2.2.2 hE101) (by have := HZ.out.1; omega) (by have := HZ.out.2.2; omega)).mono ?_
        rintro e W103 ⟨he, hb103⟩
        obtain rfl : e = .returned (.bool true) := he.trans (by rw [← HG.out.2.2, HXZ.out])
        clear he
        go_wp2_with fail
        have hE103 : Below w14.heap.size w14 W103 := hE101.trans (hb103.mono hE101.size)
        refine hK.out _ _ (HS _ hE103) (fun hh104 => ?_)
        clear hK K
        try simp only [Act.put, List.setIfInBounds_toArray, List.set_cons_zero, List.set_cons_succ]
        refine wpAnyH_take (i := 19) (v := ?_) rfl (by kernel_rfl) (by kernel_rfl) (by kernel_rfl) (fun _ _ _ h => h) (Or.inl ⟨by kernel_rfl, ?_⟩) hh104 ?_
        rotate_left
        · intro w0 hSw
          (try dsimp only at hSw)
          go_simp
          try (with_reducible rfl)
        try simp only [Act.put, List.setIfInBounds_toArray, List.set_cons_zero, List.set_cons_succ]
        refine wpAnyH_take (i := 20) (v := ?_) rfl (by kernel_rfl) (by kernel_rfl) (by kernel_rfl) (fun _ _ _ h => h) (Or.inl ⟨by kernel_rfl, ?_⟩) hh104 ?_
        rotate_left
        · intro w0 hSw
          (try dsimp only at hSw)
          go_simp
          try (with_reducible rfl)
        try simp only [Act.put, List.setIfInBounds_toArray, List.set_cons_zero, List.set_cons_succ]
        refine wpAnyH_take (i := 21) (v := ?_) rfl (by kernel_rfl) (by kernel_rfl) (by kernel_rfl) (fun _ _ _ h => h) (Or.inl ⟨by kernel_rfl, ?_⟩) hh104 ?_
        rotate_left
        · intro w0 hSw
          (try dsimp only at hSw)
          go_simp
          try (with_reducible rfl)
        try simp only [Act.put, List.setIfInBounds_toArray, List.set_cons_zero, List.set_cons_succ]
        refine wpAnyH_take (i := 22) (v := ?_) rfl (by kernel_rfl) (by kernel_rfl) (by kernel_rfl) (fun _ _ _ h => h) (Or.inl ⟨by kernel_rfl, ?_⟩) hh104 ?_
        rotate_left
        · intro w0 hSw
          (try dsimp only at hSw)
          go_simp
          try (with_reducible rfl)
        try simp only [Act.put, List.setIfInBounds_toArray, List.set_cons_zero, List.set_cons_succ]
        refine wpAnyH_take (i := 23) (v := ?_) rfl (by kernel_rfl) (by kernel_rfl) (by kernel_rfl) (fun _ _ _ h => h) (Or.inl ⟨by kernel_rfl, ?_⟩) hh104 ?_
        rotate_left
        · intro w0 hSw
          (try dsimp only at hSw)
          go_simp
          try (with_reducible rfl)
        try simp only [Act.put, List.setIfInBounds_toArray, List.set_cons_zero, List.set_cons_succ]
        refine wpAnyH_ready (rs := [24]) (by kernel_rfl) (by simp) ?_
        refine AllReadyH.cons rfl (fun K hK => ?_) AllReadyH.nil
        go_simp
        refine (cvariant_at _ _ A A W103 (Has.below HH15.out.2.2.1 hE103) (Has.below HH15.out.2.2.1 hE103) (by have := HZ.out.1; omega) (by have := HZ.out.1; omega)).mono ?_
        rintro e W105 ⟨he, hb105⟩
        obtain rfl : e = .returned (.bool true) := he.trans (by rw [decide_eq_true rfl])
        clear he
        go_wp2_with fail
        have hE105 : Below w14.heap.size w14 W105 := hE103.trans (hb105.mono hE103.size)
        refine hK.out _ _ (HS _ hE105) (fun hh106 => ?_)
        clear hK K
        try simp only [Act.put, List.setIfInBounds_toArray, List.set_cons_zero, List.set_cons_succ]
        refine wpAnyH_take (i := 25) (v := ?_) rfl (by kernel_rfl) (by kernel_rfl) (by kernel_rfl) (fun _ _ _ h => h) (Or.inl ⟨by kernel_rfl, ?_⟩) hh106 ?_
        rotate_left
        · intro w0 hSw
          (try dsimp only at hSw)
          go_simp
          try (with_reducible rfl)
        try simp only [Act.put, List.setIfInBounds_toArray, List.set_cons_zero, List.set_cons_succ]
        refine wpAnyH_take (i := 26) (v := ?_) rfl (by kernel_rfl) (by kernel_rfl) (by kernel_rfl) (fun _ _ _ h => h) (Or.inl ⟨by kernel_rfl, ?_⟩) hh106 ?_
        rotate_left
        · intro w0 hSw
          (try dsimp only at hSw)
          go_simp
          try (with_reducible rfl)
        try simp only [Act.put, List.setIfInBounds_toArray, List.set_cons_zero, List.set_cons_succ]
        refine wpAnyH_take (i := 27) (v := ?_) rfl (by kernel_rfl) (by kernel_rfl) (by kernel_rfl) (fun _ _ _ h => h) (Or.inl ⟨by kernel_rfl, ?_⟩) hh106 ?_
        rotate_left
        · intro w0 hSw
          (try dsimp only at hSw)
          go_simp
          try (with_reducible rfl)
        try simp only [Act.put, List.setIfInBounds_toArray, List.set_cons_zero, List.set_cons_succ]
        refine wpAnyH_take (i := 28) (v := ?_) rfl (by kernel_rfl) (by kernel_rfl) (by kernel_rfl) (fun _ _ _ h => h) (Or.inl ⟨by kernel_rfl, ?_⟩) hh106 ?_
        rotate_left
        · intro w0 hSw
          (try dsimp only at hSw)
          go_simp
          try (with_reducible rfl)
        try simp only [Act.put, List.setIfInBounds_toArray, List.set_cons_zero, List.set_cons_succ]
        refine wpAnyH_take (i := 29) (v := ?_) rfl (by kernel_rfl) (by kernel_rfl) (by kernel_rfl) (fun _ _ _ h => h) (Or.inl ⟨by kernel_rfl, ?_⟩) hh106 ?_
        rotate_left
        · intro w0 hSw
          (try dsimp only at hSw)
          go_simp
          try (with_reducible rfl)
        try simp only [Act.put, List.setIfInBounds_toArray, List.set_cons_zero, List.set_cons_succ]
        refine wpAnyH_take (i := 30) (v := ?_) rfl (by kernel_rfl) (by kernel_rfl) (by kernel_rfl) (fun _ _ _ h => h) (Or.inl ⟨by kernel_rfl, ?_⟩) hh106 ?_
        rotate_left
        · intro w0 hSw
          (try dsimp only at hSw)
          go_simp
          try (with_reducible rfl)
        try simp only [Act.put, List.setIfInBounds_toArray, List.set_cons_zero, List.set_cons_succ]
        refine wpAnyH_take (i := 31) (v := ?_) rfl (by kernel_rfl) (by kernel_rfl) (by kernel_rfl) (fun _ _ _ h => h) (Or.inl ⟨by kernel_rfl, ?_⟩) hh106 ?_
        rotate_left
        · intro w0 hSw
          (try dsimp only at hSw)
          go_simp
          try (with_reducible rfl)
        try simp only [Act.put, List.setIfInBounds_toArray, List.set_cons_zero, List.set_cons_succ]
        refine wpAnyH_take (i := 32) (v := ?_) rfl (by kernel_rfl) (by kernel_rfl) (by kernel_rfl) (fun _ _ _ h => h) (Or.inl ⟨by kernel_rfl, ?_⟩) hh106 ?_
        rotate_left
        · intro w0 hSw
          (try dsimp only at hSw)
          go_simp
          try (with_reducible rfl)
        try simp only [Act.put, List.setIfInBounds_toArray, List.set_cons_zero, List.set_cons_succ]
        refine wpAnyH_take (i := 33) (v := ?_) rfl (by kernel_rfl) (by kernel_rfl) (by kernel_rfl) (fun _ _ _ h => h) (Or.inl ⟨by kernel_rfl, ?_⟩) hh106 ?_
        rotate_left
        · intro w0 hSw
          (try dsimp only at hSw)
          go_simp
          try (with_reducible rfl)
        try simp only [Act.put, List.setIfInBounds_toArray, List.set_cons_zero, List.set_cons_succ]
        refine wpAnyH_ready (rs := [34]) (by kernel_rfl) (by simp) ?_
        refine AllReadyH.cons rfl (fun K hK => ?_) AllReadyH.nil
        go_simp
        refine (shift_at by_ A _ W105 (Has.below HH15.out.2.2.1 hE105) (by have := HZ.out.1; omega)).mono ?_
        intro e W107 hh_
        obtain ⟨kg, ng, sg, ag, lg, cg, rfl, hNg, hb107⟩ := hh_.has13
        have hTg := has_new13 hNg
        go_wp2_with fail
        have hE107 : Below w14.heap.size w14 W107 := hE105.trans (hb107.mono hE105.size)
        refine hK.out _ _ (HS _ hE107) (fun hh108 => ?_)
        clear hK K
        try simp only [Act.put, List.setIfInBounds_toArray, List.set_cons_zero, List.set_cons_succ]
        refine wpAnyH_ready (rs := [35]) (by kernel_rfl) (by simp) ?_
        refine AllReadyH.cons rfl (fun K hK => ?_) AllReadyH.nil
        go_simp
        refine (cvariant_at _ _ A (A.shift by_) W107 (Has.below HH15.out.2.2.1 hE107) (hTg) (by have := HZ.out.1; omega) (by rw [Tm.size_shift]; have := HZ.out.1; omega)).mono ?_
        rintro e W109 ⟨he, hb109⟩
        obtain rfl : e = .returned (.bool true) := he.trans (by rw [decide_eq_true HG.out.1.symm])
        clear he
        go_wp2_with fail
        have hE109 : Below w14.heap.size w14 W109 := hE107.trans (hb109.mono hE107.size)
        refine hK.out _ _ (HS _ hE109) (fun hh110 => ?_)
        clear hK K
        try simp only [Act.put, List.setIfInBounds_toArray, List.set_cons_zero, List.set_cons_succ]
        refine wpAnyH_take (i := 36) (v := ?_) rfl (by kernel_rfl) (by kernel_rfl) (by kernel_rfl) (fun _ _ _ h => h) (Or.inl ⟨by kernel_rfl, ?_⟩) hh110 ?_
        rotate_left
        · intro w0 hSw
          (try dsimp only at hSw)
          go_simp
          try (with_reducible rfl)
        try simp only [Act.put, List.setIfInBounds_toArray, List.set_cons_zero, List.set_cons_succ]
        refine wpAnyH_take (i := 37) (v := ?_) rfl (by kernel_rfl) (by kernel_rfl) (by kernel_rfl) (fun _ _ _ h => h) (Or.inl ⟨by kernel_rfl, ?_⟩) hh110 ?_
        rotate_left
        · intro w0 hSw
          (try dsimp only at hSw)
          go_simp
          try (with_reducible rfl)
        try simp only [Act.put, List.setIfInBounds_toArray, List.set_cons_zero, List.set_cons_succ]
        refine wpAnyH_done (by kernel_rfl) ?_ _
        refine last_of_list rfl ?_
        go_wp2_with fail
        go_ret
        exact ⟨rfl, HH15.out.1.trans (hE109.mono HH15.out.1.size)⟩
      · have hck1 : (ck == 0) = false := by simpa using hc0
        have hck2 : ¬ (ck = 0) := hc0
        clear hc0
        refine wp_region_last (S := (fun w' : World => (w'.cell? ⟨w.heap.size, 0, none⟩ = some (.int .i64 k1)) ∧ (w'.cell? ⟨w.heap.size, 1, none⟩ = some (.int .i64 n1)) ∧ (w'.cell? ⟨w.heap.size, 2, none⟩ = some (.string s1)) ∧ (w'.cell? ⟨w.heap.size, 3, none⟩ = some (.slice a1 l1 c1)) ∧ (w'.cell? ⟨w.heap.size + 1, 0, none⟩ = some (.int .i64 k2)) ∧ (w'.cell? ⟨w.heap.size + 1, 1, none⟩ = some (.int .i64 n2)) ∧ (w'.cell? ⟨w.heap.size + 1, 2, none⟩ = some (.string s2)) ∧ (w'.cell? ⟨w.heap.size + 1, 3, none⟩ = some (.slice a2 l2 c2)) ∧ (w'.cell? ⟨w.heap.size + 1 + 1, 0, none⟩ = some (.int .i64 k3)) ∧ (w'.cell? ⟨w.heap.size + 1 + 1, 1, none⟩ = some (.int .i64 n3)) ∧ (w'.cell? ⟨w.heap.size + 1 + 1, 2, none⟩ = some (.string s3)) ∧ (w'.cell? ⟨w.heap.size + 1 + 1, 3, none⟩ = some (.slice a3 l3 c3)))) 38 rfl (by kernel_rfl) (HS _ (Below.refl _ _).drew) fun hHeld => ?_
        simp only [List.take_succ_cons, List.take_zero]
        have hE0 : Below w14.heap.size w14 w14.drew := (Below.refl _ _).drew
        refine wpAnyH_take (i := 0) (v := ?_) rfl (by kernel_rfl) (by kernel_rfl) (by kernel_rfl) (fun _ _ _ h => h) (Or.inl ⟨by kernel_rfl, ?_⟩) hHeld ?_
        rotate_left
        · intro w0 hSw
          (try dsimp only at hSw)
          go_simp
          try (with_reducible rfl)
        try simp only [Act.put, List.setIfInBounds_toArray, List.set_cons_zero, List.set_cons_succ]
        refine wpAnyH_take (i := 1) (v := ?_) rfl (by kernel_rfl) (by kernel_rfl) (by kernel_rfl) (fun _ _ _ h => h) (Or.inl ⟨by kernel_rfl, ?_⟩) hHeld ?_
        rotate_left
        · intro w0 hSw
          (try dsimp only at hSw)
          go_simp
          try (with_reducible rfl)
        try simp only [Act.put, List.setIfInBounds_toArray, List.set_cons_zero, List.set_cons_succ]
        refine wpAnyH_take (i := 2) (v := ?_) rfl (by kernel_rfl) (by kernel_rfl) (by kernel_rfl) (fun _ _ _ h => h) (Or.inl ⟨by kernel_rfl, ?_⟩) hHeld ?_
        rotate_left
        · intro w0 hSw
          (try dsimp only at hSw)
          go_simp
          try (with_reducible rfl)
        try simp only [Act.put, List.setIfInBounds_toArray, List.set_cons_zero, List.set_cons_succ]
        refine wpAnyH_take (i := 3) (v := ?_) rfl (by kernel_rfl) (by kernel_rfl) (by kernel_rfl) (fun _ _ _ h => h) (Or.inl ⟨by kernel_rfl, ?_⟩) hHeld ?_
        rotate_left
        · intro w0 hSw
          (try dsimp only at hSw)
          go_simp
          try (with_reducible rfl)
        try simp only [Act.put, List.setIfInBounds_toArray, List.set_cons_zero, List.set_cons_succ]
        refine wpAnyH_take (i := 4) (v := ?_) rfl (by kernel_rfl) (by kernel_rfl) (by kernel_rfl) (fun _ _ _ h => h) (Or.inl ⟨by kernel_rfl, ?_⟩) hHeld ?_
        rotate_left
        · intro w0 hSw
          (try dsimp only at hSw)
          go_simp
          try (with_reducible rfl)
        try simp only [Act.put, List.setIfInBounds_toArray, List.set_cons_zero, List.set_cons_succ]
        generalize w14.drew = wD at hHeld hE0 ⊢
        refine wpAnyH_ready (rs := [5]) (by kernel_rfl) (by simp) ?_
        refine AllReadyH.cons rfl (fun K hK => ?_) AllReadyH.nil
        go_simp
        refine (cvariant_at _ _ B A wD (Has.below HH15.out.2.2.2.2.1 hE0) (Has.below HH15.out.2.2.1 hE0) (by have := HZ.out.2.1; omega) (by have := HZ.out.1; omega)).mono ?_
        rintro e W101 ⟨he, hb101⟩
        obtain rfl : e = .returned (.bool true) := he.trans (by rw [HG.out.2.1])
        clear he
        go_wp2_with fail
        have hE101 : Below w14.heap.size w14 W101 := hE0.trans (hb101.mono hE0.size)
        refine hK.out _ _ (HS _ hE101) (fun hh102 => ?_)
        clear hK K
        try simp only [Act.put, List.setIfInBounds_toArray, List.set_cons_zero, List.set_cons_succ]
        refine wpAnyH_take (i := 6) (v := ?_) rfl (by kernel_rfl) (by kernel_rfl) (by kernel_rfl) (fun _ _ _ h => h) (Or.inl ⟨by kernel_rfl, ?_⟩) hh102 ?_
        rotate_left
        · intro w0 hSw
          (try dsimp only at hSw)
          go_simp
          try (with_reducible rfl)
        try simp only [Act.put, List.setIfInBounds_toArray, List.set_cons_zero, List.set_cons_succ]
        refine wpAnyH_take (i := 7) (v := ?_) rfl (by kernel_rfl) (by kernel_rfl) (by kernel_rfl) (fun _ _ _ h => h) (Or.inl ⟨by kernel_rfl, ?_⟩) hh102 ?_
        rotate_left
        · intro w0 hSw
          (try dsimp only at hSw)
          go_simp
          try (with_reducible rfl)
        try simp only [Act.put, List.setIfInBounds_toArray, List.set_cons_zero, List.set_cons_succ]
        refine wpAnyH_take (i := 8) (v := ?_) rfl (by kernel_rfl) (by kernel_rfl) (by kernel_rfl) (fun _ _ _ h => h) (Or.inl ⟨by kernel_rfl, ?_⟩) hh102 ?_
        rotate_left
        · intro w0 hSw
          (try dsimp only at hSw)
          go_simp
          try (with_reducible rfl)
        try simp only [Act.put, List.setIfInBounds_toArray, List.set_cons_zero, List.set_cons_succ]
        refine wpAnyH_take (i := 9) (v := ?_) rfl (by kernel_rfl) (by kernel_rfl) (by kernel_rfl) (fun _ _ _ h => h) (Or.inl ⟨by kernel_rfl, ?_⟩) hh102 ?_
        rotate_left
        · intro w0 hSw
          (try dsimp only at hSw)
          go_simp
          try (with_reducible rfl)
        try simp only [Act.put, List.setIfInBounds_toArray, List.set_cons_zero, List.set_cons_succ]
        refine wpAnyH_take (i := 10) (v := ?_) rfl (by kernel_rfl) (by kernel_rfl) (by kernel_rfl) (fun _ _ _ h => h) (Or.inl ⟨by kernel_rfl, ?_⟩) hh102 ?_
        rotate_left
        · intro w0 hSw
          (try dsimp only at hSw)
          go_simp
          try (with_reducible rfl)
        try simp only [Act.put, List.setIfInBounds_toArray, List.set_cons_zero, List.set_cons_succ]
        refine wpAnyH_take (i := 11) (v := ?_) rfl (by kernel_rfl) (by kernel_rfl) (by kernel_rfl) (fun _ _ _ h => h) (Or.inl ⟨by kernel_rfl, ?_⟩) hh102 ?_
        rotate_left
        · intro w0 hSw
          (try dsimp only at hSw)
          go_simp
          try (with_reducible rfl)
        try simp only [Act.put, List.setIfInBounds_toArray, List.set_cons_zero, List.set_cons_succ]
        refine wpAnyH_take (i := 12) (v := ?_) rfl (by kernel_rfl) (by kernel_rfl) (by kernel_rfl) (fun _ _ _ h => h) (Or.inl ⟨by kernel_rfl, ?_⟩) hh102 ?_
        rotate_left
        · intro w0 hSw
          (try dsimp only at hSw)
          go_simp
          try (with_reducible rfl)
        try simp only [Act.put, List.setIfInBounds_toArray, List.set_cons_zero, List.set_cons_succ]
        refine wpAnyH_take (i := 13) (v := ?_) rfl (by kernel_rfl) (by kernel_rfl) (by kernel_rfl) (fun _ _ _ h => h) (Or.inl ⟨by kernel_rfl, ?_⟩) hh102 ?_
        rotate_left
        · intro w0 hSw
          (try dsimp only at hSw)
          go_simp
          try (with_reducible rfl)
        try simp only [Act.put, List.setIfInBounds_toArray, List.set_cons_zero, List.set_cons_succ]
        refine wpAnyH_take (i := 14) (v := ?_) rfl (by kernel_rfl) (by kernel_rfl) (by kernel_rfl) (fun _ _ _ h => h) (Or.inl ⟨by kernel_rfl, ?_⟩) hh102 ?_
        rotate_left
        · intro w0 hSw
          (try dsimp only at hSw)
          go_simp
          try (with_reducible rfl)
        try simp only [Act.put, List.setIfInBounds_toArray, List.set_cons_zero, List.set_cons_succ]
        refine wpAnyH_take (i := 15) (v := ?_) rfl (by kernel_rfl) (by kernel_rfl) (by kernel_rfl) (fun _ _ _ h => h) (Or.inl ⟨by kernel_rfl, ?_⟩) hh102 ?_
        rotate_left
        · intro w0 hSw
          (try dsimp only at hSw)
          go_simp
          try (with_reducible rfl)
        try simp only [Act.put, List.setIfInBounds_toArray, List.set_cons_zero, List.set_cons_succ]
        refine wpAnyH_take (i := 16) (v := ?_) rfl (by kernel_rfl) (by kernel_rfl) (by kernel_rfl) (fun _ _ _ h => h) (Or.inl ⟨by kernel_rfl, ?_⟩) hh102 ?_
        rotate_left
        · intro w0 hSw
          (try dsimp only at hSw)
          go_simp
          try (with_reducible rfl)
        try simp only [Act.put, List.setIfInBounds_toArray, List.set_cons_zero, List.set_cons_succ]
        refine wpAnyH_take (i := 17) (v := ?_) rfl (by kernel_rfl) (by kernel_rfl) (by kernel_rfl) (fun _ _ _ h => h) (Or.inl ⟨by kernel_rfl, ?_⟩) hh102 ?_
        rotate_left
        · intro w0 hSw
          (try dsimp only at hSw)
          go_simp
          try (with_reducible rfl)
        try simp only [Act.put, List.setIfInBounds_toArray, List.set_cons_zero, List.set_cons_succ]
        refine wpAnyH_ready (rs := [18]) (by kernel_rfl) (by simp) ?_
        refine AllReadyH.cons rfl (fun K hK => ?_) AllReadyH.nil
        go_simp
        refine (cvariant_at _ _ A C W101 (Has.below HH15.out.2.2.1 hE101) (Has.below HH15.out.2.2.2.2.2.2 hE101) (by have := HZ.out.1; omega) (by have := HZ.out.2.2; omega)).mono ?_
        rintro e W103 ⟨he, hb103⟩
        obtain rfl : e = .returned (.bool true) := he.trans (by rw [← HG.out.2.2, HXZ.out])
        clear he
        go_wp2_with fail
        have hE103 : Below w14.heap.size w14 W103 := hE101.trans (hb103.mono hE101.size)
        refine hK.out _ _ (HS _ hE103) (fun hh104 => ?_)
        clear hK K
        try simp only [Act.put, List.setIfInBounds_toArray, List.set_cons_zero, List.set_cons_succ]
        refine wpAnyH_take (i := 19) (v := ?_) rfl (by kernel_rfl) (by kernel_rfl) (by kernel_rfl) (fun _ _ _ h => h) (Or.inl ⟨by kernel_rfl, ?_⟩) hh104 ?_
        rotate_left
        · intro w0 hSw
          (try dsimp only at hSw)
          go_simp
          try (with_reducible rfl)
        try simp only [Act.put, List.setIfInBounds_toArray, List.set_cons_zero, List.set_cons_succ]
        refine wpAnyH_take (i := 20) (v := ?_) rfl (by kernel_rfl) (by kernel_rfl) (by kernel_rfl) (fun _ _ _ h => h) (Or.inl ⟨by kernel_rfl, ?_⟩) hh104 ?_
        rotate_left
        · intro w0 hSw
          (try dsimp only at hSw)
          go_simp
          try (with_reducible rfl)
        try simp only [Act.put, List.setIfInBounds_toArray, List.set_cons_zero, List.set_cons_succ]
        refine wpAnyH_take (i := 21) (v := ?_) rfl (by kernel_rfl) (by kernel_rfl) (by kernel_rfl) (fun _ _ _ h => h) (Or.inl ⟨by kernel_rfl, ?_⟩) hh104 ?_
        rotate_left
        · intro w0 hSw
          (try dsimp only at hSw)
          go_simp
          try (with_reducible rfl)
        try simp only [Act.put, List.setIfInBounds_toArray, List.set_cons_zero, List.set_cons_succ]
        refine wpAnyH_take (i := 22) (v := ?_) rfl (by kernel_rfl) (by kernel_rfl) (by kernel_rfl) (fun _ _ _ h => h) (Or.inl ⟨by kernel_rfl, ?_⟩) hh104 ?_
        rotate_left
        · intro w0 hSw
          (try dsimp only at hSw)
          go_simp
          try (with_reducible rfl)
        try simp only [Act.put, List.setIfInBounds_toArray, List.set_cons_zero, List.set_cons_succ]
        refine wpAnyH_take (i := 23) (v := ?_) rfl (by kernel_rfl) (by kernel_rfl) (by kernel_rfl) (fun _ _ _ h => h) (Or.inl ⟨by kernel_rfl, ?_⟩) hh104 ?_
        rotate_left
        · intro w0 hSw
          (try dsimp only at hSw)
          go_simp
          try (with_reducible rfl)
        try simp only [Act.put, List.setIfInBounds_toArray, List.set_cons_zero, List.set_cons_succ]
        refine wpAnyH_ready (rs := [24]) (by kernel_rfl) (by simp) ?_
        refine AllReadyH.cons rfl (fun K hK => ?_) AllReadyH.nil
        go_simp
        refine (cvariant_at _ _ A A W103 (Has.below HH15.out.2.2.1 hE103) (Has.below HH15.out.2.2.1 hE103) (by have := HZ.out.1; omega) (by have := HZ.out.1; omega)).mono ?_
        rintro e W105 ⟨he, hb105⟩
        obtain rfl : e = .returned (.bool true) := he.trans (by rw [decide_eq_true rfl])
        clear he
        go_wp2_with fail
        have hE105 : Below w14.heap.size w14 W105 := hE103.trans (hb105.mono hE103.size)
        refine hK.out _ _ (HS _ hE105) (fun hh106 => ?_)
        clear hK K
        try simp only [Act.put, List.setIfInBounds_toArray, List.set_cons_zero, List.set_cons_succ]
        refine wpAnyH_take (i := 25) (v := ?_) rfl (by kernel_rfl) (by kernel_rfl) (by kernel_rfl) (fun _ _ _ h => h) (Or.inl ⟨by kernel_rfl, ?_⟩) hh106 ?_
        rotate_left
        · intro w0 hSw
          (try dsimp only at hSw)
          go_simp
          try (with_reducible rfl)
        try simp only [Act.put, List.setIfInBounds_toArray, List.set_cons_zero, List.set_cons_succ]
        refine wpAnyH_take (i := 26) (v := ?_) rfl (by kernel_rfl) (by kernel_rfl) (by kernel_rfl) (fun _ _ _ h => h) (Or.inl ⟨by kernel_rfl, ?_⟩) hh106 ?_
        rotate_left
        · intro w0 hSw
          (try dsimp only at hSw)
          go_simp
          try (with_reducible rfl)
        try simp only [Act.put, List.setIfInBounds_toArray, List.set_cons_zero, List.set_cons_succ]
        refine wpAnyH_take (i := 27) (v := ?_) rfl (by kernel_rfl) (by kernel_rfl) (by kernel_rfl) (fun _ _ _ h => h) (Or.inl ⟨by kernel_rfl, ?_⟩) hh106 ?_
        rotate_left
        · intro w0 hSw
          (try dsimp only at hSw)
          go_simp
          try (with_reducible rfl)
        try simp only [Act.put, List.setIfInBounds_toArray, List.set_cons_zero, List.set_cons_succ]
        refine wpAnyH_take (i := 28) (v := ?_) rfl (by kernel_rfl) (by kernel_rfl) (by kernel_rfl) (fun _ _ _ h => h) (Or.inl ⟨by kernel_rfl, ?_⟩) hh106 ?_
        rotate_left
        · intro w0 hSw
          (try dsimp only at hSw)
          go_simp
          try (with_reducible rfl)
        try simp only [Act.put, List.setIfInBounds_toArray, List.set_cons_zero, List.set_cons_succ]
        refine wpAnyH_take (i := 29) (v := ?_) rfl (by kernel_rfl) (by kernel_rfl) (by kernel_rfl) (fun _ _ _ h => h) (Or.inl ⟨by kernel_rfl, ?_⟩) hh106 ?_
        rotate_left
        · intro w0 hSw
          (try dsimp only at hSw)
          go_simp
          try (with_reducible rfl)
        try simp only [Act.put, List.setIfInBounds_toArray, List.set_cons_zero, List.set_cons_succ]
        refine wpAnyH_take (i := 30) (v := undef) rfl (by kernel_rfl) (by kernel_rfl) (by kernel_rfl) (fun _ _ _ h => h) (Or.inr ⟨by kernel_rfl, rfl⟩) hh106 ?_
        try simp only [Act.put, List.setIfInBounds_toArray, List.set_cons_zero, List.set_cons_succ]
        refine wpAnyH_take (i := 31) (v := undef) rfl (by kernel_rfl) (by kernel_rfl) (by kernel_rfl) (fun _ _ _ h => h) (Or.inr ⟨by kernel_rfl, rfl⟩) hh106 ?_
        try simp only [Act.put, List.setIfInBounds_toArray, List.set_cons_zero, List.set_cons_succ]
        refine wpAnyH_take (i := 32) (v := undef) rfl (by kernel_rfl) (by kernel_rfl) (by kernel_rfl) (fun _ _ _ h => h) (Or.inr ⟨by kernel_rfl, rfl⟩) hh106 ?_
        try simp only [Act.put, List.setIfInBounds_toArray, List.set_cons_zero, List.set_cons_succ]
        refine wpAnyH_take (i := 33) (v := undef) rfl (by kernel_rfl) (by kernel_rfl) (by kernel_rfl) (fun _ _ _ h => h) (Or.inr ⟨by kernel_rfl, rfl⟩) hh106 ?_
        try simp only [Act.put, List.setIfInBounds_toArray, List.set_cons_zero, List.set_cons_succ]
        refine wpAnyH_take (i := 34) (v := undef) rfl (by kernel_rfl) (by kernel_rfl) (by kernel_rfl) (fun _ _ _ h => h) (Or.inr ⟨by kernel_rfl, rfl⟩) hh106 ?_
        try simp only [Act.put, List.setIfInBounds_toArray, List.set_cons_zero, List.set_cons_succ]
        refine wpAnyH_take (i := 35) (v := undef) rfl (by kernel_rfl) (by kernel_rfl) (by kernel_rfl) (fun _ _ _ h => h) (Or.inr ⟨by kernel_rfl, rfl⟩) hh106 ?_
        try simp only [Act.put, List.setIfInBounds_toArray, List.set_cons_zero, List.set_cons_succ]
        refine wpAnyH_take (i := 36) (v := ?_) rfl (by kernel_rfl) (by kernel_rfl) (by kernel_rfl) (fun _ _ _ h => h) (Or.inl ⟨by kernel_rfl, ?_⟩) hh106 ?_
        rotate_left
        · intro w0 hSw
          (try dsimp only at hSw)
          go_simp
          try (with_reducible rfl)
        try simp only [Act.put, List.setIfInBounds_toArray, List.set_cons_zero, List.set_cons_succ]
        refine wpAnyH_take (i := 37) (v := ?_) rfl (by kernel_rfl) (by kernel_rfl) (by kernel_rfl) (fun _ _ _ h => h) (Or.inl ⟨by kernel_rfl, ?_⟩) hh106 ?_
        rotate_left
        · intro w0 hSw
          (try dsimp only at hSw)
          go_simp
          try (with_reducible rfl)
        try simp only [Act.put, List.setIfInBounds_toArray, List.set_cons_zero, List.set_cons_succ]
        refine wpAnyH_done (by kernel_rfl) ?_ _
        refine last_of_list rfl ?_
        go_wp2_with fail
        go_ret
        exact ⟨rfl, HH15.out.1.trans (hE105.mono HH15.out.1.size)⟩
end Go.Proofs.Ytlnggaepmclbkaa
