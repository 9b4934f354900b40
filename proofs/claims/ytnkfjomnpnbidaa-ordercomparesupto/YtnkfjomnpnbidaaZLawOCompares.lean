/-
  The law OrderCompares: its walk.
-/
import Derived.Test.YtnkfjomnpnbidaaZSrtJn4
import Derived.Test.YtnkfjomnpnbidaaZRefSort
import Derived.Deep.RegionWith
import Derived.Deep.RegionHeld3
import Derived.Deep.DeepCutAuto
namespace Go.Proofs.Ytnkfjomnpnbidaa
open Go.RowKit Go.Shelf
open Classical
set_option linter.unusedVariables false
set_option linter.unusedSimpArgs false

theorem sizes_le9 {M : Nat} : ∀ {ks : List Tm}, (∀ t ∈ ks, t.size ≤ M) → Tm.sizes ks ≤ ks.length * M
  | [], _ => by rw [Tm.sizes_nil]; omega
  | t :: ts, h => by
    rw [Tm.sizes_cons, List.length_cons, Nat.add_mul]
    have h1 := h t (by simp)
    have h2 := sizes_le9 (ks := ts) (fun u hu => h u (by simp [hu]))
    omega
set_option maxRecDepth 100000 in
set_option maxHeartbeats 16000000 in
theorem orderCompares_at (u v z : Value) (A B : Tm) (ks : List Tm) (w : World) (hu : Has w u A) (hv : Has w v B) (hz : HasTs w z ks) (sA : A.size ≤ 1048576) (sB : B.size ≤ 1048576) (sK : Tm.sizes ks ≤ 1048576) :
    Calls Try.prog 3 #[u, v, z] w fun r w' => r = .returned (.bool true) ∧ Below w.heap.size w w' := by
  obtain ⟨k1, n1, s1, a1, l1, c1, ks1, rfl, e_1, -⟩ := hu.form
  obtain ⟨k2, n2, s2, a2, l2, c2, ks2, rfl, e_2, -⟩ := hv.form
  clear e_1 e_2
  obtain ⟨a, cap, rfl, hc, hmx, hx⟩ := ts_at hz
  have hks : ∀ t ∈ ks, t.size ≤ 1048576 := fun t ht => Nat.le_trans (Tm.size_le_sizes ht) sK
  have hkl : ks.length ≤ 1048576 := Nat.le_trans (Tm.length_le_sizes ks) sK
  obtain ⟨w2, hw2⟩ : ∃ w2, w2 = ((w.alloc (.cells #[.int .i64 k1, .int .i64 n1, .string s1, .slice a1 l1 c1] 24)).alloc (.cells #[.int .i64 k2, .int .i64 n2, .string s2, .slice a2 l2 c2] 24)) := ⟨_, rfl⟩
  have hB2 : Below w.heap.size w w2 := by rw [hw2]; exact ((Below.refl _ w).alloc (Nat.le_refl _) _).alloc (by simp) _
  have hx1 : w2.heap[w.heap.size]? = some (.cells #[.int .i64 k1, .int .i64 n1, .string s1, .slice a1 l1 c1] 24 (0, 0)) := by rw [hw2]; exact (Below.heap_alloc _ _ _ (by simp)).trans (World.alloc_heap_new _ _)
  have hx2 : w2.heap[w.heap.size + 1]? = some (.cells #[.int .i64 k2, .int .i64 n2, .string s2, .slice a2 l2 c2] 24 (0, 0)) := by rw [hw2]; simpa using World.alloc_heap_new (w.alloc (.cells #[.int .i64 k1, .int .i64 n1, .string s1, .slice a1 l1 c1] 24)) (.cells #[.int .i64 k2, .int .i64 n2, .string s2, .slice a2 l2 c2] 24)
  have H2 := Lib.hid (And.intro hB2 (And.intro hx1 (And.intro hx2 (And.intro (Has.below hu hB2) (And.intro (Has.below hv hB2) (show HasTs w2 (.slice a ks.length cap) ks from hz.carry (fun b hb => hB2.block b hb) (fun b hb => Nat.lt_of_lt_of_le hb hB2.size)))))))
  have HX := Lib.hid hx
  have HK := Lib.hid (And.intro hks sK)
  have HW := Lib.hid hw2
  clear hw2 hB2 hx1 hx2 hu hv hz hx hks
  go_enter Try.func3, Try.ntmps3
  go_upto_region 1 with fail
  rw [← HW.out]
  go_wp2_with fail
  refine (oshown_at w2).mono ?_
  rintro r w3 ⟨rfl, hb3⟩
  have HB3 := Lib.hid hb3
  have fa := fun W (hb : Below w2.heap.size w2 W) => ofew_at _ A W (Has.below H2.out.2.2.2.1 hb) (by omega)
  have fb := fun W (hb : Below w2.heap.size w2 W) => ofew_at _ B W (Has.below H2.out.2.2.2.2.1 hb) (by omega)
  obtain ⟨x0, x1, x2, x3⟩ := tbox_cells (tbox_below H2.out.2.1 hb3)
  by_cases qa : A.size ≤ 500
  case neg =>
    rw [decide_eq_false qa] at fa
    clear qa
    go_wp2_with (go_at_call 11; (with_reducible refine (fa _ hb3).mono ?_); rintro e wa ⟨rfl, hba⟩)
    go_ret
    exact ⟨rfl, H2.out.1.trans ((hb3.trans (hba.mono hb3.size)).mono H2.out.1.size)⟩
  rw [decide_eq_true qa] at fa
  by_cases qb : B.size ≤ 500
  case neg =>
    rw [decide_eq_false qb] at fb
    clear qb qa
    go_wp2_with (first
      | (go_at_call 11; (have hq := hba; clear hq); (with_reducible refine (fb _ (hb3.trans (hba.mono hb3.size))).mono ?_); rintro e wb ⟨rfl, hbb⟩)
      | (go_at_call 11; (with_reducible refine (fa _ hb3).mono ?_); rintro e wa ⟨rfl, hba⟩; obtain ⟨y0, y1, y2, y3⟩ := tbox_cells (tbox_below H2.out.2.2.1 (hb3.trans (hba.mono hb3.size)))))
    go_ret
    exact ⟨rfl, H2.out.1.trans (((hb3.trans (hba.mono hb3.size)).trans (hbb.mono (hb3.trans (hba.mono hb3.size)).size)).mono H2.out.1.size)⟩
  rw [decide_eq_true qb] at fb
  clear qa qb
  by_cases h30 : 30 < ks.length
  case pos =>
    have h30z : (ks.length : Int) > 30 := by omega
    clear h30
    go_wp2_with (first
      | (go_at_call 11; (have hq := hba; clear hq); (with_reducible refine (fb _ (hb3.trans (hba.mono hb3.size))).mono ?_); rintro e wb ⟨rfl, hbb⟩)
      | (go_at_call 11; (with_reducible refine (fa _ hb3).mono ?_); rintro e wa ⟨rfl, hba⟩; obtain ⟨y0, y1, y2, y3⟩ := tbox_cells (tbox_below H2.out.2.2.1 (hb3.trans (hba.mono hb3.size)))))
    go_ret
    exact ⟨rfl, H2.out.1.trans (((hb3.trans (hba.mono hb3.size)).trans (hbb.mono (hb3.trans (hba.mono hb3.size)).size)).mono H2.out.1.size)⟩
  have h30z : ¬ (ks.length : Int) > 30 := by omega
  have H30 := Lib.hid h30
  clear h30
  go_wp2_with (first
      | (go_at_call 11; (have hq := hba; clear hq); (with_reducible refine (fb _ (hb3.trans (hba.mono hb3.size))).mono ?_); rintro e wb ⟨rfl, hbb⟩)
      | (go_at_call 11; (with_reducible refine (fa _ hb3).mono ?_); rintro e wa ⟨rfl, hba⟩; obtain ⟨y0, y1, y2, y3⟩ := tbox_cells (tbox_below H2.out.2.2.1 (hb3.trans (hba.mono hb3.size)))))
  have HBB := Lib.hid ((hb3.trans (hba.mono hb3.size)).trans (hbb.mono (hb3.trans (hba.mono hb3.size)).size))
  clear hb3 hba hbb x0 x1 x2 x3 y0 y1 y2 y3 fa fb HB3
  go_loopw [8] (fun i wr => ∃ c : Nat, i = .int .i64 c ∧ c ≤ ks.length ∧ Hid (Below w2.heap.size w2 wr)) (fun i _ => ks.length - (intOf i).toNat)
  case atStart => exact ⟨0, rfl, Nat.zero_le _, HBB.out⟩
  case round =>
    obtain ⟨c, rfl, hcl, hBr⟩ := hrel
    have hB0 : Below w.heap.size w wr := H2.out.1.trans (hBr.out.mono H2.out.1.size)
    by_cases hlt : c < ks.length
    · have hltz : (c : Int) < (ks.length : Int) := by omega
      obtain ⟨b, o, k3, n3, s3, a3, l3, c3, rfl, hbn, e0, e1, e2, e3, htm⟩ := HX.out c hlt
      have q0 := (hB0.cell (p := ⟨b, o + c * 4, none⟩) hbn).trans e0
      have q1 := (hB0.cell (p := ⟨b, o + c * 4 + 1, none⟩) hbn).trans e1
      have q2 := (hB0.cell (p := ⟨b, o + c * 4 + 2, none⟩) hbn).trans e2
      have q3 := (hB0.cell (p := ⟨b, o + c * 4 + 3, none⟩) hbn).trans e3
      have hf := ofew_at _ ks[c] wr (Has.below htm hB0) (by have := HK.out.1 _ (List.getElem_mem hlt); omega)
      have HB := Lib.hid hB0
      clear e0 e1 e2 e3 htm hB0
      by_cases hq : ks[c].size ≤ 500
      · rw [decide_eq_true hq] at hf
        clear hq
        go_wp2_with (go_at_call 11; (with_reducible refine hf.mono ?_); clear hf; rintro e wa ⟨rfl, hba⟩)
        go_roundw
        case rel => exact ⟨c + 1, by simp, hlt, hBr.out.trans (hba.mono hBr.out.size)⟩
        case measure => simp [intOf]; omega
      · rw [decide_eq_false hq] at hf
        clear hq
        go_wp2_with (go_at_call 11; (with_reducible refine hf.mono ?_); clear hf; rintro e wa ⟨rfl, hba⟩)
        go_ret
        exact ⟨rfl, HB.out.trans (hba.mono HB.out.size)⟩
    · have hltz : ¬ ((c : Int) < (ks.length : Int)) := by omega
      obtain ⟨cx, hcx⟩ : ∃ cx, A.er.cmp B.er = cx := ⟨_, rfl⟩
      have HCX := Lib.hid hcx
      obtain ⟨S, hS⟩ : ∃ S, sortT ks = S := ⟨_, rfl⟩
      have HSS := Lib.hid hS
      have hcc : (cx == cx) = true := by simp
      have hSz : Tm.sizes S ≤ 1000000000000 := by
        rw [← HSS.out]
        have h1 := sizes_le9 (M := 1048576) (ks := sortT ks) (fun t ht => HK.out.1 t (sortT_in ht))
        have h2 := sortT_len ks
        have h3 := Nat.mul_le_mul_right 1048576 h2
        omega
      obtain ⟨p0, p1, p2, p3⟩ := tbox_cells (tbox_below H2.out.2.1 hBr.out.drew)
      obtain ⟨r0, r1, r2, r3⟩ := tbox_cells (tbox_below H2.out.2.2.1 hBr.out.drew)
      have hcell : ∀ W', Below w2.heap.size w2 W' → (W'.cell? ⟨w.heap.size, 0, none⟩ = some (.int .i64 k1) ∧ W'.cell? ⟨w.heap.size, 1, none⟩ = some (.int .i64 n1) ∧ W'.cell? ⟨w.heap.size, 2, none⟩ = some (.string s1) ∧ W'.cell? ⟨w.heap.size, 3, none⟩ = some (.slice a1 l1 c1)) ∧ (W'.cell? ⟨w.heap.size + 1, 0, none⟩ = some (.int .i64 k2) ∧ W'.cell? ⟨w.heap.size + 1, 1, none⟩ = some (.int .i64 n2) ∧ W'.cell? ⟨w.heap.size + 1, 2, none⟩ = some (.string s2) ∧ W'.cell? ⟨w.heap.size + 1, 3, none⟩ = some (.slice a2 l2 c2)) := fun W' hb => ⟨tbox_cells (tbox_below H2.out.2.1 hb), tbox_cells (tbox_below H2.out.2.2.1 hb)⟩
      have cA : ∀ W, Below w2.heap.size w2 W → Calls Try.prog 12 #[.agg #[.int .i64 k1, .int .i64 n1, .string s1, .slice a1 l1 c1], .agg #[.int .i64 k2, .int .i64 n2, .string s2, .slice a2 l2 c2]] W fun e W' => e = .returned (.int .i64 cx) ∧ (W'.cell? ⟨w.heap.size, 0, none⟩ = some (.int .i64 k1) ∧ W'.cell? ⟨w.heap.size, 1, none⟩ = some (.int .i64 n1) ∧ W'.cell? ⟨w.heap.size, 2, none⟩ = some (.string s1) ∧ W'.cell? ⟨w.heap.size, 3, none⟩ = some (.slice a1 l1 c1)) ∧ (W'.cell? ⟨w.heap.size + 1, 0, none⟩ = some (.int .i64 k2) ∧ W'.cell? ⟨w.heap.size + 1, 1, none⟩ = some (.int .i64 n2) ∧ W'.cell? ⟨w.heap.size + 1, 2, none⟩ = some (.string s2) ∧ W'.cell? ⟨w.heap.size + 1, 3, none⟩ = some (.slice a2 l2 c2)) ∧ Below w2.heap.size w2 W' := fun W hb =>
        (compare_at _ _ A B W (Has.below H2.out.2.2.2.1 hb) (Has.below H2.out.2.2.2.2.1 hb) (by omega) (by omega)).mono fun e W' h => by
          have hbb := hb.trans (h.2.mono hb.size)
          exact ⟨by rw [h.1, HCX.out], (hcell W' hbb).1, (hcell W' hbb).2, hbb⟩
      have cB : ∀ W, Below w2.heap.size w2 W → Calls Try.prog 13 #[.agg #[.int .i64 k1, .int .i64 n1, .string s1, .slice a1 l1 c1], .agg #[.int .i64 k2, .int .i64 n2, .string s2, .slice a2 l2 c2]] W fun e W' => e = .returned (.int .i64 cx) ∧ (W'.cell? ⟨w.heap.size, 0, none⟩ = some (.int .i64 k1) ∧ W'.cell? ⟨w.heap.size, 1, none⟩ = some (.int .i64 n1) ∧ W'.cell? ⟨w.heap.size, 2, none⟩ = some (.string s1) ∧ W'.cell? ⟨w.heap.size, 3, none⟩ = some (.slice a1 l1 c1)) ∧ (W'.cell? ⟨w.heap.size + 1, 0, none⟩ = some (.int .i64 k2) ∧ W'.cell? ⟨w.heap.size + 1, 1, none⟩ = some (.int .i64 n2) ∧ W'.cell? ⟨w.heap.size + 1, 2, none⟩ = some (.string s2) ∧ W'.cell? ⟨w.heap.size + 1, 3, none⟩ = some (.slice a2 l2 c2)) ∧ Below w2.heap.size w2 W' := fun W hb =>
        (rcompare_at A B _ _ W (Has.below H2.out.2.2.2.1 hb) (Has.below H2.out.2.2.2.2.1 hb) (by omega) (by omega)).mono fun e W' h => by
          have hbb := hb.trans (h.2.mono hb.size)
          exact ⟨by rw [h.1, HCX.out], (hcell W' hbb).1, (hcell W' hbb).2, hbb⟩
      have hts : ∀ W, Below w2.heap.size w2 W → HasTs W (.slice a ks.length cap) ks := fun W hb => H2.out.2.2.2.2.2.carry (fun b hb' => hb.block b hb') (fun b hb' => Nat.lt_of_lt_of_le hb' hb.size)
      have cC : ∀ W, Below w2.heap.size w2 W → Calls Try.prog 15 #[.slice a ks.length cap] W fun e W' => ∃ r, e = .returned r ∧ HasTs W' r S ∧ Below w2.heap.size w2 W' := fun W hb =>
        (sort39_at _ ks W (hts W hb) (by have := H30.out; omega) (fun t ht => by have := HK.out.1 t ht; omega)).mono fun e W' h => by
          obtain ⟨r, rfl, hr, hb'⟩ := h
          rw [HSS.out] at hr
          exact ⟨r, rfl, hr.carry (fun _ _ => rfl) (fun b hb => hb.2), hb.trans (hb'.mono hb.size)⟩
      have cD : ∀ (W : World) (u : Value), Below w2.heap.size w2 W → HasTs W u S → Calls Try.prog 16 #[.slice a ks.length cap] W fun e W' => ∃ r, e = .returned r ∧ HasTs W' u S ∧ HasTs W' r S ∧ Below w2.heap.size w2 W' := fun W u hb hu =>
        (rsort_at _ ks W (hts W hb) (by have := H30.out; omega) (fun t ht => by have := HK.out.1 t ht; omega)).mono fun e W' h => by
          obtain ⟨r, rfl, hr, hb'⟩ := h
          rw [HSS.out] at hr
          exact ⟨r, rfl, hu.carry (fun b hb => hb'.block b hb) (fun b hb => Nat.lt_of_lt_of_le hb hb'.size), hr, hb.trans (hb'.mono hb.size)⟩
      have cE : ∀ (W : World) (u v : Value), Below w2.heap.size w2 W → HasTs W u S → HasTs W v S → Calls Try.prog 14 #[u, v] W fun e W' => e = .returned (.bool true) ∧ Below w2.heap.size w2 W' := fun W u v hb hu hv =>
        (lists_at S S u v W hu hv hSz hSz).mono fun e W' h => ⟨by rw [h.1, decide_eq_true rfl], hb.trans (h.2.mono hb.size)⟩
      have hdr := hBr.out.drew
      have HD := Lib.hid hdr
      clear hcx hS hcell hts hB0 hSz
      go_upto_region 9 with fail
      have HS : ∀ W' : World, Below w2.heap.size w2 W' → ((W'.cell? ⟨w.heap.size, 0, none⟩ = some (.int .i64 k1) ∧ W'.cell? ⟨w.heap.size, 1, none⟩ = some (.int .i64 n1) ∧ W'.cell? ⟨w.heap.size, 2, none⟩ = some (.string s1) ∧ W'.cell? ⟨w.heap.size, 3, none⟩ = some (.slice a1 l1 c1)) ∧ (W'.cell? ⟨w.heap.size + 1, 0, none⟩ = some (.int .i64 k2) ∧ W'.cell? ⟨w.heap.size + 1, 1, none⟩ = some (.int .i64 n2) ∧ W'.cell? ⟨w.heap.size + 1, 2, none⟩ = some (.string s2) ∧ W'.cell? ⟨w.heap.size + 1, 3, none⟩ = some (.slice a2 l2 c2)) ∧ Below w2.heap.size w2 W') := fun W' hb => ⟨tbox_cells (tbox_below H2.out.2.1 hb), tbox_cells (tbox_below H2.out.2.2.1 hb), hb⟩
      refine wp_region_held_drew (S := (fun W' : World => (W'.cell? ⟨w.heap.size, 0, none⟩ = some (.int .i64 k1) ∧ W'.cell? ⟨w.heap.size, 1, none⟩ = some (.int .i64 n1) ∧ W'.cell? ⟨w.heap.size, 2, none⟩ = some (.string s1) ∧ W'.cell? ⟨w.heap.size, 3, none⟩ = some (.slice a1 l1 c1)) ∧ (W'.cell? ⟨w.heap.size + 1, 0, none⟩ = some (.int .i64 k2) ∧ W'.cell? ⟨w.heap.size + 1, 1, none⟩ = some (.int .i64 n2) ∧ W'.cell? ⟨w.heap.size + 1, 2, none⟩ = some (.string s2) ∧ W'.cell? ⟨w.heap.size + 1, 3, none⟩ = some (.slice a2 l2 c2)) ∧ Below w2.heap.size w2 W')) (by kernel_rfl) (HS _ hdr) (fun hHeld => ?_)
      refine wpAnyH_take (i := 0) (v := ?_) rfl (by kernel_rfl) (by kernel_rfl) (by kernel_rfl) (fun _ _ _ h => h) (Or.inl ⟨by kernel_rfl, ?_⟩) hHeld ?_
      rotate_left
      · intro w0 hSw
        (try dsimp only at hSw)
        go_simp
        try (with_reducible rfl)
      try simp only [Act.put, List.setIfInBounds_toArray, List.set_cons_zero, List.set_cons_succ]
      refine wpAnyH_take (i := 1) (v := ?_) rfl (by kernel_rfl) (by kernel_rfl) (by kernel_rfl) (fun _ _ _ h => h) (Or.inl ⟨by kernel_rfl, ?_⟩) hHeld ?_
      rotate_left
      · intro w0 hSw
        (try dsimp only at hSw)
        go_simp
        try (with_reducible rfl)
      try simp only [Act.put, List.setIfInBounds_toArray, List.set_cons_zero, List.set_cons_succ]
      refine wpAnyH_take (i := 2) (v := ?_) rfl (by kernel_rfl) (by kernel_rfl) (by kernel_rfl) (fun _ _ _ h => h) (Or.inl ⟨by kernel_rfl, ?_⟩) hHeld ?_
      rotate_left
      · intro w0 hSw
        (try dsimp only at hSw)
        go_simp
        try (with_reducible rfl)
      try simp only [Act.put, List.setIfInBounds_toArray, List.set_cons_zero, List.set_cons_succ]
      refine wpAnyH_take (i := 3) (v := ?_) rfl (by kernel_rfl) (by kernel_rfl) (by kernel_rfl) (fun _ _ _ h => h) (Or.inl ⟨by kernel_rfl, ?_⟩) hHeld ?_
      rotate_left
      · intro w0 hSw
        (try dsimp only at hSw)
        go_simp
        try (with_reducible rfl)
      try simp only [Act.put, List.setIfInBounds_toArray, List.set_cons_zero, List.set_cons_succ]
      refine wpAnyH_take (i := 5) (v := ?_) rfl (by kernel_rfl) (by kernel_rfl) (by kernel_rfl) (fun _ _ _ h => h) (Or.inl ⟨by kernel_rfl, ?_⟩) hHeld ?_
      rotate_left
      · intro w0 hSw
        (try dsimp only at hSw)
        go_simp
        try (with_reducible rfl)
      try simp only [Act.put, List.setIfInBounds_toArray, List.set_cons_zero, List.set_cons_succ]
      refine wpAnyH_take (i := 6) (v := ?_) rfl (by kernel_rfl) (by kernel_rfl) (by kernel_rfl) (fun _ _ _ h => h) (Or.inl ⟨by kernel_rfl, ?_⟩) hHeld ?_
      rotate_left
      · intro w0 hSw
        (try dsimp only at hSw)
        go_simp
        try (with_reducible rfl)
      try simp only [Act.put, List.setIfInBounds_toArray, List.set_cons_zero, List.set_cons_succ]
      refine wpAnyH_ready (rs := [4]) (by kernel_rfl) (by simp) ?_
      refine AllReadyH.cons rfl (fun K hK => ?_) AllReadyH.nil
      go_simp
      refine (cA _ hdr).mono ?_
      rintro e w4 ⟨rfl, -, -, hb4⟩
      go_wp2_with fail
      refine hK.out _ _ (HS _ hb4) (fun hh4 => ?_)
      clear hK K
      try simp only [Act.put, List.setIfInBounds_toArray, List.set_cons_zero, List.set_cons_succ]
      refine wpAnyH_ready (rs := [7]) (by kernel_rfl) (by simp) ?_
      refine AllReadyH.cons rfl (fun K hK => ?_) AllReadyH.nil
      go_simp
      refine (cB _ hb4).mono ?_
      rintro e w5 ⟨rfl, -, -, hb5⟩
      go_wp2_with fail
      refine hK.out _ _ (HS _ hb5) (fun hh5 => ?_)
      clear hK K
      try simp only [Act.put, List.setIfInBounds_toArray, List.set_cons_zero, List.set_cons_succ]
      refine wpAnyH_take (i := 8) (v := ?_) rfl (by kernel_rfl) (by kernel_rfl) (by kernel_rfl) (fun _ _ _ h => h) (Or.inl ⟨by kernel_rfl, ?_⟩) hh5 ?_
      rotate_left
      · intro w0 hSw
        (try dsimp only at hSw)
        go_simp
        try (with_reducible rfl)
      try simp only [Act.put, List.setIfInBounds_toArray, List.set_cons_zero, List.set_cons_succ]
      refine wpAnyH_take (i := 9) (v := ?_) rfl (by kernel_rfl) (by kernel_rfl) (by kernel_rfl) (fun _ _ _ h => h) (Or.inl ⟨by kernel_rfl, ?_⟩) hh5 ?_
      rotate_left
      · intro w0 hSw
        (try dsimp only at hSw)
        go_simp
        try (with_reducible rfl)
      try simp only [Act.put, List.setIfInBounds_toArray, List.set_cons_zero, List.set_cons_succ]
      refine wpAnyH_take (i := 10) (v := ?_) rfl (by kernel_rfl) (by kernel_rfl) (by kernel_rfl) (fun _ _ _ h => h) (Or.inl ⟨by kernel_rfl, ?_⟩) hh5 ?_
      rotate_left
      · intro w0 hSw
        (try dsimp only at hSw)
        go_simp
        try (with_reducible rfl)
      try simp only [Act.put, List.setIfInBounds_toArray, List.set_cons_zero, List.set_cons_succ]
      refine wpAnyH_take (i := 11) (v := ?_) rfl (by kernel_rfl) (by kernel_rfl) (by kernel_rfl) (fun _ _ _ h => h) (Or.inl ⟨by kernel_rfl, ?_⟩) hh5 ?_
      rotate_left
      · intro w0 hSw
        (try dsimp only at hSw)
        go_simp
        try (with_reducible rfl)
      try simp only [Act.put, List.setIfInBounds_toArray, List.set_cons_zero, List.set_cons_succ]
      refine wpAnyH_take (i := 13) (v := ?_) rfl (by kernel_rfl) (by kernel_rfl) (by kernel_rfl) (fun _ _ _ h => h) (Or.inl ⟨by kernel_rfl, ?_⟩) hh5 ?_
      rotate_left
      · intro w0 hSw
        (try dsimp only at hSw)
        go_simp
        try (with_reducible rfl)
      try simp only [Act.put, List.setIfInBounds_toArray, List.set_cons_zero, List.set_cons_succ]
      refine wpAnyH_ready (rs := [12]) (by kernel_rfl) (by simp) ?_
      refine AllReadyH.cons rfl (fun K hK => ?_) AllReadyH.nil
      go_simp
      refine (cC _ hb5).mono ?_
      rintro e w6 ⟨r6, rfl, hr6, hb6⟩
      go_wp2_with fail
      refine hK.out _ _ (HS _ hb6) (fun hh6 => ?_)
      clear hK K
      try simp only [Act.put, List.setIfInBounds_toArray, List.set_cons_zero, List.set_cons_succ]
      refine wpAnyH_ready (rs := [14]) (by kernel_rfl) (by simp) ?_
      refine AllReadyH.cons rfl (fun K hK => ?_) AllReadyH.nil
      go_simp
      refine (cD _ _ hb6 hr6).mono ?_
      rintro e w7 ⟨r7, rfl, hr6', hr7, hb7⟩
      go_wp2_with fail
      refine hK.out _ _ (HS _ hb7) (fun hh7 => ?_)
      clear hK K
      try simp only [Act.put, List.setIfInBounds_toArray, List.set_cons_zero, List.set_cons_succ]
      refine wpAnyH_ready (rs := [15]) (by kernel_rfl) (by simp) ?_
      refine AllReadyH.cons rfl (fun K hK => ?_) AllReadyH.nil
      go_simp
      refine (cE _ _ _ hb7 hr6' hr7).mono ?_
      rintro e w8 ⟨rfl, hb8⟩
      go_wp2_with fail
      refine hK.out _ _ (HS _ hb8) (fun hh8 => ?_)
      clear hK K
      try simp only [Act.put, List.setIfInBounds_toArray, List.set_cons_zero, List.set_cons_succ]
      refine wpAnyH_take (i := 16) (v := ?_) rfl (by kernel_rfl) (by kernel_rfl) (by kernel_rfl) (fun _ _ _ h => h) (Or.inl ⟨by kernel_rfl, ?_⟩) hh8 ?_
      rotate_left
      · intro w0 hSw
        (try dsimp only at hSw)
        go_simp
        try (with_reducible rfl)
      try simp only [Act.put, List.setIfInBounds_toArray, List.set_cons_zero, List.set_cons_succ]
      refine wpAnyH_ready (rs := [17]) (by kernel_rfl) (by simp) ?_
      refine AllReadyH.cons rfl (fun K hK => ?_) AllReadyH.nil
      go_simp
      refine hK.out _ _ (HS _ hb8) (fun hh9 => ?_)
      clear hK K
      try simp only [Act.put, List.setIfInBounds_toArray, List.set_cons_zero, List.set_cons_succ]
      refine wpAnyH_done (by kernel_rfl) ?_ _
      go_wp2_with fail
      go_ret
      exact ⟨rfl, H2.out.1.trans (hb8.mono H2.out.1.size)⟩
end Go.Proofs.Ytnkfjomnpnbidaa
