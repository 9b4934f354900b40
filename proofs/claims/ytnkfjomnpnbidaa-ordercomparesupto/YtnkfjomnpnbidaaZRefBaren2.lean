/-
  The reference's bare: of erased terms which is ahead.
-/
import Derived.Test.YtnkfjomnpnbidaaZRefCmpn4
import Derived.Deep.RegionHeld3
import Derived.Deep.DeepCutAuto
namespace Go.Proofs.Ytnkfjomnpnbidaa
open Go.RowKit Go.Shelf
open Classical
set_option linter.unusedVariables false
set_option linter.unusedSimpArgs false

theorem cmp_kind {k n : Int} {s : ByteArray} {ks : List Tm} {k' n' : Int} {s' : ByteArray} {ks' : List Tm} (h : k ≠ k') : (Tm.mk k n s ks).cmp (.mk k' n' s' ks') = c3 k k' := by
  have hc : c3 k k' ≠ 0 := fun e => h ((c3_zero _ _).1 e)
  rw [Tm.cmp_mk]; unfold ownC lx; rw [if_neg hc, if_neg hc]
theorem cmp_num {k n : Int} {s : ByteArray} {ks : List Tm} {n' : Int} {s' : ByteArray} {ks' : List Tm} (h : isN k) : (Tm.mk k n s ks).cmp (.mk k n' s' ks') = c3 n n' := by
  rw [Tm.cmp_mk]; unfold ownC; rw [c3_self, if_pos h, if_pos h]; unfold lx; rw [if_pos rfl]; split <;> simp_all
theorem cmp_len {k n : Int} {s : ByteArray} {ks : List Tm} {n' : Int} {s' : ByteArray} {ks' : List Tm} (h : ¬ isN k) (hl : ks.length ≠ ks'.length) : (Tm.mk k n s ks).cmp (.mk k n' s' ks') = c3 (ks.length : Int) (ks'.length : Int) := by
  have hc : c3 (ks.length : Int) (ks'.length : Int) ≠ 0 := fun e => hl (by have := (c3_zero _ _).1 e; omega)
  rw [Tm.cmp_mk]; unfold ownC; rw [c3_self, if_neg h, if_neg h]; unfold lx; rw [if_pos rfl, if_neg hc, if_neg hc]
theorem cmp_rest {k n : Int} {s : ByteArray} {ks : List Tm} {n' : Int} {s' : ByteArray} {ks' : List Tm} (h : ¬ isN k) (hl : ks.length = ks'.length) : (Tm.mk k n s ks).cmp (.mk k n' s' ks') = lx (lx (if k = 3 then 0 else c3 n n') (cB s s')) (Tm.cmps ks ks') := by
  rw [Tm.cmp_mk]; unfold ownC; rw [c3_self, if_neg h, if_neg h, hl, c3_self]; rfl
set_option maxRecDepth 100000 in
set_option maxHeartbeats 16000000 in
theorem bare_at (A : Tm) : ∀ (B : Tm) (u v : Value) (w : World), Has w u A → Has w v B → A.size ≤ 1000000000 → B.size ≤ 1000000000 → Calls Try.prog 32 #[u, v] w (Gets w (.int .i64 (A.cmp B))) := by
  induction A using Tm.ind with
  | h k n s ks ih =>
    intro B u v w hu hv hsa hsb
    obtain ⟨k', n', s', ks'⟩ := B
    have HV0 := Lib.hid (And.intro hu hv)
    obtain ⟨k_, n_, s_, a, len, cap, ks_, rfl, e, rfl, hk, hn, hs, hc, hm, ha⟩ := hu.form
    injection e with e1 e2 e3 e4
    subst e1 e2 e3 e4
    obtain ⟨k_, n_, s_, a', len, cap', ks_, rfl, e, rfl, hk', hn', hs', hc', hm', ha'⟩ := hv.form
    injection e with e1 e2 e3 e4
    subst e1 e2 e3 e4
    rw [Tm.size_mk] at hsa hsb
    have hl1 : ks.length ≤ 1000000000 := by have := Tm.length_le_sizes ks; omega
    have hl2 : ks'.length ≤ 1000000000 := by have := Tm.length_le_sizes ks'; omega
    have HI := Lib.hid ih
    have HV := Lib.hid (And.intro hu hv)
    have HZ := Lib.hid (And.intro (show 1 + Tm.sizes ks ≤ 1000000000 by omega) (show 1 + Tm.sizes ks' ≤ 1000000000 by omega))
    obtain ⟨w2, hw2⟩ : ∃ w2, w2 = ((w.alloc (.cells #[.int .i64 k, .int .i64 n, .string s, .slice a ks.length cap] 24)).alloc (.cells #[.int .i64 k', .int .i64 n', .string s', .slice a' ks'.length cap'] 24)) := ⟨_, rfl⟩
    have hB2 : Below w.heap.size w w2 := by rw [hw2]; exact ((Below.refl _ w).alloc (Nat.le_refl _) _).alloc (by simp) _
    have hsz2 : w2.heap.size = w.heap.size + 1 + 1 := by rw [hw2]; simp
    have hx1 : w2.heap[w.heap.size]? = some (.cells #[.int .i64 k, .int .i64 n, .string s, .slice a ks.length cap] 24 (0, 0)) := by rw [hw2]; exact (Below.heap_alloc _ _ _ (by simp)).trans (World.alloc_heap_new _ _)
    have hx2 : w2.heap[w.heap.size + 1]? = some (.cells #[.int .i64 k', .int .i64 n', .string s', .slice a' ks'.length cap'] 24 (0, 0)) := by rw [hw2]; simpa using World.alloc_heap_new (w.alloc (.cells #[.int .i64 k, .int .i64 n, .string s, .slice a ks.length cap] 24)) (.cells #[.int .i64 k', .int .i64 n', .string s', .slice a' ks'.length cap'] 24)
    obtain ⟨x0, x1, x2, x3⟩ := tbox_cells hx1
    obtain ⟨z0, z1, z2, z3⟩ := tbox_cells hx2
    have HW := Lib.hid hw2
    have HH := Lib.hid (And.intro (And.intro hB2 hsz2) (And.intro hx1 (And.intro hx2 trivial)))
    clear hw2 hB2 hsz2 hx1 hx2 ih hu hv hsa hsb HV0 hc hm ha hc' hm' ha'
    by_cases hkk : k = k'
    case neg =>
      have HCM := Lib.hid (cmp_kind (n := n) (s := s) (ks := ks) (n' := n') (s' := s') (ks' := ks') hkk)
      have hne : (c3 k k' != 0) = true := by simp only [bne_iff_ne, ne_eq]; exact fun e => hkk ((c3_zero _ _).1 e)
      clear hkk
      go_enter Try.func32, Try.ntmps32
      go_upto_region 1 with fail
      rw [← HW.out]
      go_wp2_with (go_at_call 61; refine (nums_at _ _ _).mono ?_; rintro e w' ⟨rfl, hw'⟩; have hw' := hw'.symm; subst hw')
      go_ret
      exact ⟨by rw [HCM.out]; rfl, HH.out.1.1⟩
    subst hkk
    have h00 : (c3 k k != 0) = false := by rw [c3_self]; rfl
    by_cases hN : isN k
    · have HCM := Lib.hid (cmp_num (n := n) (s := s) (ks := ks) (n' := n') (s' := s') (ks' := ks') hN)
      rcases hN with hN | hN <;> subst hN
      all_goals
        go_enter Try.func32, Try.ntmps32
        go_upto_region 1 with fail
        rw [← HW.out]
        go_wp2_with (go_at_call 61; refine (nums_at _ _ _).mono ?_; rintro e w' ⟨rfl, hw'⟩; have hw' := hw'.symm; subst hw')
        go_ret
        exact ⟨by rw [HCM.out]; rfl, HH.out.1.1⟩
    have h1b : (k == 1) = false := by simpa using fun e => hN (.inl e)
    have h2b : (k == 2) = false := by simpa using fun e => hN (.inr e)
    by_cases hll : ks.length = ks'.length
    case neg =>
      have HCM := Lib.hid (cmp_len (n := n) (s := s) (ks := ks) (n' := n') (s' := s') (ks' := ks') hN hll)
      have hne : (c3 (ks.length : Int) (ks'.length : Int) == 0) = false := by simp only [beq_eq_false_iff_ne, ne_eq]; exact fun e => hll (by have := (c3_zero _ _).1 e; omega)
      clear hll hN
      by_cases hz : 0 < ks.length
      · have hzz : (0 : Int) < (ks.length : Int) := by omega
        clear hz
        go_enter Try.func32, Try.ntmps32
        go_upto_region 1 with fail
        rw [← HW.out]
        go_wp2_with (go_at_call 61; refine (nums_at _ _ _).mono ?_; rintro e w' ⟨rfl, hw'⟩; have hw' := hw'.symm; subst hw')
        go_loopw [5, 6] (fun cv i wr => i = .int .i64 0 ∧ cv = .int .i64 (c3 (ks.length : Int) (ks'.length : Int)) ∧ wr = w2) (fun _ i _ => 0)
        case atStart => exact ⟨rfl, rfl, rfl⟩
        case round =>
          obtain ⟨rfl, rfl, rfl⟩ := hrel
          go_wp2_with fail
          go_ret
          exact ⟨by rw [HCM.out]; rfl, HH.out.1.1⟩
      · have hzz : ¬ (0 : Int) < (ks.length : Int) := by omega
        clear hz
        go_enter Try.func32, Try.ntmps32
        go_upto_region 1 with fail
        rw [← HW.out]
        go_wp2_with (go_at_call 61; refine (nums_at _ _ _).mono ?_; rintro e w' ⟨rfl, hw'⟩; have hw' := hw'.symm; subst hw')
        go_loopw [5, 6] (fun cv i wr => i = .int .i64 0 ∧ cv = .int .i64 (c3 (ks.length : Int) (ks'.length : Int)) ∧ wr = w2) (fun _ i _ => 0)
        case atStart => exact ⟨rfl, rfl, rfl⟩
        case round =>
          obtain ⟨rfl, rfl, rfl⟩ := hrel
          go_wp2_with fail
          go_ret
          exact ⟨by rw [HCM.out]; rfl, HH.out.1.1⟩
    have HL := Lib.hid hll
    have hl0 : (c3 (ks.length : Int) (ks'.length : Int) == 0) = true := by rw [hll, c3_self]; rfl
    have HCM := Lib.hid (cmp_rest (n := n) (s := s) (ks := ks) (n' := n') (s' := s') (ks' := ks') hN hll)
    clear hll hN
    obtain ⟨m, hm⟩ : ∃ m, lx (if k = 3 then 0 else c3 n n') (cB s s') = m := ⟨_, rfl⟩
    rw [hm] at HCM
    have htx := fun W => texts_at s s' W hs hs'
    by_cases h3 : k = 3
    · have h3b : (k != 3) = false := by simpa using h3
      rw [if_pos h3] at hm
      have HM := Lib.hid (And.intro (show lx m 0 = cB s s' by rw [← hm]; unfold lx; split <;> simp_all) trivial)
      clear hm h3 
      go_enter Try.func32, Try.ntmps32
      go_upto_region 1 with fail
      rw [← HW.out]
      go_wp2_with (first | (go_at_call 61; refine (nums_at _ _ _).mono ?_; rintro e w' ⟨rfl, hw'⟩; have hw' := hw'.symm; subst hw') | (go_at_call 62; (with_reducible refine (htx _).mono ?_); rintro e wt ⟨rfl, hbt⟩))
      have hbx := (hbt.block _ (by have := HH.out.1.2; omega)).trans HH.out.2.1
      have hby := (hbt.block _ (by have := HH.out.1.2; omega)).trans HH.out.2.2.1
      have HH' := Lib.hid (And.intro (And.intro (HH.out.1.1.trans (hbt.mono HH.out.1.1.size)) (show w.heap.size + 1 + 1 ≤ wt.heap.size by have := HH.out.1.2; have := hbt.size; omega)) (And.intro hbx (And.intro hby trivial)))
      clear hbx hby hbt x0 x1 x2 x3 z0 z1 z2 z3 htx
      go_loopw [5, 6] (fun cv i wr => ∃ j : Nat, i = .int .i64 j ∧ j ≤ ks.length ∧ cv = .int .i64 (lx m (Tm.cmps (ks.take j) (ks'.take j))) ∧ Below wt.heap.size wt wr) (fun _ i _ => ks.length - (intOf i).toNat)
      case atStart => exact ⟨0, rfl, Nat.zero_le _, by rw [List.take_zero, Tm.cmps_nil, HM.out.1], Below.refl _ _⟩
      case round =>
        obtain ⟨j, rfl, hjl, hcv, hB⟩ := hrel
        subst hcv
        obtain ⟨q, hq⟩ : ∃ q, lx m (Tm.cmps (ks.take j) (ks'.take j)) = q := ⟨_, rfl⟩
        rw [hq]
        have HQ := Lib.hid hq
        clear hq
        have hbx := (hB.block _ (by have := HH'.out.1.2; omega)).trans HH'.out.2.1
        have hby := (hB.block _ (by have := HH'.out.1.2; omega)).trans HH'.out.2.2.1
        obtain ⟨t0, t1, t2, t3⟩ := tbox_cells hbx
        obtain ⟨y0, y1, y2, y3⟩ := tbox_cells hby
        by_cases hlt : j < ks.length
        · have hltz : (j : Int) < (ks.length : Int) := by omega
          by_cases hq0 : q = 0
          · subst hq0
            have hlt2 : j < ks'.length := by have := HL.out; omega
            have hB0 : Below w.heap.size w wr := HH'.out.1.1.trans (hB.mono HH'.out.1.1.size)
            obtain ⟨b, o, k1, n1, s1, a1, l1, c1, T1, rfl, hbn, e0, e1, e2, e3, hT1, ht1⟩ := IsTm.kid HV.out.1 j hlt
            obtain ⟨b', o', k2, n2, s2, a2, l2, c2, T2, rfl, hbn', f0, f1, f2, f3, hT2, ht2⟩ := IsTm.kid HV.out.2 j hlt2
            have hlt8 : b < wr.heap.size ∧ b' < wr.heap.size := ⟨Nat.lt_of_lt_of_le hbn hB0.size, Nat.lt_of_lt_of_le hbn' hB0.size⟩
            have hm1 := List.mem_of_getElem? hT1
            have hm2 := List.mem_of_getElem? hT2
            have HS : ∀ w', Below wr.heap.size wr w' → (w'.cell? ⟨w.heap.size, 3, none⟩ = some (.slice (some ⟨b, o, none⟩) ks.length cap) ∧ w'.cell? ⟨w.heap.size + 1, 3, none⟩ = some (.slice (some ⟨b', o', none⟩) ks'.length cap') ∧ w'.cell? ⟨b, o + j * 4, none⟩ = some (.int .i64 k1) ∧ w'.cell? ⟨b, o + j * 4 + 1, none⟩ = some (.int .i64 n1) ∧ w'.cell? ⟨b, o + j * 4 + 2, none⟩ = some (.string s1) ∧ w'.cell? ⟨b, o + j * 4 + 3, none⟩ = some (.slice a1 l1 c1) ∧
                w'.cell? ⟨b', o' + j * 4, none⟩ = some (.int .i64 k2) ∧ w'.cell? ⟨b', o' + j * 4 + 1, none⟩ = some (.int .i64 n2) ∧ w'.cell? ⟨b', o' + j * 4 + 2, none⟩ = some (.string s2) ∧ w'.cell? ⟨b', o' + j * 4 + 3, none⟩ = some (.slice a2 l2 c2) ∧ Below wr.heap.size wr w') := fun w' hb =>
              ⟨(tbox_cells (tbox_below hbx hb)).2.2.2, (tbox_cells (tbox_below hby hb)).2.2.2, (hb.cell (p := ⟨_, _, none⟩) hlt8.1).trans ((hB0.cell (p := ⟨b, _, none⟩) hbn).trans e0), (hb.cell (p := ⟨_, _, none⟩) hlt8.1).trans ((hB0.cell (p := ⟨b, _, none⟩) hbn).trans e1), (hb.cell (p := ⟨_, _, none⟩) hlt8.1).trans ((hB0.cell (p := ⟨b, _, none⟩) hbn).trans e2), (hb.cell (p := ⟨_, _, none⟩) hlt8.1).trans ((hB0.cell (p := ⟨b, _, none⟩) hbn).trans e3),
               (hb.cell (p := ⟨_, _, none⟩) hlt8.2).trans ((hB0.cell (p := ⟨b', _, none⟩) hbn').trans f0), (hb.cell (p := ⟨_, _, none⟩) hlt8.2).trans ((hB0.cell (p := ⟨b', _, none⟩) hbn').trans f1), (hb.cell (p := ⟨_, _, none⟩) hlt8.2).trans ((hB0.cell (p := ⟨b', _, none⟩) hbn').trans f2), (hb.cell (p := ⟨_, _, none⟩) hlt8.2).trans ((hB0.cell (p := ⟨b', _, none⟩) hbn').trans f3), hb⟩
            have hih : ∀ w3, Below wr.heap.size wr w3 → Calls Try.prog 32 #[.agg #[.int .i64 k1, .int .i64 n1, .string s1, .slice a1 l1 c1], .agg #[.int .i64 k2, .int .i64 n2, .string s2, .slice a2 l2 c2]] w3 fun e w4 => e = .returned (.int .i64 (T1.cmp T2)) ∧ Below wr.heap.size wr w4 := fun w3 h3 =>
              (HI.out T1 hm1 T2 _ _ w3 (IsTm.later (hB0.trans (h3.mono hB0.size)) (Nat.le_trans hB0.size h3.size) ht1) (IsTm.later (hB0.trans (h3.mono hB0.size)) (Nat.le_trans hB0.size h3.size) ht2)
                (by have h1 := Tm.size_le_sizes hm1; have h2 := HZ.out.1; omega) (by have h1 := Tm.size_le_sizes hm2; have h2 := HZ.out.2; omega)).mono fun e w4 h4 => ⟨h4.1, h3.trans (h4.2.mono h3.size)⟩
            have hnext : Hid (T1.cmp T2 = lx m (Tm.cmps (ks.take (j + 1)) (ks'.take (j + 1)))) := by
              obtain ⟨hm0, hc0⟩ := lx_zero.1 HQ.out
              show T1.cmp T2 = _
              rw [cmps_take HL.out hT1 hT2, hm0, hc0]
              rfl
            have HB := Lib.hid hB
            clear e0 e1 e2 e3 f0 f1 f2 f3 ht1 ht2 hB hT1 hT2 hlt8 hm1 hm2 hbx hby t0 t1 t2 y0 y1 y2 y3 hB0
            go_wp2_with fail
            clear t3
            go_region_held3 (fun w' => w'.cell? ⟨w.heap.size, 3, none⟩ = some (.slice (some ⟨b, o, none⟩) ks.length cap) ∧ w'.cell? ⟨w.heap.size + 1, 3, none⟩ = some (.slice (some ⟨b', o', none⟩) ks'.length cap') ∧ w'.cell? ⟨b, o + j * 4, none⟩ = some (.int .i64 k1) ∧ w'.cell? ⟨b, o + j * 4 + 1, none⟩ = some (.int .i64 n1) ∧ w'.cell? ⟨b, o + j * 4 + 2, none⟩ = some (.string s1) ∧ w'.cell? ⟨b, o + j * 4 + 3, none⟩ = some (.slice a1 l1 c1) ∧
                w'.cell? ⟨b', o' + j * 4, none⟩ = some (.int .i64 k2) ∧ w'.cell? ⟨b', o' + j * 4 + 1, none⟩ = some (.int .i64 n2) ∧ w'.cell? ⟨b', o' + j * 4 + 2, none⟩ = some (.string s2) ∧ w'.cell? ⟨b', o' + j * 4 + 3, none⟩ = some (.slice a2 l2 c2) ∧ Below wr.heap.size wr w')
              (first | exact HS _ (Below.refl _ _).drew | exact HS _ hb4)
              (first | (go_at_call 32; (with_reducible refine (hih _ (by go_split_ands; assumption)).mono ?_); rintro e w4 ⟨rfl, hb4⟩))
            go_wp2_with fail
            go_roundw
            case rel => exact ⟨j + 1, by simp, hlt, by rw [hnext.out], HB.out.trans (hb4.mono HB.out.size)⟩
            case measure => simp [intOf]; omega
          · have hqb : (q == 0) = false := by simpa using hq0
            have HF : Hid (lx m (Tm.cmps ks ks') = q) := by
              show lx m (Tm.cmps ks ks') = q
              rw [← HQ.out]
              rw [← HQ.out] at hq0
              unfold lx at hq0 ⊢
              split
              · rename_i h0
                rw [if_pos h0] at hq0
                exact cmps_stop HL.out hq0
              · rfl
            have HB := Lib.hid (HH'.out.1.1.trans (hB.mono HH'.out.1.1.size))
            clear hq0 hB hbx hby
            go_wp2_with fail
            go_ret
            exact ⟨by rw [HCM.out, HF.out]; rfl, HB.out⟩
        · have hje : j = ks.length := by omega
          subst hje
          have hltz : ¬ ((ks.length : Int) < (ks.length : Int)) := by omega
          have HF : Hid (lx m (Tm.cmps ks ks') = q) := by
            have h := HQ.out
            rw [List.take_length, HL.out, List.take_length] at h
            exact h
          have HB := Lib.hid (HH'.out.1.1.trans (hB.mono HH'.out.1.1.size))
          clear hB hbx hby hlt
          go_wp2_with fail
          go_ret
          exact ⟨by rw [HCM.out, HF.out]; rfl, HB.out⟩
    · have h3b : (k != 3) = true := by simpa using h3
      rw [if_neg h3] at hm
      by_cases hnn : n = n'
      · have hn0 : (c3 n n' == 0) = true := by rw [hnn, c3_self]; rfl
        rw [(c3_zero _ _).2 hnn] at hm
        have HM := Lib.hid (And.intro (show lx m 0 = cB s s' by rw [← hm]; unfold lx; split <;> simp_all) trivial)
        clear hm h3 hnn
        go_enter Try.func32, Try.ntmps32
        go_upto_region 1 with fail
        rw [← HW.out]
        go_wp2_with (first | (go_at_call 61; refine (nums_at _ _ _).mono ?_; rintro e w' ⟨rfl, hw'⟩; have hw' := hw'.symm; subst hw') | (go_at_call 62; (with_reducible refine (htx _).mono ?_); rintro e wt ⟨rfl, hbt⟩))
        have hbx := (hbt.block _ (by have := HH.out.1.2; omega)).trans HH.out.2.1
        have hby := (hbt.block _ (by have := HH.out.1.2; omega)).trans HH.out.2.2.1
        have HH' := Lib.hid (And.intro (And.intro (HH.out.1.1.trans (hbt.mono HH.out.1.1.size)) (show w.heap.size + 1 + 1 ≤ wt.heap.size by have := HH.out.1.2; have := hbt.size; omega)) (And.intro hbx (And.intro hby trivial)))
        clear hbx hby hbt x0 x1 x2 x3 z0 z1 z2 z3 htx
        go_loopw [5, 6] (fun cv i wr => ∃ j : Nat, i = .int .i64 j ∧ j ≤ ks.length ∧ cv = .int .i64 (lx m (Tm.cmps (ks.take j) (ks'.take j))) ∧ Below wt.heap.size wt wr) (fun _ i _ => ks.length - (intOf i).toNat)
        case atStart => exact ⟨0, rfl, Nat.zero_le _, by rw [List.take_zero, Tm.cmps_nil, HM.out.1], Below.refl _ _⟩
        case round =>
          obtain ⟨j, rfl, hjl, hcv, hB⟩ := hrel
          subst hcv
          obtain ⟨q, hq⟩ : ∃ q, lx m (Tm.cmps (ks.take j) (ks'.take j)) = q := ⟨_, rfl⟩
          rw [hq]
          have HQ := Lib.hid hq
          clear hq
          have hbx := (hB.block _ (by have := HH'.out.1.2; omega)).trans HH'.out.2.1
          have hby := (hB.block _ (by have := HH'.out.1.2; omega)).trans HH'.out.2.2.1
          obtain ⟨t0, t1, t2, t3⟩ := tbox_cells hbx
          obtain ⟨y0, y1, y2, y3⟩ := tbox_cells hby
          by_cases hlt : j < ks.length
          · have hltz : (j : Int) < (ks.length : Int) := by omega
            by_cases hq0 : q = 0
            · subst hq0
              have hlt2 : j < ks'.length := by have := HL.out; omega
              have hB0 : Below w.heap.size w wr := HH'.out.1.1.trans (hB.mono HH'.out.1.1.size)
              obtain ⟨b, o, k1, n1, s1, a1, l1, c1, T1, rfl, hbn, e0, e1, e2, e3, hT1, ht1⟩ := IsTm.kid HV.out.1 j hlt
              obtain ⟨b', o', k2, n2, s2, a2, l2, c2, T2, rfl, hbn', f0, f1, f2, f3, hT2, ht2⟩ := IsTm.kid HV.out.2 j hlt2
              have hlt8 : b < wr.heap.size ∧ b' < wr.heap.size := ⟨Nat.lt_of_lt_of_le hbn hB0.size, Nat.lt_of_lt_of_le hbn' hB0.size⟩
              have hm1 := List.mem_of_getElem? hT1
              have hm2 := List.mem_of_getElem? hT2
              have HS : ∀ w', Below wr.heap.size wr w' → (w'.cell? ⟨w.heap.size, 3, none⟩ = some (.slice (some ⟨b, o, none⟩) ks.length cap) ∧ w'.cell? ⟨w.heap.size + 1, 3, none⟩ = some (.slice (some ⟨b', o', none⟩) ks'.length cap') ∧ w'.cell? ⟨b, o + j * 4, none⟩ = some (.int .i64 k1) ∧ w'.cell? ⟨b, o + j * 4 + 1, none⟩ = some (.int .i64 n1) ∧ w'.cell? ⟨b, o + j * 4 + 2, none⟩ = some (.string s1) ∧ w'.cell? ⟨b, o + j * 4 + 3, none⟩ = some (.slice a1 l1 c1) ∧
                  w'.cell? ⟨b', o' + j * 4, none⟩ = some (.int .i64 k2) ∧ w'.cell? ⟨b', o' + j * 4 + 1, none⟩ = some (.int .i64 n2) ∧ w'.cell? ⟨b', o' + j * 4 + 2, none⟩ = some (.string s2) ∧ w'.cell? ⟨b', o' + j * 4 + 3, none⟩ = some (.slice a2 l2 c2) ∧ Below wr.heap.size wr w') := fun w' hb =>
                ⟨(tbox_cells (tbox_below hbx hb)).2.2.2, (tbox_cells (tbox_below hby hb)).2.2.2, (hb.cell (p := ⟨_, _, none⟩) hlt8.1).trans ((hB0.cell (p := ⟨b, _, none⟩) hbn).trans e0), (hb.cell (p := ⟨_, _, none⟩) hlt8.1).trans ((hB0.cell (p := ⟨b, _, none⟩) hbn).trans e1), (hb.cell (p := ⟨_, _, none⟩) hlt8.1).trans ((hB0.cell (p := ⟨b, _, none⟩) hbn).trans e2), (hb.cell (p := ⟨_, _, none⟩) hlt8.1).trans ((hB0.cell (p := ⟨b, _, none⟩) hbn).trans e3),
                 (hb.cell (p := ⟨_, _, none⟩) hlt8.2).trans ((hB0.cell (p := ⟨b', _, none⟩) hbn').trans f0), (hb.cell (p := ⟨_, _, none⟩) hlt8.2).trans ((hB0.cell (p := ⟨b', _, none⟩) hbn').trans f1), (hb.cell (p := ⟨_, _, none⟩) hlt8.2).trans ((hB0.cell (p := ⟨b', _, none⟩) hbn').trans f2), (hb.cell (p := ⟨_, _, none⟩) hlt8.2).trans ((hB0.cell (p := ⟨b', _, none⟩) hbn').trans f3), hb⟩
              have hih : ∀ w3, Below wr.heap.size wr w3 → Calls Try.prog 32 #[.agg #[.int .i64 k1, .int .i64 n1, .string s1, .slice a1 l1 c1], .agg #[.int .i64 k2, .int .i64 n2, .string s2, .slice a2 l2 c2]] w3 fun e w4 => e = .returned (.int .i64 (T1.cmp T2)) ∧ Below wr.heap.size wr w4 := fun w3 h3 =>
                (HI.out T1 hm1 T2 _ _ w3 (IsTm.later (hB0.trans (h3.mono hB0.size)) (Nat.le_trans hB0.size h3.size) ht1) (IsTm.later (hB0.trans (h3.mono hB0.size)) (Nat.le_trans hB0.size h3.size) ht2)
                  (by have h1 := Tm.size_le_sizes hm1; have h2 := HZ.out.1; omega) (by have h1 := Tm.size_le_sizes hm2; have h2 := HZ.out.2; omega)).mono fun e w4 h4 => ⟨h4.1, h3.trans (h4.2.mono h3.size)⟩
              have hnext : Hid (T1.cmp T2 = lx m (Tm.cmps (ks.take (j + 1)) (ks'.take (j + 1)))) := by
                obtain ⟨hm0, hc0⟩ := lx_zero.1 HQ.out
                show T1.cmp T2 = _
                rw [cmps_take HL.out hT1 hT2, hm0, hc0]
                rfl
              have HB := Lib.hid hB
              clear e0 e1 e2 e3 f0 f1 f2 f3 ht1 ht2 hB hT1 hT2 hlt8 hm1 hm2 hbx hby t0 t1 t2 y0 y1 y2 y3 hB0
              go_wp2_with fail
              clear t3
              go_region_held3 (fun w' => w'.cell? ⟨w.heap.size, 3, none⟩ = some (.slice (some ⟨b, o, none⟩) ks.length cap) ∧ w'.cell? ⟨w.heap.size + 1, 3, none⟩ = some (.slice (some ⟨b', o', none⟩) ks'.length cap') ∧ w'.cell? ⟨b, o + j * 4, none⟩ = some (.int .i64 k1) ∧ w'.cell? ⟨b, o + j * 4 + 1, none⟩ = some (.int .i64 n1) ∧ w'.cell? ⟨b, o + j * 4 + 2, none⟩ = some (.string s1) ∧ w'.cell? ⟨b, o + j * 4 + 3, none⟩ = some (.slice a1 l1 c1) ∧
                  w'.cell? ⟨b', o' + j * 4, none⟩ = some (.int .i64 k2) ∧ w'.cell? ⟨b', o' + j * 4 + 1, none⟩ = some (.int .i64 n2) ∧ w'.cell? ⟨b', o' + j * 4 + 2, none⟩ = some (.string s2) ∧ w'.cell? ⟨b', o' + j * 4 + 3, none⟩ = some (.slice a2 l2 c2) ∧ Below wr.heap.size wr w')
                (first | exact HS _ (Below.refl _ _).drew | exact HS _ hb4)
                (first | (go_at_call 32; (with_reducible refine (hih _ (by go_split_ands; assumption)).mono ?_); rintro e w4 ⟨rfl, hb4⟩))
              go_wp2_with fail
              go_roundw
              case rel => exact ⟨j + 1, by simp, hlt, by rw [hnext.out], HB.out.trans (hb4.mono HB.out.size)⟩
              case measure => simp [intOf]; omega
            · have hqb : (q == 0) = false := by simpa using hq0
              have HF : Hid (lx m (Tm.cmps ks ks') = q) := by
                show lx m (Tm.cmps ks ks') = q
                rw [← HQ.out]
                rw [← HQ.out] at hq0
                unfold lx at hq0 ⊢
                split
                · rename_i h0
                  rw [if_pos h0] at hq0
                  exact cmps_stop HL.out hq0
                · rfl
              have HB := Lib.hid (HH'.out.1.1.trans (hB.mono HH'.out.1.1.size))
              clear hq0 hB hbx hby
              go_wp2_with fail
              go_ret
              exact ⟨by rw [HCM.out, HF.out]; rfl, HB.out⟩
          · have hje : j = ks.length := by omega
            subst hje
            have hltz : ¬ ((ks.length : Int) < (ks.length : Int)) := by omega
            have HF : Hid (lx m (Tm.cmps ks ks') = q) := by
              have h := HQ.out
              rw [List.take_length, HL.out, List.take_length] at h
              exact h
            have HB := Lib.hid (HH'.out.1.1.trans (hB.mono HH'.out.1.1.size))
            clear hB hbx hby hlt
            go_wp2_with fail
            go_ret
            exact ⟨by rw [HCM.out, HF.out]; rfl, HB.out⟩
      · have hn0 : (c3 n n' == 0) = false := by simp only [beq_eq_false_iff_ne, ne_eq]; exact fun e => hnn ((c3_zero _ _).1 e)
        have HM := Lib.hid (And.intro (show lx m 0 = c3 n n' by rw [← hm]; unfold lx; rw [if_neg (fun e => hnn ((c3_zero _ _).1 e))]; split <;> simp_all) trivial)
        clear hm h3 hnn
        go_enter Try.func32, Try.ntmps32
        go_upto_region 1 with fail
        rw [← HW.out]
        go_wp2_with (go_at_call 61; refine (nums_at _ _ _).mono ?_; rintro e w' ⟨rfl, hw'⟩; have hw' := hw'.symm; subst hw')
        clear x0 x1 x2 x3 z0 z1 z2 z3 htx
        go_loopw [5, 6] (fun cv i wr => ∃ j : Nat, i = .int .i64 j ∧ j ≤ ks.length ∧ cv = .int .i64 (lx m (Tm.cmps (ks.take j) (ks'.take j))) ∧ Below w2.heap.size w2 wr) (fun _ i _ => ks.length - (intOf i).toNat)
        case atStart => exact ⟨0, rfl, Nat.zero_le _, by rw [List.take_zero, Tm.cmps_nil, HM.out.1], Below.refl _ _⟩
        case round =>
          obtain ⟨j, rfl, hjl, hcv, hB⟩ := hrel
          subst hcv
          obtain ⟨q, hq⟩ : ∃ q, lx m (Tm.cmps (ks.take j) (ks'.take j)) = q := ⟨_, rfl⟩
          rw [hq]
          have HQ := Lib.hid hq
          clear hq
          have hbx := (hB.block _ (by have := HH.out.1.2; omega)).trans HH.out.2.1
          have hby := (hB.block _ (by have := HH.out.1.2; omega)).trans HH.out.2.2.1
          obtain ⟨t0, t1, t2, t3⟩ := tbox_cells hbx
          obtain ⟨y0, y1, y2, y3⟩ := tbox_cells hby
          by_cases hlt : j < ks.length
          · have hltz : (j : Int) < (ks.length : Int) := by omega
            by_cases hq0 : q = 0
            · subst hq0
              have hlt2 : j < ks'.length := by have := HL.out; omega
              have hB0 : Below w.heap.size w wr := HH.out.1.1.trans (hB.mono HH.out.1.1.size)
              obtain ⟨b, o, k1, n1, s1, a1, l1, c1, T1, rfl, hbn, e0, e1, e2, e3, hT1, ht1⟩ := IsTm.kid HV.out.1 j hlt
              obtain ⟨b', o', k2, n2, s2, a2, l2, c2, T2, rfl, hbn', f0, f1, f2, f3, hT2, ht2⟩ := IsTm.kid HV.out.2 j hlt2
              have hlt8 : b < wr.heap.size ∧ b' < wr.heap.size := ⟨Nat.lt_of_lt_of_le hbn hB0.size, Nat.lt_of_lt_of_le hbn' hB0.size⟩
              have hm1 := List.mem_of_getElem? hT1
              have hm2 := List.mem_of_getElem? hT2
              have HS : ∀ w', Below wr.heap.size wr w' → (w'.cell? ⟨w.heap.size, 3, none⟩ = some (.slice (some ⟨b, o, none⟩) ks.length cap) ∧ w'.cell? ⟨w.heap.size + 1, 3, none⟩ = some (.slice (some ⟨b', o', none⟩) ks'.length cap') ∧ w'.cell? ⟨b, o + j * 4, none⟩ = some (.int .i64 k1) ∧ w'.cell? ⟨b, o + j * 4 + 1, none⟩ = some (.int .i64 n1) ∧ w'.cell? ⟨b, o + j * 4 + 2, none⟩ = some (.string s1) ∧ w'.cell? ⟨b, o + j * 4 + 3, none⟩ = some (.slice a1 l1 c1) ∧
                  w'.cell? ⟨b', o' + j * 4, none⟩ = some (.int .i64 k2) ∧ w'.cell? ⟨b', o' + j * 4 + 1, none⟩ = some (.int .i64 n2) ∧ w'.cell? ⟨b', o' + j * 4 + 2, none⟩ = some (.string s2) ∧ w'.cell? ⟨b', o' + j * 4 + 3, none⟩ = some (.slice a2 l2 c2) ∧ Below wr.heap.size wr w') := fun w' hb =>
                ⟨(tbox_cells (tbox_below hbx hb)).2.2.2, (tbox_cells (tbox_below hby hb)).2.2.2, (hb.cell (p := ⟨_, _, none⟩) hlt8.1).trans ((hB0.cell (p := ⟨b, _, none⟩) hbn).trans e0), (hb.cell (p := ⟨_, _, none⟩) hlt8.1).trans ((hB0.cell (p := ⟨b, _, none⟩) hbn).trans e1), (hb.cell (p := ⟨_, _, none⟩) hlt8.1).trans ((hB0.cell (p := ⟨b, _, none⟩) hbn).trans e2), (hb.cell (p := ⟨_, _, none⟩) hlt8.1).trans ((hB0.cell (p := ⟨b, _, none⟩) hbn).trans e3),
                 (hb.cell (p := ⟨_, _, none⟩) hlt8.2).trans ((hB0.cell (p := ⟨b', _, none⟩) hbn').trans f0), (hb.cell (p := ⟨_, _, none⟩) hlt8.2).trans ((hB0.cell (p := ⟨b', _, none⟩) hbn').trans f1), (hb.cell (p := ⟨_, _, none⟩) hlt8.2).trans ((hB0.cell (p := ⟨b', _, none⟩) hbn').trans f2), (hb.cell (p := ⟨_, _, none⟩) hlt8.2).trans ((hB0.cell (p := ⟨b', _, none⟩) hbn').trans f3), hb⟩
              have hih : ∀ w3, Below wr.heap.size wr w3 → Calls Try.prog 32 #[.agg #[.int .i64 k1, .int .i64 n1, .string s1, .slice a1 l1 c1], .agg #[.int .i64 k2, .int .i64 n2, .string s2, .slice a2 l2 c2]] w3 fun e w4 => e = .returned (.int .i64 (T1.cmp T2)) ∧ Below wr.heap.size wr w4 := fun w3 h3 =>
                (HI.out T1 hm1 T2 _ _ w3 (IsTm.later (hB0.trans (h3.mono hB0.size)) (Nat.le_trans hB0.size h3.size) ht1) (IsTm.later (hB0.trans (h3.mono hB0.size)) (Nat.le_trans hB0.size h3.size) ht2)
                  (by have h1 := Tm.size_le_sizes hm1; have h2 := HZ.out.1; omega) (by have h1 := Tm.size_le_sizes hm2; have h2 := HZ.out.2; omega)).mono fun e w4 h4 => ⟨h4.1, h3.trans (h4.2.mono h3.size)⟩
              have hnext : Hid (T1.cmp T2 = lx m (Tm.cmps (ks.take (j + 1)) (ks'.take (j + 1)))) := by
                obtain ⟨hm0, hc0⟩ := lx_zero.1 HQ.out
                show T1.cmp T2 = _
                rw [cmps_take HL.out hT1 hT2, hm0, hc0]
                rfl
              have HB := Lib.hid hB
              clear e0 e1 e2 e3 f0 f1 f2 f3 ht1 ht2 hB hT1 hT2 hlt8 hm1 hm2 hbx hby t0 t1 t2 y0 y1 y2 y3 hB0
              go_wp2_with fail
              clear t3
              go_region_held3 (fun w' => w'.cell? ⟨w.heap.size, 3, none⟩ = some (.slice (some ⟨b, o, none⟩) ks.length cap) ∧ w'.cell? ⟨w.heap.size + 1, 3, none⟩ = some (.slice (some ⟨b', o', none⟩) ks'.length cap') ∧ w'.cell? ⟨b, o + j * 4, none⟩ = some (.int .i64 k1) ∧ w'.cell? ⟨b, o + j * 4 + 1, none⟩ = some (.int .i64 n1) ∧ w'.cell? ⟨b, o + j * 4 + 2, none⟩ = some (.string s1) ∧ w'.cell? ⟨b, o + j * 4 + 3, none⟩ = some (.slice a1 l1 c1) ∧
                  w'.cell? ⟨b', o' + j * 4, none⟩ = some (.int .i64 k2) ∧ w'.cell? ⟨b', o' + j * 4 + 1, none⟩ = some (.int .i64 n2) ∧ w'.cell? ⟨b', o' + j * 4 + 2, none⟩ = some (.string s2) ∧ w'.cell? ⟨b', o' + j * 4 + 3, none⟩ = some (.slice a2 l2 c2) ∧ Below wr.heap.size wr w')
                (first | exact HS _ (Below.refl _ _).drew | exact HS _ hb4)
                (first | (go_at_call 32; (with_reducible refine (hih _ (by go_split_ands; assumption)).mono ?_); rintro e w4 ⟨rfl, hb4⟩))
              go_wp2_with fail
              go_roundw
              case rel => exact ⟨j + 1, by simp, hlt, by rw [hnext.out], HB.out.trans (hb4.mono HB.out.size)⟩
              case measure => simp [intOf]; omega
            · have hqb : (q == 0) = false := by simpa using hq0
              have HF : Hid (lx m (Tm.cmps ks ks') = q) := by
                show lx m (Tm.cmps ks ks') = q
                rw [← HQ.out]
                rw [← HQ.out] at hq0
                unfold lx at hq0 ⊢
                split
                · rename_i h0
                  rw [if_pos h0] at hq0
                  exact cmps_stop HL.out hq0
                · rfl
              have HB := Lib.hid (HH.out.1.1.trans (hB.mono HH.out.1.1.size))
              clear hq0 hB hbx hby
              go_wp2_with fail
              go_ret
              exact ⟨by rw [HCM.out, HF.out]; rfl, HB.out⟩
          · have hje : j = ks.length := by omega
            subst hje
            have hltz : ¬ ((ks.length : Int) < (ks.length : Int)) := by omega
            have HF : Hid (lx m (Tm.cmps ks ks') = q) := by
              have h := HQ.out
              rw [List.take_length, HL.out, List.take_length] at h
              exact h
            have HB := Lib.hid (HH.out.1.1.trans (hB.mono HH.out.1.1.size))
            clear hB hbx hby hlt
            go_wp2_with fail
            go_ret
            exact ⟨by rw [HCM.out, HF.out]; rfl, HB.out⟩
end Go.Proofs.Ytnkfjomnpnbidaa

namespace Go.Proofs.Ytnkfjomnpnbidaa
open Go.RowKit Go.Shelf
set_option linter.unusedVariables false

def PvL (w : World) (base B : Nat) (v : Value) (b : Nat) : Prop := b < w.heap.size ∧ v.ownBlock ≠ some b ∧ b ≠ B ∧ base ≤ b
/-- A slice that owns terms; these lie in blocks that are neither its own nor B. -/
def OwnTl (w : World) (base B : Nat) (v : Value) (ks : List Tm) : Prop := ∃ qs, w.ownsRow base 24 4 v qs.length (flatQ qs) ∧ QsOk (PvL w base B v) w qs ks

theorem OwnTl.nil (w : World) (base B : Nat) : OwnTl w base B (.slice none 0 0) [] := ⟨[], World.ownsRow_nil _ _ _ _, ⟨rfl, fun i q t h => by simp at h⟩⟩
theorem OwnTl.empty (w : World) (base B : Nat) (hb : base ≤ w.heap.size) : OwnTl (w.alloc (.cells #[] 24)) base B (.slice (some ⟨w.heap.size, 0, none⟩) 0 0) [] :=
  ⟨[], ⟨rfl, Or.inr ⟨w.heap.size, 0, #[], rfl, hb, Go.Deep.blk_alloc_new _ _, Nat.le_refl _, Nat.zero_le _, rfl, rfl⟩⟩, ⟨rfl, fun i q t h => by simp at h⟩⟩
theorem OwnTl.lt {w : World} {base B : Nat} {v : Value} {ks : List Tm} (h : OwnTl w base B v ks) : ∀ k, v.ownBlock = some k → base ≤ k := fun k hk => by
  obtain ⟨qs, h1, _⟩ := h
  exact (World.ownsRow.lt h1 k hk).1
theorem OwnTl.lt2 {w : World} {base B : Nat} {v : Value} {ks : List Tm} (h : OwnTl w base B v ks) : ∀ k, v.ownBlock = some k → k < w.heap.size := fun k hk => by
  obtain ⟨qs, h1, _⟩ := h
  exact (World.ownsRow.lt h1 k hk).2
theorem OwnTl.form {w : World} {base B : Nat} {v : Value} {ks : List Tm} (h : OwnTl w base B v ks) : ∃ a c, v = .slice a ks.length c := by
  obtain ⟨qs, h1, h2⟩ := h
  rw [h2.1] at h1
  rcases h1.2 with ⟨rfl, e⟩ | ⟨g, cap, cur, rfl, _⟩
  · exact ⟨none, 0, by rw [e]⟩
  · exact ⟨_, _, rfl⟩
/-- It stays where neither its row nor what its terms lie in has turned. -/
theorem OwnTl.kept {w w' : World} {base B : Nat} {v : Value} {ks : List Tm} (h : OwnTl w base B v ks) (hs : w.heap.size ≤ w'.heap.size) (hk : ∀ b, b < w.heap.size → b ≠ B → w'.heap[b]? = w.heap[b]?) (hB : v.ownBlock ≠ some B) : OwnTl w' base B v ks := by
  obtain ⟨qs, h1, h2⟩ := h
  refine ⟨qs, ?_, h2.carry (fun b hb => hk b hb.1 hb.2.2.1) (fun b hb => ⟨Nat.lt_of_lt_of_le hb.1 hs, hb.2⟩)⟩
  obtain ⟨hl, ⟨h0, h1⟩ | ⟨g, cap, cur, h0, hg, hh, r⟩⟩ := h1
  · exact ⟨hl, Or.inl ⟨h0, h1⟩⟩
  · refine ⟨hl, Or.inr ⟨g, cap, cur, h0, hg, ?_, r⟩⟩
    rw [hk g (Array.getElem?_eq_some_iff.1 hh).1 (fun e => hB (by rw [h0, e]; rfl))]
    exact hh
theorem OwnTl.alloc {w : World} {base B : Nat} {v : Value} {ks : List Tm} (h : OwnTl w base B v ks) (hB : v.ownBlock ≠ some B) (o : Obj) : OwnTl (w.alloc o) base B v ks :=
  h.kept (by simp) (fun b hb _ => Below.heap_alloc w o b hb) hB
theorem OwnTl.ts {w : World} {base B : Nat} {v : Value} {ks : List Tm} (h : OwnTl w base B v ks) : TsIn (fun b => base ≤ b ∧ b < w.heap.size) w v ks := by
  obtain ⟨qs, h1, h2⟩ := h
  rw [h2.1] at h1
  obtain ⟨_, ⟨rfl, h0⟩ | ⟨g, cap, cur, rfl, hg, hh, hc1, hc2, hc3, hc4⟩⟩ := h1
  · obtain rfl : ks = [] := List.eq_nil_of_length_eq_zero h0
    exact noTs _ _
  · refine ⟨some ⟨g, 0, none⟩, cap, rfl, hc1, hc2, (fun h => by cases h), fun i hi => ?_⟩
    have hq : i < qs.length := by rw [h2.1]; exact hi
    obtain ⟨⟨a, l, c, e⟩, hT⟩ := h2.2 i qs[i] ks[i] (List.getElem?_eq_getElem hq) (List.getElem?_eq_getElem hi)
    obtain ⟨g0, g1, g2, g3⟩ := flatQ_get qs i qs[i] (List.getElem?_eq_getElem hq)
    have cell : ∀ j, j < ks.length * 4 → w.cell? ⟨g, j, none⟩ = (flatQ qs)[j]? := fun j hj => by
      rw [← hc4, List.getElem?_take_of_lt hj]
      simp [World.cell?, hh]
    refine ⟨g, 0, qs[i].1, qs[i].2.1, qs[i].2.2.1, a, l, c, rfl, ⟨hg, (Array.getElem?_eq_some_iff.1 hh).1⟩, ?_, ?_, ?_, ?_, ?_⟩
    · rw [Nat.zero_add, cell _ (by omega)]; exact g0
    · rw [Nat.zero_add, cell _ (by omega)]; exact g1
    · rw [Nat.zero_add, cell _ (by omega)]; exact g2
    · rw [Nat.zero_add, cell _ (by omega), g3, e]
    · have hT' := hT.carry (q := fun b => base ≤ b ∧ b < w.heap.size) (B := w) (fun _ _ => rfl) (fun b hb => ⟨hb.2.2.2, hb.1⟩)
      unfold qval at hT'
      rw [e] at hT'
      exact hT'

/-- append, run. -/
theorem run_append_tl {w : World} (ty : TypeId) (base B : Nat) (v u : Value) (ks ls : List Tm) (hown : OwnTl w base B v ks) (hsrc : TsIn (PvL w base B v) w u ls) (hl : ks.length + ls.length ≤ 1000000000000) (hbase : base ≤ w.heap.size) (hB : B < w.heap.size) :
    ∃ v' w', (Builtin.append_ #[22, 22] ty #[v, u]).run Try.prog w = .ok v' w' ∧ OwnTl w' base B v' (ks ++ ls) ∧ w.grownBy w' v.ownBlock ∧ (v'.ownBlock = v.ownBlock ∨ v'.ownBlock = some w.heap.size) := by
  obtain ⟨i0, hi, hz0, hz1, hz2⟩ := info_parts infoTerm
  obtain ⟨qs, h1, h2⟩ := hown
  obtain ⟨a, cap, rs, rfl, h3, h4, h5⟩ := src_quads hsrc
  cases a with
  | none =>
    obtain ⟨rfl, rfl⟩ := h3 rfl
    refine ⟨v, w, run_append_owned_none w base 22 ty 24 i0 4 Try.underlying22 hi v qs.length (flatQ qs) h1, ⟨qs, h1, by rw [List.append_nil]; exact h2⟩, ⟨rfl, rfl, rfl, Nat.le_refl _, fun _ _ _ => rfl⟩, Or.inl rfl⟩
  | some ad =>
    have hql : qs.length = ks.length := h2.1
    have hrl : rs.length = ls.length := h4.1
    obtain ⟨v', w', hr, ho, hg, _, hat⟩ := run_append_own_at (P := Try.prog) w base 22 ty 24 i0 _ 4 56 Try.underlying22 hi hz0 hz1 hz2 rfl (by decide) v qs.length (flatQ qs) h1 ad ls.length cap (flatQ rs) (by rw [flatQ_length, hrl]) (h5 ad rfl) (flatQ_one h4) (by unfold maxLen; omega) (by omega) hbase
    refine ⟨v', w', hr, ⟨qs ++ rs, ?_, ?_⟩, hg, hat⟩
    · rw [List.length_append, flatQ_append, hrl]; exact ho
    · refine (h2.append h4).carry (fun b hb => hg.block b hb.1 (fun e => hb.2.1 e.symm)) (fun b hb => ⟨Nat.lt_of_lt_of_le hb.1 hg.size, fun e => ?_, hb.2.2⟩)
      rcases hat with hat | hat
      · exact hb.2.1 (hat.symm.trans e)
      · rw [hat] at e; injection e with e; have := hb.1; omega

/-- append, at a step of a region that draws its order. -/
theorem step_append_tl {w : World} {ops : Array Oper} {o : Oper} {a : Act} {K : Act → World → Prop} {Q : Exit → Act → World → Prop} {E : Prop} (hgd : o.guard = none) (s x : Operand)
    (ho : o.op = .call { callee := .builtin .append, args := #[s, x], argTypes := #[22, 22] })
    (base B : Nat) (v u : Value) (ks ls : List Tm) (hs : a.eval s = v) (hx : a.eval x = u) (hown : OwnTl w base B v ks) (hsrc : TsIn (PvL w base B v) w u ls) (hl : ks.length + ls.length ≤ 1000000000000) (hbase : base ≤ w.heap.size) (hB : B < w.heap.size)
    (h : ∀ v' w', OwnTl w' base B v' (ks ++ ls) → w.grownBy w' v.ownBlock → (v'.ownBlock = v.ownBlock ∨ v'.ownBlock = some w.heap.size) → K (a.put o.dst v') w') :
    if Region.wanted o (yielded ops a.tmps) = true then Oper.wp Try.prog o a w K Q else E := by
  have hw : Region.wanted o (yielded ops a.tmps) = true := by simp [Region.wanted, hgd]
  rw [if_pos hw]
  obtain ⟨v', w', hr, h2, h3, h4⟩ := run_append_tl o.type base B v u ks ls hown hsrc hl hbase hB
  unfold Oper.wp execOp
  simp only [ho, resolve, invoke, builtin, Sem.run_bind, Sem.run_pure, Result.andThen_ok, List.map_toArray, List.map_cons, List.map_nil, hs, hx, hr]
  exact h v' w' h2 h3 h4


end Go.Proofs.Ytnkfjomnpnbidaa
