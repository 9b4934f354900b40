/-
  The law SealPuts: its walk.
-/
import Derived.Test.YtllggpmmcamkmaaSLaw1
namespace Go.Proofs.Ytllggpmmcamkmaa
open Go.RowKit Go.Shelf
open Classical
set_option linter.unusedVariables false

theorem has_num {w : World} {k n : Int} {s : ByteArray} {v : Value} {T : Tm} (h : Has w (.agg #[.int .i64 k, .int .i64 n, .string s, v]) T) : T.num = n := by
  obtain ⟨k', n', s', a', l', c', ks', e, rfl, -⟩ := h.form
  simp only [Value.agg.injEq, Array.mk.injEq, List.cons.injEq, Value.int.injEq, Value.string.injEq, true_and, and_true] at e
  exact e.2.1.symm
theorem over_kid {T : Tm} {l : Int} {i : Nat} {t : Tm} (h : (T.over' l).kids[i]? = some t) : t.kind = 4 ∧ t.num = l := by
  have h' : (T.kids.map fun t => putT t l)[i]? = some t := h
  rw [List.getElem?_map] at h'
  cases hk : T.kids[i]? with
  | none => rw [hk] at h'; cases h'
  | some u => rw [hk] at h'; cases h'; exact ⟨rfl, rfl⟩

set_option maxRecDepth 100000 in
set_option maxHeartbeats 8000000 in
theorem sealPuts_at (x ya : Int) (u : Value) (A : Tm) (w : World) (hu : Has w u A) (hs : A.size ≤ 1000000000000) (hx0 : 0 ≤ x) (hx1 : x ≤ 255) (ha0 : 0 ≤ ya) (ha1 : ya ≤ 255) :
    Calls Try.prog 6 #[.int .u8 x, u, .int .u8 ya] w fun r w' => r = .returned (.bool true) ∧ Below w.heap.size w w' := by
  obtain ⟨k1, n1, s1, a1, l1, c1, ks1, rfl, e', -⟩ := hu.form
  clear e'
  obtain ⟨kk, hk, hk1⟩ : ∃ kk : Nat, 1 + x % 16 = (kk : Int) + 1 ∧ kk < 16 := ⟨(x % 16).toNat, by omega, by omega⟩
  have Hk := Lib.hid (And.intro hk hk1)
  clear hk hk1
  obtain ⟨NN, hNN⟩ : ∃ NN : Nat, kk + 1 = NN := ⟨_, rfl⟩
  have HN := Lib.hid (And.intro hNN (show 1 ≤ NN ∧ NN ≤ 16 by have := Hk.out.2; omega))
  clear hNN
  obtain ⟨qa, hqa⟩ : ∃ qa, decide (A.size ≤ 2000) = qa := ⟨_, rfl⟩
  obtain ⟨ck, hck⟩ : ∃ ck, A.check (NN : Int) = ck := ⟨_, rfl⟩
  have Hqa := Lib.hid hqa
  have Hck := Lib.hid hck
  have Hs := Lib.hid hs
  have fa : ∀ w', Has w' (.agg #[.int .i64 k1, .int .i64 n1, .string s1, .slice a1 l1 c1]) A → Calls Try.prog 27 #[.agg #[.int .i64 k1, .int .i64 n1, .string s1, .slice a1 l1 c1]] w' (Gets w' (.bool qa)) := fun w' h => by rw [← Hqa.out]; exact sfew_at _ A w' h Hs.out
  have fc : ∀ w', Has w' (.agg #[.int .i64 k1, .int .i64 n1, .string s1, .slice a1 l1 c1]) A → Calls Try.prog 12 #[.agg #[.int .i64 k1, .int .i64 n1, .string s1, .slice a1 l1 c1], .int .i64 (NN : Int)] w' (Gets w' (.int .i64 ck)) := fun w' h => by rw [← Hck.out]; exact check_at _ A NN w' h (by have := Hs.out; omega)
  clear hqa hck hs
  have HB1 := Lib.hid (show Below w.heap.size w (w.alloc (.cells #[.int .i64 k1, .int .i64 n1, .string s1, .slice a1 l1 c1] 24)) from ((Below.refl _ w).alloc (Nat.le_refl _) _))
  have HX2 := Lib.hid (show (w.alloc (.cells #[.int .i64 k1, .int .i64 n1, .string s1, .slice a1 l1 c1] 24)).heap[w.heap.size]? = some (.cells #[.int .i64 k1, .int .i64 n1, .string s1, .slice a1 l1 c1] 24 (0, 0)) from (by simpa using World.alloc_heap_new w (.cells #[.int .i64 k1, .int .i64 n1, .string s1, .slice a1 l1 c1] 24)))
  have HT3 := Lib.hid (Has.below hu HB1.out)
  obtain ⟨p4_0, p4_1, p4_2, p4_3⟩ := tbox_cells HX2.out
  clear hu
  go_enter Try.func6, Try.ntmps6
  go_wp2_with fail
  refine Calls.mono (sshown_at _) ?_
  rintro r w5 ⟨rfl, bw5⟩
  have st6 : Below (w.alloc (.cells #[.int .i64 k1, .int .i64 n1, .string s1, .slice a1 l1 c1] 24)).heap.size (w.alloc (.cells #[.int .i64 k1, .int .i64 n1, .string s1, .slice a1 l1 c1] 24)) w5 := bw5
  have HB7 := Lib.hid (HB1.out.trans (st6.mono HB1.out.size))
  have HX8 := Lib.hid (tbox_below HX2.out st6)
  have HT9 := Lib.hid (Has.below HT3.out st6)
  clear p4_0 p4_1 p4_2 p4_3
  obtain ⟨p10_0, p10_1, p10_2, p10_3⟩ := tbox_cells HX8.out
  clear st6 HB1 HX2 HT3
  clear bw5
  go_wp2_with fail
  rw [Hk.out.1]
  refine Calls.mono (chain_at kk _ Hk.out.2) ?_
  rintro r w11 ⟨lb, rfl, hL0, bw11⟩
  rw [HN.out.1] at hL0
  have st12 : Below w5.heap.size w5 w11 := bw11
  have HB13 := Lib.hid (HB7.out.trans (st12.mono HB7.out.size))
  have HX14 := Lib.hid (tbox_below HX8.out st12)
  have HT15 := Lib.hid (Has.below HT9.out st12)
  clear p10_0 p10_1 p10_2 p10_3
  obtain ⟨p16_0, p16_1, p16_2, p16_3⟩ := tbox_cells HX14.out
  clear st12 HB7 HX8 HT9
  clear bw11
  have HL17 := Lib.hid hL0
  clear hL0
  obtain ⟨I, inst, F, n0, hF0, hFb, hFc⟩ := later_family w11
  have K0 := fun i => (tbox_cells (tbox_below HX14.out (hFb i))).1
  have K1 := fun i => (tbox_cells (tbox_below HX14.out (hFb i))).2.1
  have K2 := fun i => (tbox_cells (tbox_below HX14.out (hFb i))).2.2.1
  have K3 := fun i => (tbox_cells (tbox_below HX14.out (hFb i))).2.2.2
  have C1 := Lib.hid (fun i => calls_fam hFc i (fa _ (Has.below HT15.out (hFb i))))
  have C2 := Lib.hid (fun i => calls_fam hFc i ((ch_len (HL17.out.below (hFb i))).mono fun _ _ h => gets_of_reads h))
  have C3 := Lib.hid (fun i => calls_fam hFc i (fc _ (Has.below HT15.out (hFb i))))
  have HF := Lib.hid hFb
  clear hFb hFc fa fc
  cases qa with
  | false =>
    go_wp2_with fail
    refine wp_region_fam F n0 hF0 (by kernel_rfl) (by kernel_rfl) ?_
    clear hF0
    repeat (go_big_quiet_step (first | (go_at_call 27; (with_reducible exact C1.out _)) | (go_at_call 28; (with_reducible exact C2.out _)) | (go_at_call 12; (with_reducible exact C3.out _))))
    refine wpQuiet_nil ?_
    intro _ hw'
    obtain ⟨nq, hw''⟩ := hw'
    subst hw'' 
    go_wp2_with fail
    go_ret
    exact ⟨rfl, HB13.out.trans ((HF.out nq).mono HB13.out.size)⟩
  | true =>
    by_cases hc : ck = 0
    case neg =>
      have hc1 : (ck == 0) = false := by simpa using hc
      have hc2 : (ck != 0) = true := by simpa using hc
      go_wp2_with fail
      refine wp_region_fam F n0 hF0 (by kernel_rfl) (by kernel_rfl) ?_
      clear hF0
      repeat (go_big_quiet_step (first | (go_at_call 27; (with_reducible exact C1.out _)) | (go_at_call 28; (with_reducible exact C2.out _)) | (go_at_call 12; (with_reducible exact C3.out _))))
      refine wpQuiet_nil ?_
      intro _ hw'
      obtain ⟨nq, hw''⟩ := hw'
      subst hw'' 
      go_wp2_with fail
      go_ret
      exact ⟨rfl, HB13.out.trans ((HF.out nq).mono HB13.out.size)⟩
    subst hc
    go_wp2_with fail
    refine wp_region_fam F n0 hF0 (by kernel_rfl) (by kernel_rfl) ?_
    clear hF0
    repeat (go_big_quiet_step (first | (go_at_call 27; (with_reducible exact C1.out _)) | (go_at_call 28; (with_reducible exact C2.out _)) | (go_at_call 12; (with_reducible exact C3.out _))))
    refine wpQuiet_nil ?_
    intro _ hw'
    obtain ⟨nq, hw''⟩ := hw'
    subst hw'' 
    clear K0 K1 K2 K3 C1 C2 C3
    have st18 : Below w11.heap.size w11 (F nq) := HF.out nq
    have HB19 := Lib.hid (HB13.out.trans (st18.mono HB13.out.size))
    have HX20 := Lib.hid (tbox_below HX14.out st18)
    have HT21 := Lib.hid (Has.below HT15.out st18)
    have HL22 := Lib.hid (ChainAt.below HL17.out st18)
    clear p16_0 p16_1 p16_2 p16_3
    obtain ⟨p23_0, p23_1, p23_2, p23_3⟩ := tbox_cells HX20.out
    clear st18 HB13 HX14 HT15 HL17
    clear HF
    have hA := Lib.hid (of_decide_eq_true Hqa.out)
    have hVal := Lib.hid (check_zero Hck.out).2.2
    have hN1 := HN.out.2.1
    have hN2 := HN.out.2.2
    obtain ⟨X, hX, hXN⟩ : ∃ X : Nat, ya % (NN : Int) = X ∧ X < NN := mod_level ya NN hN1
    have lX := Lib.hid hXN
    have iX := Lib.hid (show i64ok (X : Int) by unfold i64ok; omega)
    have oA := Lib.hid (show A.size ≤ 1000000000000 by have := hA.out; omega)
    obtain ⟨P, hP⟩ : ∃ P, putT A (X : Int) = P := ⟨_, rfl⟩
    obtain ⟨O, m, hO⟩ : ∃ O m, P.openC NN = (O, m) := ⟨_, _, rfl⟩
    have f1 : (O, m) = ((A.strip Nat.max (lvC NN) 0).1.over' (max X (A.strip Nat.max (lvC NN) 0).2 : Nat), max X (A.strip Nat.max (lvC NN) 0).2) := by rw [← hO, ← hP]; exact open_put hXN A
    have f2 : m < NN := by have := openC_lt hN1 P; rw [hO] at this; exact this
    have f3 : X ≤ m := by have := congrArg Prod.snd f1; simp only at this; omega
    have f4 : O = (A.strip Nat.max (lvC NN) 0).1.over' (m : Int) := by have h1 := congrArg Prod.fst f1; have h2 := congrArg Prod.snd f1; simp only at h1 h2; rw [h1, h2]
    have f5 : P.size = A.size + 1 := by rw [← hP, put_size]
    have f6 : O.size ≤ 2 * P.size := by have := openC_size NN P; rw [hO] at this; exact this
    have f7 : P.er = A.er := by rw [← hP, put_er]
    have f8 : P.jC NN 0 = max X (A.jC NN 0) := by rw [← hP]; exact jC_put NN A X hXN
    have HQ := Lib.hid (And.intro hP (And.intro hO (And.intro f2 (And.intro f3 (And.intro f4 (And.intro f5 (And.intro f6 (And.intro f7 f8))))))))
    have oP := Lib.hid (show P.size ≤ 1000000000000 by have := hA.out; omega)
    clear hXN hP hO f1 f2 f3 f4 f5 f6 f7 f8
    have pt : ∀ (w' : World), Has w' (.agg #[.int .i64 k1, .int .i64 n1, .string s1, .slice a1 l1 c1]) A → Calls Try.prog 38 #[.agg #[.int .i64 k1, .int .i64 n1, .string s1, .slice a1 l1 c1], .int .i64 (X : Int)] w' (NewTm w' P) := fun w' h => by
      have := put_at _ A X w' iX.out h oA.out
      rwa [HQ.out.1] at this
    have op : ∀ (v : Value) (w' : World), ChainAt w' lb NN → Has w' v P → Calls Try.prog 29 #[.pointer (some ⟨lb, 0, none⟩), v] w' (NewOpen w' O m) := fun v w' hL h => by
      have := open_at v P w' lb NN hL h oP.out
      rwa [HQ.out.2.1] at this
    go_wp2_with fail
    refine Calls.mono ((ch_len HL22.out).mono fun _ _ h => gets_of_reads h) ?_
    rintro r w24 ⟨rfl, bw24⟩
    have st25 : Below (F nq).heap.size (F nq) w24 := bw24
    have HB26 := Lib.hid (HB19.out.trans (st25.mono HB19.out.size))
    have HX27 := Lib.hid (tbox_below HX20.out st25)
    have HT28 := Lib.hid (Has.below HT21.out st25)
    have HL29 := Lib.hid (ChainAt.below HL22.out st25)
    clear p23_0 p23_1 p23_2 p23_3
    obtain ⟨p30_0, p30_1, p30_2, p30_3⟩ := tbox_cells HX27.out
    clear st25 HB19 HX20 HT21 HL22
    clear bw24
    go_wp2_with fail
    try rw [hX]
    refine Calls.mono (pt _ HT28.out) ?_
    intro r w31 h2
    obtain ⟨k2, n2, s2, a2, l2, c2, rfl, hh2, b2⟩ := h2.has
    clear h2
    have HT32 := Lib.hid hh2
    clear hh2
    have st33 : Below w24.heap.size w24 w31 := b2
    have HB34 := Lib.hid (HB26.out.trans (st33.mono HB26.out.size))
    have HX35 := Lib.hid (tbox_below HX27.out st33)
    have HT36 := Lib.hid (Has.below HT28.out st33)
    have HL37 := Lib.hid (ChainAt.below HL29.out st33)
    clear p30_0 p30_1 p30_2 p30_3
    obtain ⟨p38_0, p38_1, p38_2, p38_3⟩ := tbox_cells HX35.out
    clear st33 HB26 HX27 HT28 HL29
    clear b2
    have st39 : Below w31.heap.size w31 (w31.alloc (.cells #[.int .i64 k2, .int .i64 n2, .string s2, .slice a2 l2 c2] 24)) := (Below.refl _ _).alloc (Nat.le_refl _) _
    have HB40 := Lib.hid (HB34.out.trans (st39.mono HB34.out.size))
    have HX41 := Lib.hid (tbox_below HX35.out st39)
    have HT42 := Lib.hid (Has.below HT36.out st39)
    have HT43 := Lib.hid (Has.below HT32.out st39)
    have HL44 := Lib.hid (ChainAt.below HL37.out st39)
    clear p38_0 p38_1 p38_2 p38_3
    obtain ⟨p45_0, p45_1, p45_2, p45_3⟩ := tbox_cells HX41.out
    clear st39 HB34 HX35 HT36 HT32 HL37
    have HX46 := Lib.hid (World.alloc_heap_new w31 (.cells #[.int .i64 k2, .int .i64 n2, .string s2, .slice a2 l2 c2] 24))
    obtain ⟨p47_0, p47_1, p47_2, p47_3⟩ := tbox_cells HX46.out
    go_wp2_with fail
    refine Calls.mono (op _ _ HL44.out HT43.out) ?_
    intro r w48 h3
    obtain ⟨k3, n3, s3, a3, l3, c3, rfl, hh3, b3⟩ := h3.has
    clear h3
    have HT49 := Lib.hid hh3
    clear hh3
    have st50 : Below (w31.alloc (.cells #[.int .i64 k2, .int .i64 n2, .string s2, .slice a2 l2 c2] 24)).heap.size (w31.alloc (.cells #[.int .i64 k2, .int .i64 n2, .string s2, .slice a2 l2 c2] 24)) w48 := b3
    have HB51 := Lib.hid (HB40.out.trans (st50.mono HB40.out.size))
    have HX52 := Lib.hid (tbox_below HX41.out st50)
    have HX53 := Lib.hid (tbox_below HX46.out st50)
    have HT54 := Lib.hid (Has.below HT42.out st50)
    have HT55 := Lib.hid (Has.below HT43.out st50)
    have HL56 := Lib.hid (ChainAt.below HL44.out st50)
    clear p45_0 p45_1 p45_2 p45_3
    obtain ⟨p57_0, p57_1, p57_2, p57_3⟩ := tbox_cells HX52.out
    clear p47_0 p47_1 p47_2 p47_3
    obtain ⟨p58_0, p58_1, p58_2, p58_3⟩ := tbox_cells HX53.out
    clear st50 HB40 HX41 HX46 HT42 HT43 HL44
    clear b3
    have st59 : Below w48.heap.size w48 (w48.alloc (.cells #[.int .i64 k3, .int .i64 n3, .string s3, .slice a3 l3 c3] 24)) := (Below.refl _ _).alloc (Nat.le_refl _) _
    have HB60 := Lib.hid (HB51.out.trans (st59.mono HB51.out.size))
    have HX61 := Lib.hid (tbox_below HX52.out st59)
    have HX62 := Lib.hid (tbox_below HX53.out st59)
    have HT63 := Lib.hid (Has.below HT54.out st59)
    have HT64 := Lib.hid (Has.below HT55.out st59)
    have HT65 := Lib.hid (Has.below HT49.out st59)
    have HL66 := Lib.hid (ChainAt.below HL56.out st59)
    clear p57_0 p57_1 p57_2 p57_3
    obtain ⟨p67_0, p67_1, p67_2, p67_3⟩ := tbox_cells HX61.out
    clear p58_0 p58_1 p58_2 p58_3
    obtain ⟨p68_0, p68_1, p68_2, p68_3⟩ := tbox_cells HX62.out
    clear st59 HB51 HX52 HX53 HT54 HT55 HT49 HL56
    have HX69 := Lib.hid (World.alloc_heap_new w48 (.cells #[.int .i64 k3, .int .i64 n3, .string s3, .slice a3 l3 c3] 24))
    obtain ⟨p70_0, p70_1, p70_2, p70_3⟩ := tbox_cells HX69.out
    obtain ⟨wz, hwz0⟩ : ∃ wz, wz = (w48.alloc (.cells #[.int .i64 k3, .int .i64 n3, .string s3, .slice a3 l3 c3] 24)) := ⟨_, rfl⟩
    have hwz := Lib.hid hwz0
    clear hwz0
    have y0 : wz.heap[w.heap.size]? = some (.cells #[.int .i64 k1, .int .i64 n1, .string s1, .slice a1 l1 c1] 24 (0, 0)) := by rw [hwz.out]; exact HX61.out
    have lt0 := (Array.getElem?_eq_some_iff.1 y0).1
    obtain ⟨g0_0, g0_1, g0_2, g0_3⟩ := tbox_cells y0
    have y1 : wz.heap[w31.heap.size]? = some (.cells #[.int .i64 k2, .int .i64 n2, .string s2, .slice a2 l2 c2] 24 (0, 0)) := by rw [hwz.out]; exact HX62.out
    have lt1 := (Array.getElem?_eq_some_iff.1 y1).1
    obtain ⟨g1_0, g1_1, g1_2, g1_3⟩ := tbox_cells y1
    have y2 : wz.heap[w48.heap.size]? = some (.cells #[.int .i64 k3, .int .i64 n3, .string s3, .slice a3 l3 c3] 24 (0, 0)) := by rw [hwz.out]; exact HX69.out
    have lt2 := (Array.getElem?_eq_some_iff.1 y2).1
    obtain ⟨g2_0, g2_1, g2_2, g2_3⟩ := tbox_cells y2
    have z1 : Has wz (.agg #[.int .i64 k1, .int .i64 n1, .string s1, .slice a1 l1 c1]) A := by rw [hwz.out]; exact HT63.out
    have z2 : Has wz (.agg #[.int .i64 k2, .int .i64 n2, .string s2, .slice a2 l2 c2]) P := by rw [hwz.out]; exact HT64.out
    have z3 : Has wz (.agg #[.int .i64 k3, .int .i64 n3, .string s3, .slice a3 l3 c3]) O := by rw [hwz.out]; exact HT65.out
    have zL := hwz.out ▸ HL66.out
    have HZ := Lib.hid (show Below w.heap.size w wz by rw [hwz.out]; exact HB60.out)
    have HS : ∀ w', Below wz.heap.size wz w' → (w'.cell? ⟨w.heap.size, 0, none⟩ = some (.int .i64 k1) ∧ w'.cell? ⟨w.heap.size, 1, none⟩ = some (.int .i64 n1) ∧ w'.cell? ⟨w.heap.size, 2, none⟩ = some (.string s1) ∧ w'.cell? ⟨w.heap.size, 3, none⟩ = some (.slice a1 l1 c1) ∧ w'.cell? ⟨w31.heap.size, 0, none⟩ = some (.int .i64 k2) ∧ w'.cell? ⟨w31.heap.size, 1, none⟩ = some (.int .i64 n2) ∧ w'.cell? ⟨w31.heap.size, 2, none⟩ = some (.string s2) ∧ w'.cell? ⟨w31.heap.size, 3, none⟩ = some (.slice a2 l2 c2) ∧ w'.cell? ⟨w48.heap.size, 0, none⟩ = some (.int .i64 k3) ∧ w'.cell? ⟨w48.heap.size, 1, none⟩ = some (.int .i64 n3) ∧ w'.cell? ⟨w48.heap.size, 2, none⟩ = some (.string s3) ∧ w'.cell? ⟨w48.heap.size, 3, none⟩ = some (.slice a3 l3 c3) ∧ Below wz.heap.size wz w') := fun w' hb =>
      ⟨(hb.cell (p := ⟨_, _, none⟩) lt0).trans g0_0, (hb.cell (p := ⟨_, _, none⟩) lt0).trans g0_1, (hb.cell (p := ⟨_, _, none⟩) lt0).trans g0_2, (hb.cell (p := ⟨_, _, none⟩) lt0).trans g0_3, (hb.cell (p := ⟨_, _, none⟩) lt1).trans g1_0, (hb.cell (p := ⟨_, _, none⟩) lt1).trans g1_1, (hb.cell (p := ⟨_, _, none⟩) lt1).trans g1_2, (hb.cell (p := ⟨_, _, none⟩) lt1).trans g1_3, (hb.cell (p := ⟨_, _, none⟩) lt2).trans g2_0, (hb.cell (p := ⟨_, _, none⟩) lt2).trans g2_1, (hb.cell (p := ⟨_, _, none⟩) lt2).trans g2_2, (hb.cell (p := ⟨_, _, none⟩) lt2).trans g2_3, hb⟩
    obtain ⟨hP, hO, f2, f3, f4, f5, f6, f7, f8⟩ := HQ.out
    have hA0 := hA.out
    have hl3 : l3 ≤ 100000 := by
      have h1 := has_len z3
      have h2 := Tm.length_le_sizes O.kids
      have h3 : O.size = 1 + Tm.sizes O.kids := by rw [← Tm.eta O, Tm.size_mk]; rfl
      omega
    have kid := Lib.hid (fun (i : Nat) (t : Tm) (h : O.kids[i]? = some t) => over_kid (by rw [← f4]; exact h))
    obtain ⟨jA, hjA⟩ : ∃ jA, A.jC NN 0 = jA := ⟨_, rfl⟩
    obtain ⟨jM, hjM⟩ : ∃ jM, max X jA = jM := ⟨_, rfl⟩
    have lJ := Lib.hid (show jA < NN by have := jC_le hN1 A; omega)
    have oPE := Lib.hid (show P.er.size ≤ 1000000000000 by have := P.er_size; omega)
    have e7 := Lib.hid f7
    have jp : ∀ (w' : World), ChainAt w' lb NN → Has w' (.agg #[.int .i64 k2, .int .i64 n2, .string s2, .slice a2 l2 c2]) P → Calls Try.prog 31 #[.pointer (some ⟨lb, 0, none⟩), .agg #[.int .i64 k2, .int .i64 n2, .string s2, .slice a2 l2 c2]] w' (Gets w' (.int .i64 (jM : Int))) := fun w' hL h => by
      have := sjoin_at _ P w' lb NN hL h oP.out
      rwa [f8, hjA, hjM] at this
    have ja : ∀ (w' : World), ChainAt w' lb NN → Has w' (.agg #[.int .i64 k1, .int .i64 n1, .string s1, .slice a1 l1 c1]) A → Calls Try.prog 31 #[.pointer (some ⟨lb, 0, none⟩), .agg #[.int .i64 k1, .int .i64 n1, .string s1, .slice a1 l1 c1]] w' (Gets w' (.int .i64 (jA : Int))) := fun w' hL h => by
      have := sjoin_at _ A w' lb NN hL h oA.out
      rwa [hjA] at this
    have jm : ∀ (w' : World), ChainAt w' lb NN → Calls Try.prog 33 #[.pointer (some ⟨lb, 0, none⟩), .int .i64 (X : Int), .int .i64 (jA : Int)] w' (Gets w' (.int .i64 (jM : Int))) := fun w' hL => by
      have := (ch_join hL lX.out lJ.out).mono fun _ _ h => gets_of_reads h
      rwa [hjM] at this
    have lq : ∀ (w' : World), ChainAt w' lb NN → Calls Try.prog 32 #[.pointer (some ⟨lb, 0, none⟩), .int .i64 (X : Int), .int .i64 (m : Int)] w' (Gets w' (.bool true)) := fun w' hL => by
      have := (ch_leq hL lX.out f2).mono fun _ _ h => gets_of_reads h
      rwa [decide_eq_true f3] at this
    obtain ⟨d1, hd1⟩ : ∃ d1, A.size = d1 := ⟨_, rfl⟩
    have D1 := Lib.hid hd1
    have sp : ∀ (w' : World), Has w' (.agg #[.int .i64 k2, .int .i64 n2, .string s2, .slice a2 l2 c2]) P → Calls Try.prog 14 #[.agg #[.int .i64 k2, .int .i64 n2, .string s2, .slice a2 l2 c2]] w' (Gets w' (.int .i64 ((d1 : Int) + 1))) := fun w' h => by
      have := size_at _ P w' h (by have := oP.out; omega)
      rwa [f5, D1.out, show (((d1 + 1 : Nat)) : Int) = (d1 : Int) + 1 by omega] at this
    have sa : ∀ (w' : World), Has w' (.agg #[.int .i64 k1, .int .i64 n1, .string s1, .slice a1 l1 c1]) A → Calls Try.prog 14 #[.agg #[.int .i64 k1, .int .i64 n1, .string s1, .slice a1 l1 c1]] w' (Gets w' (.int .i64 (d1 : Int))) := fun w' h => by
      have := size_at _ A w' h (by have := oA.out; omega)
      rwa [D1.out] at this
    have hw1 : IntKind.i64.wrap ((d1 : Int) + 1) = (d1 : Int) + 1 := by rw [wrapEq]; exact wrap64_id ⟨by omega, by omega⟩
    have HZ3 := Lib.hid z3
    have HSS := Lib.hid HS
    have HZL := Lib.hid zL
    have HZ12 := Lib.hid (And.intro z1 z2)
    clear y0 lt0 g0_0 g0_1 g0_2 g0_3 y1 lt1 g1_0 g1_1 g1_2 g1_3 y2 lt2 g2_0 g2_1 g2_2 g2_3 hP hO f2 f3 f4 f5 f6 f7 f8 hA0 hd1 hjA hjM z3 HS zL z1 z2 hX hN1 hN2 pt op
    go_wp2_with fail
    rw [← hwz.out]
    go_loopw [13] (fun i wr => ∃ c : Nat, i = .int .i64 c ∧ c ≤ l3 ∧ wr = wz) (fun i _ => l3 - (intOf i).toNat)
    case atStart => exact ⟨0, rfl, Nat.zero_le _, rfl⟩
    case round =>
      obtain ⟨c, rfl, hcl, rfl⟩ := hrel
      obtain ⟨gx0, gx1, gx2, gx3, gx4, gx5, gx6, gx7, gx8, gx9, gx10, gx11, -⟩ := HSS.out wr (Below.refl _ _)
      by_cases hlt : c < l3
      · have hz := HZ3.out
        have hlen := has_len hz
        obtain ⟨ko, no, so, kso⟩ := O
        have hf := has_kind hz
        have hnm := has_num hz
        have e1 : ko = k3 := hf.1
        have e2 : no = n3 := hnm
        have e3 : so = s3 := hf.2
        subst e1 e2 e3
        have hlen' : kso.length = l3 := hlen
        obtain ⟨b', o, k', n', s', a', l', c', T1, e4, hbn, d0, d1', d2, d3, hT1, ht1⟩ := IsTm.kid hz c (by rw [hlen']; exact hlt)
        subst e4
        have hkd := kid.out c T1 hT1
        have h4 := (has_kind ht1).1.symm.trans hkd.1
        have hm4 := (has_num ht1).symm.trans hkd.2
        subst h4
        subst hm4
        have HD := Lib.hid d2
        have HD3 := Lib.hid d3
        clear hz hlen hf hnm hT1 ht1 hkd hlen' d2 d3
        go_wp2_with fail
        go_roundw
        case rel => exact ⟨c + 1, by simp, hlt, by first | trivial | rfl⟩
        case measure => simp [intOf]; omega
      · have hce : l3 = c := by omega
        subst hce
        have HS := HSS.out
        have zL := HZL.out
        have z1 := HZ12.out.1
        have z2 := HZ12.out.2
        go_wp2_with fail
        clear gx0 gx1 gx2 gx3 gx4 gx5 gx6 gx7 gx8 gx9 gx10 gx11
        go_region_held3 (fun w' => w'.cell? ⟨w.heap.size, 0, none⟩ = some (.int .i64 k1) ∧ w'.cell? ⟨w.heap.size, 1, none⟩ = some (.int .i64 n1) ∧ w'.cell? ⟨w.heap.size, 2, none⟩ = some (.string s1) ∧ w'.cell? ⟨w.heap.size, 3, none⟩ = some (.slice a1 l1 c1) ∧ w'.cell? ⟨w31.heap.size, 0, none⟩ = some (.int .i64 k2) ∧ w'.cell? ⟨w31.heap.size, 1, none⟩ = some (.int .i64 n2) ∧ w'.cell? ⟨w31.heap.size, 2, none⟩ = some (.string s2) ∧ w'.cell? ⟨w31.heap.size, 3, none⟩ = some (.slice a2 l2 c2) ∧ w'.cell? ⟨w48.heap.size, 0, none⟩ = some (.int .i64 k3) ∧ w'.cell? ⟨w48.heap.size, 1, none⟩ = some (.int .i64 n3) ∧ w'.cell? ⟨w48.heap.size, 2, none⟩ = some (.string s3) ∧ w'.cell? ⟨w48.heap.size, 3, none⟩ = some (.slice a3 l3 c3) ∧ Below wr.heap.size wr w')
          (exact HS _ (by (repeat (first | with_reducible exact Below.refl _ _ | with_reducible apply below_al | with_reducible apply below_dr | ((with_reducible apply below_tr); (with_reducible assumption))))))
          (first
                | (go_at_call 14; (with_reducible refine Calls.mono (sa w17 ?_) ?_); ((with_reducible refine Has.below z1 ?_); (repeat (first | with_reducible exact Below.refl _ _ | with_reducible apply below_al | with_reducible apply below_dr | ((with_reducible apply below_tr); (with_reducible assumption))))); rintro r w18 ⟨rfl, b18⟩)
                | (go_at_call 14; (with_reducible refine Calls.mono (sp w16 ?_) ?_); ((with_reducible refine Has.below z2 ?_); (repeat (first | with_reducible exact Below.refl _ _ | with_reducible apply below_al | with_reducible apply below_dr | ((with_reducible apply below_tr); (with_reducible assumption))))); rintro r w17 ⟨rfl, b17⟩)
                | (go_at_call 21; (with_reducible refine Calls.mono (same_yes e7.out _ _ _ ?_ ?_ oPE.out) ?_); ((with_reducible refine Has.below h14 ?_); (repeat (first | with_reducible exact Below.refl _ _ | with_reducible apply below_al | with_reducible apply below_dr | ((with_reducible apply below_tr); (with_reducible assumption))))); ((with_reducible refine Has.below h15 ?_); (repeat (first | with_reducible exact Below.refl _ _ | with_reducible apply below_al | with_reducible apply below_dr | ((with_reducible apply below_tr); (with_reducible assumption))))); rintro r w16 ⟨rfl, b16⟩)
                | (go_at_call 30; (with_reducible refine Calls.mono (erase_at _ A w14 ?_ oA.out) ?_); ((with_reducible refine Has.below z1 ?_); (repeat (first | with_reducible exact Below.refl _ _ | with_reducible apply below_al | with_reducible apply below_dr | ((with_reducible apply below_tr); (with_reducible assumption))))); intro r w15 h15; obtain ⟨k15, n15, s15, a15, l15, c15, rfl, h15, b15⟩ := h15.has)
                | (go_at_call 30; (with_reducible refine Calls.mono (erase_at _ P w13 ?_ oP.out) ?_); ((with_reducible refine Has.below z2 ?_); (repeat (first | with_reducible exact Below.refl _ _ | with_reducible apply below_al | with_reducible apply below_dr | ((with_reducible apply below_tr); (with_reducible assumption))))); intro r w14 h14; obtain ⟨k14, n14, s14, a14, l14, c14, rfl, h14, b14⟩ := h14.has)
                | (go_at_call 32; (with_reducible refine Calls.mono (lq _ ?_) ?_); ((with_reducible refine ChainAt.below zL ?_); (repeat (first | with_reducible exact Below.refl _ _ | with_reducible apply below_al | with_reducible apply below_dr | ((with_reducible apply below_tr); (with_reducible assumption))))); rintro r w13 ⟨rfl, b13⟩)
                | (go_at_call 33; (with_reducible refine Calls.mono (jm _ ?_) ?_); ((with_reducible refine ChainAt.below zL ?_); (repeat (first | with_reducible exact Below.refl _ _ | with_reducible apply below_al | with_reducible apply below_dr | ((with_reducible apply below_tr); (with_reducible assumption))))); rintro r w12 ⟨rfl, b12⟩)
                | (go_at_call 31; (with_reducible refine Calls.mono (ja _ ?_ ?_) ?_); ((with_reducible refine ChainAt.below zL ?_); (repeat (first | with_reducible exact Below.refl _ _ | with_reducible apply below_al | with_reducible apply below_dr | ((with_reducible apply below_tr); (with_reducible assumption))))); ((with_reducible refine Has.below z1 ?_); (repeat (first | with_reducible exact Below.refl _ _ | with_reducible apply below_al | with_reducible apply below_dr | ((with_reducible apply below_tr); (with_reducible assumption))))); rintro r w11 ⟨rfl, b11⟩)
                | (go_at_call 31; (with_reducible refine Calls.mono (jp _ ?_ ?_) ?_); ((with_reducible refine ChainAt.below zL ?_); (repeat (first | with_reducible exact Below.refl _ _ | with_reducible apply below_al | with_reducible apply below_dr | ((with_reducible apply below_tr); (with_reducible assumption))))); ((with_reducible refine Has.below z2 ?_); (repeat (first | with_reducible exact Below.refl _ _ | with_reducible apply below_al | with_reducible apply below_dr | ((with_reducible apply below_tr); (with_reducible assumption))))); rintro r w10 ⟨rfl, b10⟩))
        all_goals
          go_wp2_with fail
          go_ret
          exact ⟨rfl, below_tr (by (repeat (first | with_reducible exact Below.refl _ _ | with_reducible apply below_al | with_reducible apply below_dr | ((with_reducible apply below_tr); (with_reducible assumption))))) HZ.out⟩

end Go.Proofs.Ytllggpmmcamkmaa
