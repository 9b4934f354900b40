/-
  The law SealHides: its walk.
-/
import Derived.Test.YtllggpmmcamkmaaSLaw1
namespace Go.Proofs.Ytllggpmmcamkmaa
open Go.RowKit Go.Shelf
open Classical
set_option linter.unusedVariables false

/-- A term, hidden at a level. -/
def hdC (N x : Nat) (T : Tm) : Tm := T.hd fun n => decide (lvC N n ≤ x)
theorem hdC_hdC (N x y : Nat) (T : Tm) : hdC N y (hdC N x T) = hdC N (min x y) T := by
  unfold hdC
  rw [Tm.hd_hd]
  congr 1
  funext n
  rw [Bool.eq_iff_iff]
  simp only [Bool.and_eq_true, decide_eq_true_eq]
  omega
theorem hdC_top {N : Nat} (hN : 1 ≤ N) (T : Tm) : hdC N (N - 1) T = T := Tm.hd_all (fun n => decide_eq_true (by have := lvC_lt hN n; omega)) T
theorem hdC_size (N x : Nat) (T : Tm) : (hdC N x T).size ≤ T.size := Tm.hd_size _ T
theorem hdC_join (N x : Nat) (T : Tm) : (hdC N x T).jC N 0 ≤ x := jC_hd T
theorem hideC_at (v : Value) (T : Tm) (w : World) (b N x : Nat) (hL : ChainAt w b N) (hx : x < N) (hv : Has w v T) (hs : T.size ≤ 1000000000000) : Calls Try.prog 35 #[.pointer (some ⟨b, 0, none⟩), v, .int .i64 (x : Int)] w (NewTm w (hdC N x T)) := hide_at v T w b N x hL hx hv hs

set_option maxRecDepth 100000 in
set_option maxHeartbeats 8000000 in
theorem sealHides_at (x ya yb : Int) (u : Value) (A : Tm) (w : World) (hu : Has w u A) (hs : A.size ≤ 1000000000000) (hx0 : 0 ≤ x) (hx1 : x ≤ 255) (ha0 : 0 ≤ ya) (ha1 : ya ≤ 255) (hb0 : 0 ≤ yb) (hb1 : yb ≤ 255) :
    Calls Try.prog 5 #[.int .u8 x, u, .int .u8 ya, .int .u8 yb] w fun r w' => r = .returned (.bool true) ∧ Below w.heap.size w w' := by
  obtain ⟨k1, n1, s1, a1, l1, c1, ks1, rfl, e', -⟩ := hu.form
  clear e'
  obtain ⟨kk, hk, hk1⟩ : ∃ kk : Nat, 1 + x % 16 = (kk : Int) + 1 ∧ kk < 16 := ⟨(x % 16).toNat, by omega, by omega⟩
  have Hk := Lib.hid (And.intro hk hk1)
  clear hk hk1
  obtain ⟨NN, hNN⟩ : ∃ NN : Nat, kk + 1 = NN := ⟨_, rfl⟩
  have HN := Lib.hid (And.intro hNN (show 1 ≤ NN ∧ NN ≤ 16 by have := Hk.out.2; omega))
  clear hNN
  obtain ⟨qa, hqa⟩ : ∃ qa, decide (A.size ≤ 2000) = qa := ⟨_, rfl⟩
  obtain ⟨ck, hck⟩ : ∃ ck, A.check (NN : Int) = ck := ⟨_, rfl⟩
  have Hqa := Lib.hid hqa
  have Hck := Lib.hid hck
  have Hs := Lib.hid hs
  have fa : ∀ w', Has w' (.agg #[.int .i64 k1, .int .i64 n1, .string s1, .slice a1 l1 c1]) A → Calls Try.prog 27 #[.agg #[.int .i64 k1, .int .i64 n1, .string s1, .slice a1 l1 c1]] w' (Gets w' (.bool qa)) := fun w' h => by rw [← Hqa.out]; exact sfew_at _ A w' h Hs.out
  have fc : ∀ w', Has w' (.agg #[.int .i64 k1, .int .i64 n1, .string s1, .slice a1 l1 c1]) A → Calls Try.prog 12 #[.agg #[.int .i64 k1, .int .i64 n1, .string s1, .slice a1 l1 c1], .int .i64 (NN : Int)] w' (Gets w' (.int .i64 ck)) := fun w' h => by rw [← Hck.out]; exact check_at _ A NN w' h (by have := Hs.out; omega)
  clear hqa hck hs
  have HB1 := Lib.hid (show Below w.heap.size w (w.alloc (.cells #[.int .i64 k1, .int .i64 n1, .string s1, .slice a1 l1 c1] 24)) from ((Below.refl _ w).alloc (Nat.le_refl _) _))
  have HX2 := Lib.hid (show (w.alloc (.cells #[.int .i64 k1, .int .i64 n1, .string s1, .slice a1 l1 c1] 24)).heap[w.heap.size]? = some (.cells #[.int .i64 k1, .int .i64 n1, .string s1, .slice a1 l1 c1] 24 (0, 0)) from (by simpa using World.alloc_heap_new w (.cells #[.int .i64 k1, .int .i64 n1, .string s1, .slice a1 l1 c1] 24)))
  have HT3 := Lib.hid (Has.below hu HB1.out)
  obtain ⟨p4_0, p4_1, p4_2, p4_3⟩ := tbox_cells HX2.out
  clear hu
  go_enter Try.func5, Try.ntmps5
  go_wp2_with fail
  refine Calls.mono (sshown_at _) ?_
  rintro r w5 ⟨rfl, bw5⟩
  have st6 : Below (w.alloc (.cells #[.int .i64 k1, .int .i64 n1, .string s1, .slice a1 l1 c1] 24)).heap.size (w.alloc (.cells #[.int .i64 k1, .int .i64 n1, .string s1, .slice a1 l1 c1] 24)) w5 := bw5
  have HB7 := Lib.hid (HB1.out.trans (st6.mono HB1.out.size))
  have HX8 := Lib.hid (tbox_below HX2.out st6)
  have HT9 := Lib.hid (Has.below HT3.out st6)
  clear p4_0 p4_1 p4_2 p4_3
  obtain ⟨p10_0, p10_1, p10_2, p10_3⟩ := tbox_cells HX8.out
  clear st6 HB1 HX2 HT3
  clear bw5
  go_wp2_with fail
  rw [Hk.out.1]
  refine Calls.mono (chain_at kk _ Hk.out.2) ?_
  rintro r w11 ⟨lb, rfl, hL0, bw11⟩
  rw [HN.out.1] at hL0
  have st12 : Below w5.heap.size w5 w11 := bw11
  have HB13 := Lib.hid (HB7.out.trans (st12.mono HB7.out.size))
  have HX14 := Lib.hid (tbox_below HX8.out st12)
  have HT15 := Lib.hid (Has.below HT9.out st12)
  clear p10_0 p10_1 p10_2 p10_3
  obtain ⟨p16_0, p16_1, p16_2, p16_3⟩ := tbox_cells HX14.out
  clear st12 HB7 HX8 HT9
  clear bw11
  have HL17 := Lib.hid hL0
  clear hL0
  obtain ⟨I, inst, F, n0, hF0, hFb, hFc⟩ := later_family w11
  have K0 := fun i => (tbox_cells (tbox_below HX14.out (hFb i))).1
  have K1 := fun i => (tbox_cells (tbox_below HX14.out (hFb i))).2.1
  have K2 := fun i => (tbox_cells (tbox_below HX14.out (hFb i))).2.2.1
  have K3 := fun i => (tbox_cells (tbox_below HX14.out (hFb i))).2.2.2
  have C1 := Lib.hid (fun i => calls_fam hFc i (fa _ (Has.below HT15.out (hFb i))))
  have C2 := Lib.hid (fun i => calls_fam hFc i ((ch_len (HL17.out.below (hFb i))).mono fun _ _ h => gets_of_reads h))
  have C3 := Lib.hid (fun i => calls_fam hFc i (fc _ (Has.below HT15.out (hFb i))))
  have HF := Lib.hid hFb
  clear hFb hFc fa fc
  cases qa with
  | false =>
    go_wp2_with fail
    refine wp_region_fam F n0 hF0 (by kernel_rfl) (by kernel_rfl) ?_
    clear hF0
    repeat (go_big_quiet_step (first | (go_at_call 27; (with_reducible exact C1.out _)) | (go_at_call 28; (with_reducible exact C2.out _)) | (go_at_call 12; (with_reducible exact C3.out _))))
    refine wpQuiet_nil ?_
    intro _ hw'
    obtain ⟨nq, hw''⟩ := hw'
    subst hw'' 
    go_wp2_with fail
    go_ret
    exact ⟨rfl, HB13.out.trans ((HF.out nq).mono HB13.out.size)⟩
  | true =>
    by_cases hc : ck = 0
    case neg =>
      have hc1 : (ck == 0) = false := by simpa using hc
      have hc2 : (ck != 0) = true := by simpa using hc
      go_wp2_with fail
      refine wp_region_fam F n0 hF0 (by kernel_rfl) (by kernel_rfl) ?_
      clear hF0
      repeat (go_big_quiet_step (first | (go_at_call 27; (with_reducible exact C1.out _)) | (go_at_call 28; (with_reducible exact C2.out _)) | (go_at_call 12; (with_reducible exact C3.out _))))
      refine wpQuiet_nil ?_
      intro _ hw'
      obtain ⟨nq, hw''⟩ := hw'
      subst hw'' 
      go_wp2_with fail
      go_ret
      exact ⟨rfl, HB13.out.trans ((HF.out nq).mono HB13.out.size)⟩
    subst hc
    go_wp2_with fail
    refine wp_region_fam F n0 hF0 (by kernel_rfl) (by kernel_rfl) ?_
    clear hF0
    repeat (go_big_quiet_step (first | (go_at_call 27; (with_reducible exact C1.out _)) | (go_at_call 28; (with_reducible exact C2.out _)) | (go_at_call 12; (with_reducible exact C3.out _))))
    refine wpQuiet_nil ?_
    intro _ hw'
    obtain ⟨nq, hw''⟩ := hw'
    subst hw'' 
    clear K0 K1 K2 K3 C1 C2 C3
    have st18 : Below w11.heap.size w11 (F nq) := HF.out nq
    have HB19 := Lib.hid (HB13.out.trans (st18.mono HB13.out.size))
    have HX20 := Lib.hid (tbox_below HX14.out st18)
    have HT21 := Lib.hid (Has.below HT15.out st18)
    have HL22 := Lib.hid (ChainAt.below HL17.out st18)
    clear p16_0 p16_1 p16_2 p16_3
    obtain ⟨p23_0, p23_1, p23_2, p23_3⟩ := tbox_cells HX20.out
    clear st18 HB13 HX14 HT15 HL17
    clear HF
    have hA := Lib.hid (of_decide_eq_true Hqa.out)
    have hVal := Lib.hid (check_zero Hck.out).2.2
    have hN1 := HN.out.2.1
    have hN2 := HN.out.2.2
    obtain ⟨X, hX, hXN⟩ : ∃ X : Nat, ya % (NN : Int) = X ∧ X < NN := mod_level ya NN hN1
    obtain ⟨Y, hY, hYN⟩ : ∃ Y : Nat, yb % (NN : Int) = Y ∧ Y < NN := mod_level yb NN hN1
    have HXY := Lib.hid (And.intro hXN hYN)
    have oA := Lib.hid (show A.size ≤ 1000000000000 by have := hA.out; omega)
    clear hXN hYN
    go_wp2_with fail
    refine Calls.mono ((ch_len HL22.out).mono fun _ _ h => gets_of_reads h) ?_
    rintro r w24 ⟨rfl, bw24⟩
    have st25 : Below (F nq).heap.size (F nq) w24 := bw24
    have HB26 := Lib.hid (HB19.out.trans (st25.mono HB19.out.size))
    have HX27 := Lib.hid (tbox_below HX20.out st25)
    have HT28 := Lib.hid (Has.below HT21.out st25)
    have HL29 := Lib.hid (ChainAt.below HL22.out st25)
    clear p23_0 p23_1 p23_2 p23_3
    obtain ⟨p30_0, p30_1, p30_2, p30_3⟩ := tbox_cells HX27.out
    clear st25 HB19 HX20 HT21 HL22
    clear bw24
    go_wp2_with fail
    refine Calls.mono ((ch_len HL29.out).mono fun _ _ h => gets_of_reads h) ?_
    rintro r w31 ⟨rfl, bw31⟩
    have st32 : Below w24.heap.size w24 w31 := bw31
    have HB33 := Lib.hid (HB26.out.trans (st32.mono HB26.out.size))
    have HX34 := Lib.hid (tbox_below HX27.out st32)
    have HT35 := Lib.hid (Has.below HT28.out st32)
    have HL36 := Lib.hid (ChainAt.below HL29.out st32)
    clear p30_0 p30_1 p30_2 p30_3
    obtain ⟨p37_0, p37_1, p37_2, p37_3⟩ := tbox_cells HX34.out
    clear st32 HB26 HX27 HT28 HL29
    clear bw31
    go_wp2_with fail
    refine Calls.mono (hideC_at _ A _ lb NN X HL36.out HXY.out.1 HT35.out oA.out) ?_
    intro r w38 h2
    obtain ⟨k2, n2, s2, a2, l2, c2, rfl, hh2, b2⟩ := h2.has
    clear h2
    have HT39 := Lib.hid hh2
    clear hh2
    have st40 : Below w31.heap.size w31 w38 := b2
    have HB41 := Lib.hid (HB33.out.trans (st40.mono HB33.out.size))
    have HX42 := Lib.hid (tbox_below HX34.out st40)
    have HT43 := Lib.hid (Has.below HT35.out st40)
    have HL44 := Lib.hid (ChainAt.below HL36.out st40)
    clear p37_0 p37_1 p37_2 p37_3
    obtain ⟨p45_0, p45_1, p45_2, p45_3⟩ := tbox_cells HX42.out
    clear st40 HB33 HX34 HT35 HL36
    clear b2
    have st46 : Below w38.heap.size w38 (w38.alloc (.cells #[.int .i64 k2, .int .i64 n2, .string s2, .slice a2 l2 c2] 24)) := (Below.refl _ _).alloc (Nat.le_refl _) _
    have HB47 := Lib.hid (HB41.out.trans (st46.mono HB41.out.size))
    have HX48 := Lib.hid (tbox_below HX42.out st46)
    have HT49 := Lib.hid (Has.below HT43.out st46)
    have HT50 := Lib.hid (Has.below HT39.out st46)
    have HL51 := Lib.hid (ChainAt.below HL44.out st46)
    clear p45_0 p45_1 p45_2 p45_3
    obtain ⟨p52_0, p52_1, p52_2, p52_3⟩ := tbox_cells HX48.out
    clear st46 HB41 HX42 HT43 HT39 HL44
    have HX53 := Lib.hid (World.alloc_heap_new w38 (.cells #[.int .i64 k2, .int .i64 n2, .string s2, .slice a2 l2 c2] 24))
    obtain ⟨p54_0, p54_1, p54_2, p54_3⟩ := tbox_cells HX53.out
    obtain ⟨wz, hwz0⟩ : ∃ wz, wz = (w38.alloc (.cells #[.int .i64 k2, .int .i64 n2, .string s2, .slice a2 l2 c2] 24)) := ⟨_, rfl⟩
    have hwz := Lib.hid hwz0
    clear hwz0
    have y0 : wz.heap[w.heap.size]? = some (.cells #[.int .i64 k1, .int .i64 n1, .string s1, .slice a1 l1 c1] 24 (0, 0)) := by rw [hwz.out]; exact HX48.out
    have lt0 := (Array.getElem?_eq_some_iff.1 y0).1
    obtain ⟨g0_0, g0_1, g0_2, g0_3⟩ := tbox_cells y0
    have y1 : wz.heap[w38.heap.size]? = some (.cells #[.int .i64 k2, .int .i64 n2, .string s2, .slice a2 l2 c2] 24 (0, 0)) := by rw [hwz.out]; exact HX53.out
    have lt1 := (Array.getElem?_eq_some_iff.1 y1).1
    obtain ⟨g1_0, g1_1, g1_2, g1_3⟩ := tbox_cells y1
    have z1 : Has wz (.agg #[.int .i64 k1, .int .i64 n1, .string s1, .slice a1 l1 c1]) A := by rw [hwz.out]; exact HT49.out
    have z2 : Has wz (.agg #[.int .i64 k2, .int .i64 n2, .string s2, .slice a2 l2 c2]) (hdC NN X A) := by rw [hwz.out]; exact HT50.out
    have zL := hwz.out ▸ HL51.out
    have HZ := Lib.hid (show Below w.heap.size w wz by rw [hwz.out]; exact HB47.out)
    have HS : ∀ w', Below wz.heap.size wz w' → (w'.cell? ⟨w.heap.size, 0, none⟩ = some (.int .i64 k1) ∧ w'.cell? ⟨w.heap.size, 1, none⟩ = some (.int .i64 n1) ∧ w'.cell? ⟨w.heap.size, 2, none⟩ = some (.string s1) ∧ w'.cell? ⟨w.heap.size, 3, none⟩ = some (.slice a1 l1 c1) ∧ w'.cell? ⟨w38.heap.size, 0, none⟩ = some (.int .i64 k2) ∧ w'.cell? ⟨w38.heap.size, 1, none⟩ = some (.int .i64 n2) ∧ w'.cell? ⟨w38.heap.size, 2, none⟩ = some (.string s2) ∧ w'.cell? ⟨w38.heap.size, 3, none⟩ = some (.slice a2 l2 c2) ∧ Below wz.heap.size wz w') := fun w' hb =>
      ⟨(hb.cell (p := ⟨_, _, none⟩) lt0).trans g0_0, (hb.cell (p := ⟨_, _, none⟩) lt0).trans g0_1, (hb.cell (p := ⟨_, _, none⟩) lt0).trans g0_2, (hb.cell (p := ⟨_, _, none⟩) lt0).trans g0_3, (hb.cell (p := ⟨_, _, none⟩) lt1).trans g1_0, (hb.cell (p := ⟨_, _, none⟩) lt1).trans g1_1, (hb.cell (p := ⟨_, _, none⟩) lt1).trans g1_2, (hb.cell (p := ⟨_, _, none⟩) lt1).trans g1_3, hb⟩
    have hA0 := hA.out
    obtain ⟨jH, hjH⟩ : ∃ jH, (hdC NN X A).jC NN 0 = jH := ⟨_, rfl⟩
    have f1 : jH ≤ X := by rw [← hjH]; exact hdC_join NN X A
    obtain ⟨tt, htt⟩ : ∃ tt, NN - 1 = tt := ⟨_, rfl⟩
    obtain ⟨mm, hmm⟩ : ∃ mm, min X Y = mm := ⟨_, rfl⟩
    have g1 := hdC_size NN X A
    have oH := Lib.hid (show (hdC NN X A).size ≤ 1000000000000 by omega)
    have oHH := Lib.hid (show (hdC NN X (hdC NN X A)).size ≤ 1000000000000 by have := hdC_size NN X (hdC NN X A); omega)
    have oHT := Lib.hid (show (hdC NN tt A).size ≤ 1000000000000 by have := hdC_size NN tt A; omega)
    have oHY := Lib.hid (show (hdC NN Y (hdC NN X A)).size ≤ 1000000000000 by have := hdC_size NN Y (hdC NN X A); omega)
    have e1 := Lib.hid (show hdC NN X (hdC NN X A) = hdC NN X A by rw [hdC_hdC, Nat.min_self])
    have e2 := Lib.hid (show hdC NN tt A = A by rw [← htt]; exact hdC_top hN1 A)
    have e3 := Lib.hid (show hdC NN Y (hdC NN X A) = hdC NN mm A by rw [hdC_hdC, hmm])
    have lX := Lib.hid HXY.out.1
    have lY := Lib.hid HXY.out.2
    have lT := Lib.hid (show tt < NN by omega)
    have lM := Lib.hid (show mm < NN by have := HXY.out.1; omega)
    have jh : ∀ (w' : World), ChainAt w' lb NN → Has w' (.agg #[.int .i64 k2, .int .i64 n2, .string s2, .slice a2 l2 c2]) (hdC NN X A) → Calls Try.prog 31 #[.pointer (some ⟨lb, 0, none⟩), .agg #[.int .i64 k2, .int .i64 n2, .string s2, .slice a2 l2 c2]] w' (Gets w' (.int .i64 (jH : Int))) := fun w' hL h => by
      have := sjoin_at _ (hdC NN X A) w' lb NN hL h oH.out
      rwa [hjH] at this
    have lq : ∀ (w' : World), ChainAt w' lb NN → Calls Try.prog 32 #[.pointer (some ⟨lb, 0, none⟩), .int .i64 (jH : Int), .int .i64 (X : Int)] w' (Gets w' (.bool true)) := fun w' hL => by
      have := (ch_leq hL (show jH < NN by have := lX.out; omega) lX.out).mono fun _ _ h => gets_of_reads h
      rwa [decide_eq_true f1] at this
    have tp : ∀ (w' : World), ChainAt w' lb NN → Calls Try.prog 36 #[.pointer (some ⟨lb, 0, none⟩)] w' (Gets w' (.int .i64 (tt : Int))) := fun w' hL => by
      have := (ch_top hL).mono fun _ _ h => gets_of_reads h
      rwa [htt] at this
    have mt : ∀ (w' : World), ChainAt w' lb NN → Calls Try.prog 37 #[.pointer (some ⟨lb, 0, none⟩), .int .i64 (X : Int), .int .i64 (Y : Int)] w' (Gets w' (.int .i64 (mm : Int))) := fun w' hL => by
      have := (ch_meet hL lX.out lY.out).mono fun _ _ h => gets_of_reads h
      rwa [hmm] at this
    clear y0 lt0 g0_0 g0_1 g0_2 g0_3 y1 lt1 g1_0 g1_1 g1_2 g1_3 hjH f1 htt hmm g1 hA0 hN1 hN2
    go_wp2_with fail
    rw [← hwz.out]
    try rw [hY]
    clear hX hY
    go_region_held3 (fun w' => w'.cell? ⟨w.heap.size, 0, none⟩ = some (.int .i64 k1) ∧ w'.cell? ⟨w.heap.size, 1, none⟩ = some (.int .i64 n1) ∧ w'.cell? ⟨w.heap.size, 2, none⟩ = some (.string s1) ∧ w'.cell? ⟨w.heap.size, 3, none⟩ = some (.slice a1 l1 c1) ∧ w'.cell? ⟨w38.heap.size, 0, none⟩ = some (.int .i64 k2) ∧ w'.cell? ⟨w38.heap.size, 1, none⟩ = some (.int .i64 n2) ∧ w'.cell? ⟨w38.heap.size, 2, none⟩ = some (.string s2) ∧ w'.cell? ⟨w38.heap.size, 3, none⟩ = some (.slice a2 l2 c2) ∧ Below wz.heap.size wz w')
      (exact HS _ (by (repeat (first | with_reducible exact Below.refl _ _ | with_reducible apply below_al | with_reducible apply below_dr | ((with_reducible apply below_tr); (with_reducible assumption))))))
      (first
            | (go_at_call 21; (with_reducible refine Calls.mono (same_yes e3.out _ _ _ ?_ ?_ oHY.out) ?_); ((with_reducible refine Has.below h18 ?_); (repeat (first | with_reducible exact Below.refl _ _ | with_reducible apply below_al | with_reducible apply below_dr | ((with_reducible apply below_tr); (with_reducible assumption))))); ((with_reducible refine Has.below h20 ?_); (repeat (first | with_reducible exact Below.refl _ _ | with_reducible apply below_al | with_reducible apply below_dr | ((with_reducible apply below_tr); (with_reducible assumption))))); rintro r w21 ⟨rfl, b21⟩)
            | (go_at_call 35; (with_reducible refine Calls.mono (hideC_at _ A w19 lb NN mm ?_ lM.out ?_ oA.out) ?_); ((with_reducible refine ChainAt.below zL ?_); (repeat (first | with_reducible exact Below.refl _ _ | with_reducible apply below_al | with_reducible apply below_dr | ((with_reducible apply below_tr); (with_reducible assumption))))); ((with_reducible refine Has.below z1 ?_); (repeat (first | with_reducible exact Below.refl _ _ | with_reducible apply below_al | with_reducible apply below_dr | ((with_reducible apply below_tr); (with_reducible assumption))))); intro r w20 h20; obtain ⟨k20, n20, s20, a20, l20, c20, rfl, h20, b20⟩ := h20.has)
            | (go_at_call 37; (with_reducible refine Calls.mono (mt w18 ?_) ?_); ((with_reducible refine ChainAt.below zL ?_); (repeat (first | with_reducible exact Below.refl _ _ | with_reducible apply below_al | with_reducible apply below_dr | ((with_reducible apply below_tr); (with_reducible assumption))))); rintro r w19 ⟨rfl, b19⟩)
            | (go_at_call 35; (with_reducible refine Calls.mono (hideC_at _ (hdC NN X A) w17 lb NN Y ?_ lY.out ?_ oH.out) ?_); ((with_reducible refine ChainAt.below zL ?_); (repeat (first | with_reducible exact Below.refl _ _ | with_reducible apply below_al | with_reducible apply below_dr | ((with_reducible apply below_tr); (with_reducible assumption))))); ((with_reducible refine Has.below h17 ?_); (repeat (first | with_reducible exact Below.refl _ _ | with_reducible apply below_al | with_reducible apply below_dr | ((with_reducible apply below_tr); (with_reducible assumption))))); intro r w18 h18; obtain ⟨k18, n18, s18, a18, l18, c18, rfl, h18, b18⟩ := h18.has)
            | (go_at_call 35; (with_reducible refine Calls.mono (hideC_at _ A w16 lb NN X ?_ lX.out ?_ oA.out) ?_); ((with_reducible refine ChainAt.below zL ?_); (repeat (first | with_reducible exact Below.refl _ _ | with_reducible apply below_al | with_reducible apply below_dr | ((with_reducible apply below_tr); (with_reducible assumption))))); ((with_reducible refine Has.below z1 ?_); (repeat (first | with_reducible exact Below.refl _ _ | with_reducible apply below_al | with_reducible apply below_dr | ((with_reducible apply below_tr); (with_reducible assumption))))); intro r w17 h17; obtain ⟨k17, n17, s17, a17, l17, c17, rfl, h17, b17⟩ := h17.has)
            | (go_at_call 21; (with_reducible refine Calls.mono (same_yes e2.out _ _ _ ?_ ?_ oHT.out) ?_); ((with_reducible refine Has.below h15 ?_); (repeat (first | with_reducible exact Below.refl _ _ | with_reducible apply below_al | with_reducible apply below_dr | ((with_reducible apply below_tr); (with_reducible assumption))))); ((with_reducible refine Has.below z1 ?_); (repeat (first | with_reducible exact Below.refl _ _ | with_reducible apply below_al | with_reducible apply below_dr | ((with_reducible apply below_tr); (with_reducible assumption))))); rintro r w16 ⟨rfl, b16⟩)
            | (go_at_call 35; (with_reducible refine Calls.mono (hideC_at _ A w14 lb NN tt ?_ lT.out ?_ oA.out) ?_); ((with_reducible refine ChainAt.below zL ?_); (repeat (first | with_reducible exact Below.refl _ _ | with_reducible apply below_al | with_reducible apply below_dr | ((with_reducible apply below_tr); (with_reducible assumption))))); ((with_reducible refine Has.below z1 ?_); (repeat (first | with_reducible exact Below.refl _ _ | with_reducible apply below_al | with_reducible apply below_dr | ((with_reducible apply below_tr); (with_reducible assumption))))); intro r w15 h15; obtain ⟨k15, n15, s15, a15, l15, c15, rfl, h15, b15⟩ := h15.has)
            | (go_at_call 36; (with_reducible refine Calls.mono (tp w13 ?_) ?_); ((with_reducible refine ChainAt.below zL ?_); (repeat (first | with_reducible exact Below.refl _ _ | with_reducible apply below_al | with_reducible apply below_dr | ((with_reducible apply below_tr); (with_reducible assumption))))); rintro r w14 ⟨rfl, b14⟩)
            | (go_at_call 21; (with_reducible refine Calls.mono (same_yes e1.out _ _ _ ?_ ?_ oHH.out) ?_); ((with_reducible refine Has.below h12 ?_); (repeat (first | with_reducible exact Below.refl _ _ | with_reducible apply below_al | with_reducible apply below_dr | ((with_reducible apply below_tr); (with_reducible assumption))))); ((with_reducible refine Has.below z2 ?_); (repeat (first | with_reducible exact Below.refl _ _ | with_reducible apply below_al | with_reducible apply below_dr | ((with_reducible apply below_tr); (with_reducible assumption))))); rintro r w13 ⟨rfl, b13⟩)
            | (go_at_call 35; (with_reducible refine Calls.mono (hideC_at _ (hdC NN X A) w11 lb NN X ?_ lX.out ?_ oH.out) ?_); ((with_reducible refine ChainAt.below zL ?_); (repeat (first | with_reducible exact Below.refl _ _ | with_reducible apply below_al | with_reducible apply below_dr | ((with_reducible apply below_tr); (with_reducible assumption))))); ((with_reducible refine Has.below z2 ?_); (repeat (first | with_reducible exact Below.refl _ _ | with_reducible apply below_al | with_reducible apply below_dr | ((with_reducible apply below_tr); (with_reducible assumption))))); intro r w12 h12; obtain ⟨k12, n12, s12, a12, l12, c12, rfl, h12, b12⟩ := h12.has)
            | (go_at_call 32; (with_reducible refine Calls.mono (lq _ ?_) ?_); ((with_reducible refine ChainAt.below zL ?_); (repeat (first | with_reducible exact Below.refl _ _ | with_reducible apply below_al | with_reducible apply below_dr | ((with_reducible apply below_tr); (with_reducible assumption))))); rintro r w11 ⟨rfl, b11⟩)
            | (go_at_call 31; (with_reducible refine Calls.mono (jh _ ?_ ?_) ?_); ((with_reducible refine ChainAt.below zL ?_); (repeat (first | with_reducible exact Below.refl _ _ | with_reducible apply below_al | with_reducible apply below_dr | ((with_reducible apply below_tr); (with_reducible assumption))))); ((with_reducible refine Has.below z2 ?_); (repeat (first | with_reducible exact Below.refl _ _ | with_reducible apply below_al | with_reducible apply below_dr | ((with_reducible apply below_tr); (with_reducible assumption))))); rintro r w10 ⟨rfl, b10⟩))
    all_goals
      go_wp2_with fail
      go_ret
      exact ⟨rfl, below_tr (by (repeat (first | with_reducible exact Below.refl _ _ | with_reducible apply below_al | with_reducible apply below_dr | ((with_reducible apply below_tr); (with_reducible assumption))))) HZ.out⟩

end Go.Proofs.Ytllggpmmcamkmaa
