/-
  The law SealErased: its walk.
-/
import Derived.Test.YtllggpmmcamkmaaSLaw1
namespace Go.Proofs.Ytllggpmmcamkmaa
open Go.RowKit Go.Shelf
open Classical
set_option linter.unusedVariables false

set_option maxRecDepth 100000 in
set_option maxHeartbeats 8000000 in
theorem sealErased_at (x : Int) (u : Value) (A : Tm) (w : World) (hu : Has w u A) (hs : A.size ≤ 1000000000000) (hx0 : 0 ≤ x) (hx1 : x ≤ 255) :
    Calls Try.prog 4 #[.int .u8 x, u] w fun r w' => r = .returned (.bool true) ∧ Below w.heap.size w w' := by
  obtain ⟨k1, n1, s1, a1, l1, c1, ks1, rfl, e', -⟩ := hu.form
  clear e'
  obtain ⟨kk, hk, hk1⟩ : ∃ kk : Nat, 1 + x % 16 = (kk : Int) + 1 ∧ kk < 16 := ⟨(x % 16).toNat, by omega, by omega⟩
  have Hk := Lib.hid (And.intro hk hk1)
  clear hk hk1
  obtain ⟨NN, hNN⟩ : ∃ NN : Nat, kk + 1 = NN := ⟨_, rfl⟩
  have HN := Lib.hid (And.intro hNN (show 1 ≤ NN ∧ NN ≤ 16 by have := Hk.out.2; omega))
  clear hNN
  obtain ⟨qa, hqa⟩ : ∃ qa, decide (A.size ≤ 2000) = qa := ⟨_, rfl⟩
  obtain ⟨ck, hck⟩ : ∃ ck, A.check (NN : Int) = ck := ⟨_, rfl⟩
  have Hqa := Lib.hid hqa
  have Hck := Lib.hid hck
  have Hs := Lib.hid hs
  have fa : ∀ w', Has w' (.agg #[.int .i64 k1, .int .i64 n1, .string s1, .slice a1 l1 c1]) A → Calls Try.prog 27 #[.agg #[.int .i64 k1, .int .i64 n1, .string s1, .slice a1 l1 c1]] w' (Gets w' (.bool qa)) := fun w' h => by rw [← Hqa.out]; exact sfew_at _ A w' h Hs.out
  have fc : ∀ w', Has w' (.agg #[.int .i64 k1, .int .i64 n1, .string s1, .slice a1 l1 c1]) A → Calls Try.prog 12 #[.agg #[.int .i64 k1, .int .i64 n1, .string s1, .slice a1 l1 c1], .int .i64 (NN : Int)] w' (Gets w' (.int .i64 ck)) := fun w' h => by rw [← Hck.out]; exact check_at _ A NN w' h (by have := Hs.out; omega)
  clear hqa hck hs
  have HB1 := Lib.hid (show Below w.heap.size w (w.alloc (.cells #[.int .i64 k1, .int .i64 n1, .string s1, .slice a1 l1 c1] 24)) from ((Below.refl _ w).alloc (Nat.le_refl _) _))
  have HX2 := Lib.hid (show (w.alloc (.cells #[.int .i64 k1, .int .i64 n1, .string s1, .slice a1 l1 c1] 24)).heap[w.heap.size]? = some (.cells #[.int .i64 k1, .int .i64 n1, .string s1, .slice a1 l1 c1] 24 (0, 0)) from (by simpa using World.alloc_heap_new w (.cells #[.int .i64 k1, .int .i64 n1, .string s1, .slice a1 l1 c1] 24)))
  have HT3 := Lib.hid (Has.below hu HB1.out)
  obtain ⟨p4_0, p4_1, p4_2, p4_3⟩ := tbox_cells HX2.out
  clear hu
  go_enter Try.func4, Try.ntmps4
  go_wp2_with fail
  refine Calls.mono (sshown_at _) ?_
  rintro r w5 ⟨rfl, bw5⟩
  have st6 : Below (w.alloc (.cells #[.int .i64 k1, .int .i64 n1, .string s1, .slice a1 l1 c1] 24)).heap.size (w.alloc (.cells #[.int .i64 k1, .int .i64 n1, .string s1, .slice a1 l1 c1] 24)) w5 := bw5
  have HB7 := Lib.hid (HB1.out.trans (st6.mono HB1.out.size))
  have HX8 := Lib.hid (tbox_below HX2.out st6)
  have HT9 := Lib.hid (Has.below HT3.out st6)
  clear p4_0 p4_1 p4_2 p4_3
  obtain ⟨p10_0, p10_1, p10_2, p10_3⟩ := tbox_cells HX8.out
  clear st6 HB1 HX2 HT3
  clear bw5
  go_wp2_with fail
  rw [Hk.out.1]
  refine Calls.mono (chain_at kk _ Hk.out.2) ?_
  rintro r w11 ⟨lb, rfl, hL0, bw11⟩
  rw [HN.out.1] at hL0
  have st12 : Below w5.heap.size w5 w11 := bw11
  have HB13 := Lib.hid (HB7.out.trans (st12.mono HB7.out.size))
  have HX14 := Lib.hid (tbox_below HX8.out st12)
  have HT15 := Lib.hid (Has.below HT9.out st12)
  clear p10_0 p10_1 p10_2 p10_3
  obtain ⟨p16_0, p16_1, p16_2, p16_3⟩ := tbox_cells HX14.out
  clear st12 HB7 HX8 HT9
  clear bw11
  have HL17 := Lib.hid hL0
  clear hL0
  obtain ⟨I, inst, F, n0, hF0, hFb, hFc⟩ := later_family w11
  have K0 := fun i => (tbox_cells (tbox_below HX14.out (hFb i))).1
  have K1 := fun i => (tbox_cells (tbox_below HX14.out (hFb i))).2.1
  have K2 := fun i => (tbox_cells (tbox_below HX14.out (hFb i))).2.2.1
  have K3 := fun i => (tbox_cells (tbox_below HX14.out (hFb i))).2.2.2
  have C1 := Lib.hid (fun i => calls_fam hFc i (fa _ (Has.below HT15.out (hFb i))))
  have C2 := Lib.hid (fun i => calls_fam hFc i ((ch_len (HL17.out.below (hFb i))).mono fun _ _ h => gets_of_reads h))
  have C3 := Lib.hid (fun i => calls_fam hFc i (fc _ (Has.below HT15.out (hFb i))))
  have HF := Lib.hid hFb
  clear hFb hFc fa fc
  cases qa with
  | false =>
    go_wp2_with fail
    refine wp_region_fam F n0 hF0 (by kernel_rfl) (by kernel_rfl) ?_
    clear hF0
    repeat (go_big_quiet_step (first | (go_at_call 27; (with_reducible exact C1.out _)) | (go_at_call 28; (with_reducible exact C2.out _)) | (go_at_call 12; (with_reducible exact C3.out _))))
    refine wpQuiet_nil ?_
    intro _ hw'
    obtain ⟨nq, hw''⟩ := hw'
    subst hw'' 
    go_wp2_with fail
    go_ret
    exact ⟨rfl, HB13.out.trans ((HF.out nq).mono HB13.out.size)⟩
  | true =>
    by_cases hc : ck = 0
    case neg =>
      have hc1 : (ck == 0) = false := by simpa using hc
      have hc2 : (ck != 0) = true := by simpa using hc
      go_wp2_with fail
      refine wp_region_fam F n0 hF0 (by kernel_rfl) (by kernel_rfl) ?_
      clear hF0
      repeat (go_big_quiet_step (first | (go_at_call 27; (with_reducible exact C1.out _)) | (go_at_call 28; (with_reducible exact C2.out _)) | (go_at_call 12; (with_reducible exact C3.out _))))
      refine wpQuiet_nil ?_
      intro _ hw'
      obtain ⟨nq, hw''⟩ := hw'
      subst hw'' 
      go_wp2_with fail
      go_ret
      exact ⟨rfl, HB13.out.trans ((HF.out nq).mono HB13.out.size)⟩
    subst hc
    go_wp2_with fail
    refine wp_region_fam F n0 hF0 (by kernel_rfl) (by kernel_rfl) ?_
    clear hF0
    repeat (go_big_quiet_step (first | (go_at_call 27; (with_reducible exact C1.out _)) | (go_at_call 28; (with_reducible exact C2.out _)) | (go_at_call 12; (with_reducible exact C3.out _))))
    refine wpQuiet_nil ?_
    intro _ hw'
    obtain ⟨nq, hw''⟩ := hw'
    subst hw'' 
    clear K0 K1 K2 K3 C1 C2 C3
    have st18 : Below w11.heap.size w11 (F nq) := HF.out nq
    have HB19 := Lib.hid (HB13.out.trans (st18.mono HB13.out.size))
    have HX20 := Lib.hid (tbox_below HX14.out st18)
    have HT21 := Lib.hid (Has.below HT15.out st18)
    have HL22 := Lib.hid (ChainAt.below HL17.out st18)
    clear p16_0 p16_1 p16_2 p16_3
    obtain ⟨p23_0, p23_1, p23_2, p23_3⟩ := tbox_cells HX20.out
    clear st18 HB13 HX14 HT15 HL17
    clear HF
    have hA := Lib.hid (of_decide_eq_true Hqa.out)
    have hVal := Lib.hid (check_zero Hck.out).2.2
    obtain ⟨X, m, hO⟩ : ∃ X m, A.openC NN = (X, m) := ⟨_, _, rfl⟩
    obtain ⟨low, hlow⟩ : ∃ low, A.jC NN 0 = low := ⟨_, rfl⟩
    obtain ⟨jX, hjX⟩ : ∃ jX, X.jC NN 0 = jX := ⟨_, rfl⟩
    have hN1 := HN.out.2.1
    have f1 : max m jX = low := by have := openC_jC hN1 A; rw [hO] at this; simp only at this; rw [hjX, hlow] at this; exact this
    have f2 : m < NN := by have := openC_lt hN1 A; rw [hO] at this; exact this
    have f3 : low < NN := by have := jC_le hN1 A; rw [hlow] at this; omega
    have f4 : X.er = A.er := by have := openC_er NN A; rw [hO] at this; exact this
    have f5 : X.size ≤ 2 * A.size := by have := openC_size NN A; rw [hO] at this; exact this
    have f6 : A.er.jC NN 0 = 0 := valid_er_jC A hVal.out
    have f7 : X.kind ≠ 4 := by have := open_kind (N := NN) hVal.out; rw [hO] at this; exact this
    have f8 := A.er_size
    have f9 := X.er_size
    have HQ := Lib.hid (And.intro hO (And.intro hlow (And.intro hjX (And.intro f1 (And.intro f2 (And.intro f3 (And.intro f4 (And.intro f5 (And.intro f6 (And.intro f7 (And.intro f8 f9)))))))))))
    clear hO hlow hjX hN1 f1 f2 f3 f4 f5 f6 f7 f8 f9
    have op : ∀ (w' : World), ChainAt w' lb NN → Has w' (.agg #[.int .i64 k1, .int .i64 n1, .string s1, .slice a1 l1 c1]) A → Calls Try.prog 29 #[.pointer (some ⟨lb, 0, none⟩), .agg #[.int .i64 k1, .int .i64 n1, .string s1, .slice a1 l1 c1]] w' (NewOpen w' X m) := fun w' hL h => by
      have := open_at _ A w' lb NN hL h Hs.out
      rwa [HQ.out.1] at this
    have jl : ∀ (w' : World), ChainAt w' lb NN → Has w' (.agg #[.int .i64 k1, .int .i64 n1, .string s1, .slice a1 l1 c1]) A → Calls Try.prog 31 #[.pointer (some ⟨lb, 0, none⟩), .agg #[.int .i64 k1, .int .i64 n1, .string s1, .slice a1 l1 c1]] w' (Gets w' (.int .i64 (low : Int))) := fun w' hL h => by
      have := sjoin_at _ A w' lb NN hL h Hs.out
      rwa [HQ.out.2.1] at this
    go_wp2_with fail
    refine Calls.mono (op _ HL22.out HT21.out) ?_
    intro r w24 h2
    obtain ⟨k2, n2, s2, a2, l2, c2, rfl, hh2, b2⟩ := h2.has
    clear h2
    have HT25 := Lib.hid hh2
    clear hh2
    have st26 : Below (F nq).heap.size (F nq) w24 := b2
    have HB27 := Lib.hid (HB19.out.trans (st26.mono HB19.out.size))
    have HX28 := Lib.hid (tbox_below HX20.out st26)
    have HT29 := Lib.hid (Has.below HT21.out st26)
    have HL30 := Lib.hid (ChainAt.below HL22.out st26)
    clear p23_0 p23_1 p23_2 p23_3
    obtain ⟨p31_0, p31_1, p31_2, p31_3⟩ := tbox_cells HX28.out
    clear st26 HB19 HX20 HT21 HL22
    clear b2
    have st32 : Below w24.heap.size w24 (w24.alloc (.cells #[.int .i64 k2, .int .i64 n2, .string s2, .slice a2 l2 c2] 24)) := (Below.refl _ _).alloc (Nat.le_refl _) _
    have HB33 := Lib.hid (HB27.out.trans (st32.mono HB27.out.size))
    have HX34 := Lib.hid (tbox_below HX28.out st32)
    have HT35 := Lib.hid (Has.below HT29.out st32)
    have HT36 := Lib.hid (Has.below HT25.out st32)
    have HL37 := Lib.hid (ChainAt.below HL30.out st32)
    clear p31_0 p31_1 p31_2 p31_3
    obtain ⟨p38_0, p38_1, p38_2, p38_3⟩ := tbox_cells HX34.out
    clear st32 HB27 HX28 HT29 HT25 HL30
    have HX39 := Lib.hid (World.alloc_heap_new w24 (.cells #[.int .i64 k2, .int .i64 n2, .string s2, .slice a2 l2 c2] 24))
    obtain ⟨p40_0, p40_1, p40_2, p40_3⟩ := tbox_cells HX39.out
    clear op
    go_wp2_with fail
    refine Calls.mono (erase_at _ A _ HT35.out Hs.out) ?_
    intro r w41 h3
    obtain ⟨k3, n3, s3, a3, l3, c3, rfl, hh3, b3⟩ := h3.has
    clear h3
    have HT42 := Lib.hid hh3
    clear hh3
    have st43 : Below (w24.alloc (.cells #[.int .i64 k2, .int .i64 n2, .string s2, .slice a2 l2 c2] 24)).heap.size (w24.alloc (.cells #[.int .i64 k2, .int .i64 n2, .string s2, .slice a2 l2 c2] 24)) w41 := b3
    have HB44 := Lib.hid (HB33.out.trans (st43.mono HB33.out.size))
    have HX45 := Lib.hid (tbox_below HX34.out st43)
    have HX46 := Lib.hid (tbox_below HX39.out st43)
    have HT47 := Lib.hid (Has.below HT35.out st43)
    have HT48 := Lib.hid (Has.below HT36.out st43)
    have HL49 := Lib.hid (ChainAt.below HL37.out st43)
    clear p38_0 p38_1 p38_2 p38_3
    obtain ⟨p50_0, p50_1, p50_2, p50_3⟩ := tbox_cells HX45.out
    clear p40_0 p40_1 p40_2 p40_3
    obtain ⟨p51_0, p51_1, p51_2, p51_3⟩ := tbox_cells HX46.out
    clear st43 HB33 HX34 HX39 HT35 HT36 HL37
    clear b3
    have st52 : Below w41.heap.size w41 (w41.alloc (.cells #[.int .i64 k3, .int .i64 n3, .string s3, .slice a3 l3 c3] 24)) := (Below.refl _ _).alloc (Nat.le_refl _) _
    have HB53 := Lib.hid (HB44.out.trans (st52.mono HB44.out.size))
    have HX54 := Lib.hid (tbox_below HX45.out st52)
    have HX55 := Lib.hid (tbox_below HX46.out st52)
    have HT56 := Lib.hid (Has.below HT47.out st52)
    have HT57 := Lib.hid (Has.below HT48.out st52)
    have HT58 := Lib.hid (Has.below HT42.out st52)
    have HL59 := Lib.hid (ChainAt.below HL49.out st52)
    clear p50_0 p50_1 p50_2 p50_3
    obtain ⟨p60_0, p60_1, p60_2, p60_3⟩ := tbox_cells HX54.out
    clear p51_0 p51_1 p51_2 p51_3
    obtain ⟨p61_0, p61_1, p61_2, p61_3⟩ := tbox_cells HX55.out
    clear st52 HB44 HX45 HX46 HT47 HT48 HT42 HL49
    have HX62 := Lib.hid (World.alloc_heap_new w41 (.cells #[.int .i64 k3, .int .i64 n3, .string s3, .slice a3 l3 c3] 24))
    obtain ⟨p63_0, p63_1, p63_2, p63_3⟩ := tbox_cells HX62.out
    go_wp2_with fail
    refine Calls.mono (jl _ HL59.out HT56.out) ?_
    rintro r w64 ⟨rfl, bw64⟩
    have st65 : Below (w41.alloc (.cells #[.int .i64 k3, .int .i64 n3, .string s3, .slice a3 l3 c3] 24)).heap.size (w41.alloc (.cells #[.int .i64 k3, .int .i64 n3, .string s3, .slice a3 l3 c3] 24)) w64 := bw64
    have HB66 := Lib.hid (HB53.out.trans (st65.mono HB53.out.size))
    have HX67 := Lib.hid (tbox_below HX54.out st65)
    have HX68 := Lib.hid (tbox_below HX55.out st65)
    have HX69 := Lib.hid (tbox_below HX62.out st65)
    have HT70 := Lib.hid (Has.below HT56.out st65)
    have HT71 := Lib.hid (Has.below HT57.out st65)
    have HT72 := Lib.hid (Has.below HT58.out st65)
    have HL73 := Lib.hid (ChainAt.below HL59.out st65)
    clear p60_0 p60_1 p60_2 p60_3
    obtain ⟨p74_0, p74_1, p74_2, p74_3⟩ := tbox_cells HX67.out
    clear p61_0 p61_1 p61_2 p61_3
    obtain ⟨p75_0, p75_1, p75_2, p75_3⟩ := tbox_cells HX68.out
    clear p63_0 p63_1 p63_2 p63_3
    obtain ⟨p76_0, p76_1, p76_2, p76_3⟩ := tbox_cells HX69.out
    clear st65 HB53 HX54 HX55 HX62 HT56 HT57 HT58 HL59
    clear bw64
    clear jl
    obtain ⟨wz, hwz0⟩ : ∃ wz, wz = w64 := ⟨_, rfl⟩
    have hwz := Lib.hid hwz0
    clear hwz0
    have y0 : wz.heap[w.heap.size]? = some (.cells #[.int .i64 k1, .int .i64 n1, .string s1, .slice a1 l1 c1] 24 (0, 0)) := by rw [hwz.out]; exact HX67.out
    have lt0 := (Array.getElem?_eq_some_iff.1 y0).1
    obtain ⟨g0_0, g0_1, g0_2, g0_3⟩ := tbox_cells y0
    have y1 : wz.heap[w24.heap.size]? = some (.cells #[.int .i64 k2, .int .i64 n2, .string s2, .slice a2 l2 c2] 24 (0, 0)) := by rw [hwz.out]; exact HX68.out
    have lt1 := (Array.getElem?_eq_some_iff.1 y1).1
    obtain ⟨g1_0, g1_1, g1_2, g1_3⟩ := tbox_cells y1
    have y2 : wz.heap[w41.heap.size]? = some (.cells #[.int .i64 k3, .int .i64 n3, .string s3, .slice a3 l3 c3] 24 (0, 0)) := by rw [hwz.out]; exact HX69.out
    have lt2 := (Array.getElem?_eq_some_iff.1 y2).1
    obtain ⟨g2_0, g2_1, g2_2, g2_3⟩ := tbox_cells y2
    have z1 : Has wz (.agg #[.int .i64 k1, .int .i64 n1, .string s1, .slice a1 l1 c1]) A := by rw [hwz.out]; exact HT70.out
    have z2 : Has wz (.agg #[.int .i64 k2, .int .i64 n2, .string s2, .slice a2 l2 c2]) X := by rw [hwz.out]; exact HT71.out
    have z3 : Has wz (.agg #[.int .i64 k3, .int .i64 n3, .string s3, .slice a3 l3 c3]) A.er := by rw [hwz.out]; exact HT72.out
    have zL := hwz.out ▸ HL73.out
    have HZ := Lib.hid (show Below w.heap.size w wz by rw [hwz.out]; exact HB66.out)
    have HS : ∀ w', Below wz.heap.size wz w' → (w'.cell? ⟨w.heap.size, 0, none⟩ = some (.int .i64 k1) ∧ w'.cell? ⟨w.heap.size, 1, none⟩ = some (.int .i64 n1) ∧ w'.cell? ⟨w.heap.size, 2, none⟩ = some (.string s1) ∧ w'.cell? ⟨w.heap.size, 3, none⟩ = some (.slice a1 l1 c1) ∧ w'.cell? ⟨w24.heap.size, 0, none⟩ = some (.int .i64 k2) ∧ w'.cell? ⟨w24.heap.size, 1, none⟩ = some (.int .i64 n2) ∧ w'.cell? ⟨w24.heap.size, 2, none⟩ = some (.string s2) ∧ w'.cell? ⟨w24.heap.size, 3, none⟩ = some (.slice a2 l2 c2) ∧ w'.cell? ⟨w41.heap.size, 0, none⟩ = some (.int .i64 k3) ∧ w'.cell? ⟨w41.heap.size, 1, none⟩ = some (.int .i64 n3) ∧ w'.cell? ⟨w41.heap.size, 2, none⟩ = some (.string s3) ∧ w'.cell? ⟨w41.heap.size, 3, none⟩ = some (.slice a3 l3 c3) ∧ Below wz.heap.size wz w') := fun w' hb =>
      ⟨(hb.cell (p := ⟨_, _, none⟩) lt0).trans g0_0, (hb.cell (p := ⟨_, _, none⟩) lt0).trans g0_1, (hb.cell (p := ⟨_, _, none⟩) lt0).trans g0_2, (hb.cell (p := ⟨_, _, none⟩) lt0).trans g0_3, (hb.cell (p := ⟨_, _, none⟩) lt1).trans g1_0, (hb.cell (p := ⟨_, _, none⟩) lt1).trans g1_1, (hb.cell (p := ⟨_, _, none⟩) lt1).trans g1_2, (hb.cell (p := ⟨_, _, none⟩) lt1).trans g1_3, (hb.cell (p := ⟨_, _, none⟩) lt2).trans g2_0, (hb.cell (p := ⟨_, _, none⟩) lt2).trans g2_1, (hb.cell (p := ⟨_, _, none⟩) lt2).trans g2_2, (hb.cell (p := ⟨_, _, none⟩) lt2).trans g2_3, hb⟩
    obtain ⟨hO, hlow, hjX, f1, f2, f3, f4, f5, f6, f7, f8, f9⟩ := HQ.out
    have hA0 := hA.out
    have oX := Lib.hid (show X.size ≤ 1000000000000 by omega)
    have oXE := Lib.hid (show X.er.size ≤ 1000000000000 by omega)
    have oE := Lib.hid (show A.er.size ≤ 1000000000000 by omega)
    have oEE := Lib.hid (show A.er.er.size ≤ 1000000000000 by have := A.er.er_size; omega)
    have e4 := Lib.hid f4
    have ee := Lib.hid A.er_er
    have hk4 : (k2 != 4) = true := by have := (has_kind z2).1; rw [this] at f7; simpa using f7
    have hk4' : (k2 == 4) = false := by simpa [bne] using hk4
    have lq : ∀ (w' : World), ChainAt w' lb NN → Calls Try.prog 32 #[.pointer (some ⟨lb, 0, none⟩), .int .i64 (m : Int), .int .i64 (low : Int)] w' (Gets w' (.bool true)) := fun w' hL => by
      have := (ch_leq hL f2 f3).mono fun _ _ h => gets_of_reads h
      rwa [decide_eq_true (by omega)] at this
    have jx : ∀ (w' : World), ChainAt w' lb NN → Has w' (.agg #[.int .i64 k2, .int .i64 n2, .string s2, .slice a2 l2 c2]) X → Calls Try.prog 31 #[.pointer (some ⟨lb, 0, none⟩), .agg #[.int .i64 k2, .int .i64 n2, .string s2, .slice a2 l2 c2]] w' (Gets w' (.int .i64 (jX : Int))) := fun w' hL h => by
      have := sjoin_at _ X w' lb NN hL h oX.out
      rwa [hjX] at this
    have jm : ∀ (w' : World), ChainAt w' lb NN → Calls Try.prog 33 #[.pointer (some ⟨lb, 0, none⟩), .int .i64 (m : Int), .int .i64 (jX : Int)] w' (Gets w' (.int .i64 (low : Int))) := fun w' hL => by
      have := (ch_join hL f2 (show jX < NN by omega)).mono fun _ _ h => gets_of_reads h
      rwa [f1] at this
    have je : ∀ (w' : World), ChainAt w' lb NN → Has w' (.agg #[.int .i64 k3, .int .i64 n3, .string s3, .slice a3 l3 c3]) A.er → Calls Try.prog 31 #[.pointer (some ⟨lb, 0, none⟩), .agg #[.int .i64 k3, .int .i64 n3, .string s3, .slice a3 l3 c3]] w' (Gets w' (.int .i64 0)) := fun w' hL h => by
      have := sjoin_at _ A.er w' lb NN hL h oE.out
      rwa [f6] at this
    have bt : ∀ (w' : World), ChainAt w' lb NN → Calls Try.prog 34 #[.pointer (some ⟨lb, 0, none⟩)] w' (Gets w' (.int .i64 0)) := fun w' hL => (ch_bottom hL).mono fun _ _ h => gets_of_reads h
    obtain ⟨d1, hd1⟩ : ∃ d1, A.er.size = d1 := ⟨_, rfl⟩
    obtain ⟨d2, hd2⟩ : ∃ d2, A.size = d2 := ⟨_, rfl⟩
    have hdn : d1 ≤ d2 := by omega
    have hdd : decide (d1 ≤ d2) = true := decide_eq_true hdn
    have D1 := Lib.hid hd1
    have D2 := Lib.hid hd2
    have se : ∀ (w' : World), Has w' (.agg #[.int .i64 k3, .int .i64 n3, .string s3, .slice a3 l3 c3]) A.er → Calls Try.prog 14 #[.agg #[.int .i64 k3, .int .i64 n3, .string s3, .slice a3 l3 c3]] w' (Gets w' (.int .i64 (d1 : Int))) := fun w' h => by rw [← D1.out]; exact size_at _ A.er w' h (by have := oE.out; omega)
    have sa : ∀ (w' : World), Has w' (.agg #[.int .i64 k1, .int .i64 n1, .string s1, .slice a1 l1 c1]) A → Calls Try.prog 14 #[.agg #[.int .i64 k1, .int .i64 n1, .string s1, .slice a1 l1 c1]] w' (Gets w' (.int .i64 (d2 : Int))) := fun w' h => by rw [← D2.out]; exact size_at _ A w' h (by have := Hs.out; omega)
    clear y0 lt0 g0_0 g0_1 g0_2 g0_3 y1 lt1 g1_0 g1_1 g1_2 g1_3 y2 lt2 g2_0 g2_1 g2_2 g2_3 hO hlow hjX f1 f2 f3 f4 f5 f6 f7 f8 f9 hA0 hd1 hd2
    go_wp2_with fail
    rw [← hwz.out]
    go_region_held3 (fun w' => w'.cell? ⟨w.heap.size, 0, none⟩ = some (.int .i64 k1) ∧ w'.cell? ⟨w.heap.size, 1, none⟩ = some (.int .i64 n1) ∧ w'.cell? ⟨w.heap.size, 2, none⟩ = some (.string s1) ∧ w'.cell? ⟨w.heap.size, 3, none⟩ = some (.slice a1 l1 c1) ∧ w'.cell? ⟨w24.heap.size, 0, none⟩ = some (.int .i64 k2) ∧ w'.cell? ⟨w24.heap.size, 1, none⟩ = some (.int .i64 n2) ∧ w'.cell? ⟨w24.heap.size, 2, none⟩ = some (.string s2) ∧ w'.cell? ⟨w24.heap.size, 3, none⟩ = some (.slice a2 l2 c2) ∧ w'.cell? ⟨w41.heap.size, 0, none⟩ = some (.int .i64 k3) ∧ w'.cell? ⟨w41.heap.size, 1, none⟩ = some (.int .i64 n3) ∧ w'.cell? ⟨w41.heap.size, 2, none⟩ = some (.string s3) ∧ w'.cell? ⟨w41.heap.size, 3, none⟩ = some (.slice a3 l3 c3) ∧ Below wz.heap.size wz w')
      (exact HS _ (by (repeat (first | with_reducible exact Below.refl _ _ | with_reducible apply below_al | with_reducible apply below_dr | ((with_reducible apply below_tr); (with_reducible assumption))))))
      (first
            | (go_at_call 14; (with_reducible refine Calls.mono (sa w19 ?_) ?_); ((with_reducible refine Has.below z1 ?_); (repeat (first | with_reducible exact Below.refl _ _ | with_reducible apply below_al | with_reducible apply below_dr | ((with_reducible apply below_tr); (with_reducible assumption))))); rintro r w20 ⟨rfl, b20⟩)
            | (go_at_call 14; (with_reducible refine Calls.mono (se w18 ?_) ?_); ((with_reducible refine Has.below z3 ?_); (repeat (first | with_reducible exact Below.refl _ _ | with_reducible apply below_al | with_reducible apply below_dr | ((with_reducible apply below_tr); (with_reducible assumption))))); rintro r w19 ⟨rfl, b19⟩)
            | (go_at_call 21; (with_reducible refine Calls.mono (same_yes ee.out _ _ _ ?_ ?_ oEE.out) ?_); ((with_reducible refine Has.below h17 ?_); (repeat (first | with_reducible exact Below.refl _ _ | with_reducible apply below_al | with_reducible apply below_dr | ((with_reducible apply below_tr); (with_reducible assumption))))); ((with_reducible refine Has.below z3 ?_); (repeat (first | with_reducible exact Below.refl _ _ | with_reducible apply below_al | with_reducible apply below_dr | ((with_reducible apply below_tr); (with_reducible assumption))))); rintro r w18 ⟨rfl, b18⟩)
            | (go_at_call 30; (with_reducible refine Calls.mono (erase_at _ A.er w16 ?_ oE.out) ?_); ((with_reducible refine Has.below z3 ?_); (repeat (first | with_reducible exact Below.refl _ _ | with_reducible apply below_al | with_reducible apply below_dr | ((with_reducible apply below_tr); (with_reducible assumption))))); intro r w17 h17; obtain ⟨k17, n17, s17, a17, l17, c17, rfl, h17, b17⟩ := h17.has)
            | (go_at_call 34; (with_reducible refine Calls.mono (bt _ ?_) ?_); ((with_reducible refine ChainAt.below zL ?_); (repeat (first | with_reducible exact Below.refl _ _ | with_reducible apply below_al | with_reducible apply below_dr | ((with_reducible apply below_tr); (with_reducible assumption))))); rintro r w16 ⟨rfl, b16⟩)
            | (go_at_call 31; (with_reducible refine Calls.mono (je _ ?_ ?_) ?_); ((with_reducible refine ChainAt.below zL ?_); (repeat (first | with_reducible exact Below.refl _ _ | with_reducible apply below_al | with_reducible apply below_dr | ((with_reducible apply below_tr); (with_reducible assumption))))); ((with_reducible refine Has.below z3 ?_); (repeat (first | with_reducible exact Below.refl _ _ | with_reducible apply below_al | with_reducible apply below_dr | ((with_reducible apply below_tr); (with_reducible assumption))))); rintro r w15 ⟨rfl, b15⟩)
            | (go_at_call 33; (with_reducible refine Calls.mono (jm _ ?_) ?_); ((with_reducible refine ChainAt.below zL ?_); (repeat (first | with_reducible exact Below.refl _ _ | with_reducible apply below_al | with_reducible apply below_dr | ((with_reducible apply below_tr); (with_reducible assumption))))); rintro r w14 ⟨rfl, b14⟩)
            | (go_at_call 31; (with_reducible refine Calls.mono (jx _ ?_ ?_) ?_); ((with_reducible refine ChainAt.below zL ?_); (repeat (first | with_reducible exact Below.refl _ _ | with_reducible apply below_al | with_reducible apply below_dr | ((with_reducible apply below_tr); (with_reducible assumption))))); ((with_reducible refine Has.below z2 ?_); (repeat (first | with_reducible exact Below.refl _ _ | with_reducible apply below_al | with_reducible apply below_dr | ((with_reducible apply below_tr); (with_reducible assumption))))); rintro r w13 ⟨rfl, b13⟩)
            | (go_at_call 32; (with_reducible refine Calls.mono (lq _ ?_) ?_); ((with_reducible refine ChainAt.below zL ?_); (repeat (first | with_reducible exact Below.refl _ _ | with_reducible apply below_al | with_reducible apply below_dr | ((with_reducible apply below_tr); (with_reducible assumption))))); rintro r w12 ⟨rfl, b12⟩)
            | (go_at_call 21; (with_reducible refine Calls.mono (same_yes e4.out _ _ _ ?_ ?_ oXE.out) ?_); ((with_reducible refine Has.below h10 ?_); (repeat (first | with_reducible exact Below.refl _ _ | with_reducible apply below_al | with_reducible apply below_dr | ((with_reducible apply below_tr); (with_reducible assumption))))); ((with_reducible refine Has.below z3 ?_); (repeat (first | with_reducible exact Below.refl _ _ | with_reducible apply below_al | with_reducible apply below_dr | ((with_reducible apply below_tr); (with_reducible assumption))))); rintro r w11 ⟨rfl, b11⟩)
            | (go_at_call 30; (with_reducible refine Calls.mono (erase_at _ X _ ?_ oX.out) ?_); ((with_reducible refine Has.below z2 ?_); (repeat (first | with_reducible exact Below.refl _ _ | with_reducible apply below_al | with_reducible apply below_dr | ((with_reducible apply below_tr); (with_reducible assumption))))); intro r w10 h10; obtain ⟨k10, n10, s10, a10, l10, c10, rfl, h10, b10⟩ := h10.has))
    all_goals
      go_wp2_with fail
      go_ret
      exact ⟨rfl, below_tr (by (repeat (first | with_reducible exact Below.refl _ _ | with_reducible apply below_al | with_reducible apply below_dr | ((with_reducible apply below_tr); (with_reducible assumption))))) HZ.out⟩

end Go.Proofs.Ytllggpmmcamkmaa
