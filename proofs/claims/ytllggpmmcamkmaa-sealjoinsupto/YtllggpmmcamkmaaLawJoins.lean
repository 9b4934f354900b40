/-
  The law SealJoins: its walk.
-/
import Derived.Test.YtllggpmmcamkmaaSLaw0
import Derived.Test.YtllggpmmcamkmaaLawErases
namespace Go.Proofs.Ytllggpmmcamkmaa
open Go.RowKit Go.Shelf
open Classical
set_option linter.unusedVariables false

theorem jC_kid {N : Nat} {k n : Int} {s : ByteArray} {ks : List Tm} {t : Tm} (h : t ∈ ks) : t.jC N 0 ≤ (Tm.mk k n s ks).jC N 0 := by
  have := jns_mem (N := N) h
  rw [jC_mk]; omega
theorem jC_pair (N : Nat) (A B : Tm) : (pairF A B).jC N 0 = max (A.jC N 0) (B.jC N 0) := by
  rw [pairF, jC_mk, jns_cons0, jns_cons0, Tm.jns_nil, if_neg (by decide)]; omega
theorem jC_top {N : Nat} (hN : 1 ≤ N) (A : Tm) : (putT A ((N - 1 : Nat) : Int)).jC N 0 = N - 1 := by
  have := jC_le hN A
  rw [jC_put N A (N - 1) (by omega)]; omega

set_option maxRecDepth 100000 in
set_option maxHeartbeats 8000000 in
theorem sealJoins_at (x : Int) (u v : Value) (A B : Tm) (w : World) (hu : Has w u A) (hv : Has w v B) (hs : A.size ≤ 1000000000000) (ht : B.size ≤ 1000000000000) (hx0 : 0 ≤ x) (hx1 : x ≤ 255) :
    Calls Try.prog 7 #[.int .u8 x, u, v] w fun r w' => r = .returned (.bool true) ∧ Below w.heap.size w w' := by
  obtain ⟨k1, n1, s1, a1, l1, c1, ks1, rfl, e', hlk, -⟩ := hu.form
  obtain ⟨k2, n2, s2, a2, l2, c2, ks2, rfl, e'', -⟩ := hv.form
  have EA := Lib.hid e'
  subst hlk
  clear e' e''
  obtain ⟨kk, hk, hk1⟩ : ∃ kk : Nat, 1 + x % 16 = (kk : Int) + 1 ∧ kk < 16 := ⟨(x % 16).toNat, by omega, by omega⟩
  have Hk := Lib.hid (And.intro hk hk1)
  clear hk hk1
  obtain ⟨qa, hqa⟩ : ∃ qa, decide (A.size ≤ 2000) = qa := ⟨_, rfl⟩
  obtain ⟨qb, hqb⟩ : ∃ qb, decide (B.size ≤ 2000) = qb := ⟨_, rfl⟩
  have Hqa := Lib.hid hqa
  have Hqb := Lib.hid hqb
  have Hs := Lib.hid (And.intro hs ht)
  obtain ⟨la, hla⟩ : ∃ la, ks1.length = la := ⟨_, rfl⟩
  have HLA := Lib.hid (show la ≤ 1000000000000 by have h1 := Tm.length_le_sizes ks1; have h2 := hs; rw [EA.out, Tm.size_mk] at h2; omega)
  rw [hla] at hu ⊢
  have ELA := Lib.hid hla
  clear hla
  have fa : ∀ w', Has w' (.agg #[.int .i64 k1, .int .i64 n1, .string s1, .slice a1 la c1]) A → Calls Try.prog 27 #[.agg #[.int .i64 k1, .int .i64 n1, .string s1, .slice a1 la c1]] w' (Gets w' (.bool qa)) := fun w' h => by rw [← Hqa.out]; exact sfew_at _ A w' h Hs.out.1
  have fb : ∀ w', Has w' (.agg #[.int .i64 k2, .int .i64 n2, .string s2, .slice a2 l2 c2]) B → Calls Try.prog 27 #[.agg #[.int .i64 k2, .int .i64 n2, .string s2, .slice a2 l2 c2]] w' (Gets w' (.bool qb)) := fun w' h => by rw [← Hqb.out]; exact sfew_at _ B w' h Hs.out.2
  clear hqa hqb hs ht
  have HB1 := Lib.hid (show Below w.heap.size w ((w.alloc (.cells #[.int .i64 k1, .int .i64 n1, .string s1, .slice a1 la c1] 24)).alloc (.cells #[.int .i64 k2, .int .i64 n2, .string s2, .slice a2 l2 c2] 24)) from (((Below.refl _ w).alloc (Nat.le_refl _) _).alloc (by simp) _))
  have HX2 := Lib.hid (show ((w.alloc (.cells #[.int .i64 k1, .int .i64 n1, .string s1, .slice a1 la c1] 24)).alloc (.cells #[.int .i64 k2, .int .i64 n2, .string s2, .slice a2 l2 c2] 24)).heap[w.heap.size]? = some (.cells #[.int .i64 k1, .int .i64 n1, .string s1, .slice a1 la c1] 24 (0, 0)) from ((Below.heap_alloc _ _ _ (by simp)).trans (by simpa using World.alloc_heap_new w (.cells #[.int .i64 k1, .int .i64 n1, .string s1, .slice a1 la c1] 24))))
  have HT3 := Lib.hid (Has.below hu HB1.out)
  obtain ⟨p4_0, p4_1, p4_2, p4_3⟩ := tbox_cells HX2.out
  have HX5 := Lib.hid (show ((w.alloc (.cells #[.int .i64 k1, .int .i64 n1, .string s1, .slice a1 la c1] 24)).alloc (.cells #[.int .i64 k2, .int .i64 n2, .string s2, .slice a2 l2 c2] 24)).heap[w.heap.size + 1]? = some (.cells #[.int .i64 k2, .int .i64 n2, .string s2, .slice a2 l2 c2] 24 (0, 0)) from (by simpa using World.alloc_heap_new (w.alloc (.cells #[.int .i64 k1, .int .i64 n1, .string s1, .slice a1 la c1] 24)) (.cells #[.int .i64 k2, .int .i64 n2, .string s2, .slice a2 l2 c2] 24)))
  have HT6 := Lib.hid (Has.below hv HB1.out)
  obtain ⟨p7_0, p7_1, p7_2, p7_3⟩ := tbox_cells HX5.out
  clear hu hv
  go_enter Try.func7, Try.ntmps7
  go_wp2_with fail
  refine Calls.mono (sshown_at _) ?_
  rintro r w8 ⟨rfl, bw8⟩
  have st9 : Below ((w.alloc (.cells #[.int .i64 k1, .int .i64 n1, .string s1, .slice a1 la c1] 24)).alloc (.cells #[.int .i64 k2, .int .i64 n2, .string s2, .slice a2 l2 c2] 24)).heap.size ((w.alloc (.cells #[.int .i64 k1, .int .i64 n1, .string s1, .slice a1 la c1] 24)).alloc (.cells #[.int .i64 k2, .int .i64 n2, .string s2, .slice a2 l2 c2] 24)) w8 := bw8
  have HB10 := Lib.hid (HB1.out.trans (st9.mono HB1.out.size))
  have HX11 := Lib.hid (tbox_below HX2.out st9)
  have HX12 := Lib.hid (tbox_below HX5.out st9)
  have HT13 := Lib.hid (Has.below HT3.out st9)
  have HT14 := Lib.hid (Has.below HT6.out st9)
  clear p4_0 p4_1 p4_2 p4_3
  obtain ⟨p15_0, p15_1, p15_2, p15_3⟩ := tbox_cells HX11.out
  clear p7_0 p7_1 p7_2 p7_3
  obtain ⟨p16_0, p16_1, p16_2, p16_3⟩ := tbox_cells HX12.out
  clear st9 HB1 HX2 HX5 HT3 HT6
  clear bw8
  go_wp2_with fail
  rw [Hk.out.1]
  refine Calls.mono (chain_at kk _ Hk.out.2) ?_
  rintro r w17 ⟨lb, rfl, hL0, bw17⟩
  have st18 : Below w8.heap.size w8 w17 := bw17
  have HB19 := Lib.hid (HB10.out.trans (st18.mono HB10.out.size))
  have HX20 := Lib.hid (tbox_below HX11.out st18)
  have HX21 := Lib.hid (tbox_below HX12.out st18)
  have HT22 := Lib.hid (Has.below HT13.out st18)
  have HT23 := Lib.hid (Has.below HT14.out st18)
  clear p15_0 p15_1 p15_2 p15_3
  obtain ⟨p24_0, p24_1, p24_2, p24_3⟩ := tbox_cells HX20.out
  clear p16_0 p16_1 p16_2 p16_3
  obtain ⟨p25_0, p25_1, p25_2, p25_3⟩ := tbox_cells HX21.out
  clear st18 HB10 HX11 HX12 HT13 HT14
  clear bw17
  have HL26 := Lib.hid hL0
  clear hL0
  go_wp2_with fail
  refine Calls.mono (fa _ HT22.out) ?_
  rintro r w27 ⟨rfl, bw27⟩
  have st28 : Below w17.heap.size w17 w27 := bw27
  have HB29 := Lib.hid (HB19.out.trans (st28.mono HB19.out.size))
  have HX30 := Lib.hid (tbox_below HX20.out st28)
  have HX31 := Lib.hid (tbox_below HX21.out st28)
  have HT32 := Lib.hid (Has.below HT22.out st28)
  have HT33 := Lib.hid (Has.below HT23.out st28)
  have HL34 := Lib.hid (ChainAt.below HL26.out st28)
  clear p24_0 p24_1 p24_2 p24_3
  obtain ⟨p35_0, p35_1, p35_2, p35_3⟩ := tbox_cells HX30.out
  clear p25_0 p25_1 p25_2 p25_3
  obtain ⟨p36_0, p36_1, p36_2, p36_3⟩ := tbox_cells HX31.out
  clear st28 HB19 HX20 HX21 HT22 HT23 HL26
  clear bw27
  cases qa with
  | false =>
    go_wp2_with fail
    go_ret
    exact ⟨rfl, HB29.out⟩
  | true =>
    go_wp2_with fail
    refine Calls.mono (fb _ HT33.out) ?_
    rintro r w37 ⟨rfl, bw37⟩
    have st38 : Below w27.heap.size w27 w37 := bw37
    have HB39 := Lib.hid (HB29.out.trans (st38.mono HB29.out.size))
    have HX40 := Lib.hid (tbox_below HX30.out st38)
    have HX41 := Lib.hid (tbox_below HX31.out st38)
    have HT42 := Lib.hid (Has.below HT32.out st38)
    have HT43 := Lib.hid (Has.below HT33.out st38)
    have HL44 := Lib.hid (ChainAt.below HL34.out st38)
    clear p35_0 p35_1 p35_2 p35_3
    obtain ⟨p45_0, p45_1, p45_2, p45_3⟩ := tbox_cells HX40.out
    clear p36_0 p36_1 p36_2 p36_3
    obtain ⟨p46_0, p46_1, p46_2, p46_3⟩ := tbox_cells HX41.out
    clear st38 HB29 HX30 HX31 HT32 HT33 HL34
    clear bw37
    cases qb with
    | false =>
      go_wp2_with fail
      go_ret
      exact ⟨rfl, HB39.out⟩
    | true =>
      have hA := Lib.hid (of_decide_eq_true Hqa.out)
      have hB := Lib.hid (of_decide_eq_true Hqb.out)
      have oAB := Lib.hid (show A.size + B.size ≤ 1000000000 by have := hA.out; have := hB.out; omega)
      have oP := Lib.hid (show (pairF A B).size ≤ 1000000000000 by have := hA.out; have := hB.out; rw [pairF_size]; omega)
      have hN := Lib.hid (show 1 ≤ kk + 1 by omega)
      obtain ⟨jA, hjA⟩ : ∃ j, A.jC (kk + 1) 0 = j := ⟨_, rfl⟩
      obtain ⟨jB, hjB⟩ : ∃ j, B.jC (kk + 1) 0 = j := ⟨_, rfl⟩
      obtain ⟨jM, hjM⟩ : ∃ j, max jA jB = j := ⟨_, rfl⟩
      have EJ := Lib.hid (And.intro hjA (And.intro hjB hjM))
      have LJ := Lib.hid (show jA < kk + 1 ∧ jB < kk + 1 by have h1 := jC_le hN.out A; have h2 := jC_le hN.out B; omega)
      clear hjA hjB hjM
      have jp : ∀ (u : Value) (w' : World), ChainAt w' lb (kk + 1) → Has w' u (pairF A B) → Calls Try.prog 31 #[.pointer (some ⟨lb, 0, none⟩), u] w' (Gets w' (.int .i64 (jM : Int))) := fun u w' hL h => by
        have := sjoin_at u (pairF A B) w' lb (kk + 1) hL h oP.out
        rwa [jC_pair, EJ.out.1, EJ.out.2.1, EJ.out.2.2] at this
      have ja : ∀ (u : Value) (w' : World), ChainAt w' lb (kk + 1) → Has w' u A → Calls Try.prog 31 #[.pointer (some ⟨lb, 0, none⟩), u] w' (Gets w' (.int .i64 (jA : Int))) := fun u w' hL h => by
        have := sjoin_at u A w' lb (kk + 1) hL h Hs.out.1
        rwa [EJ.out.1] at this
      have jb : ∀ (u : Value) (w' : World), ChainAt w' lb (kk + 1) → Has w' u B → Calls Try.prog 31 #[.pointer (some ⟨lb, 0, none⟩), u] w' (Gets w' (.int .i64 (jB : Int))) := fun u w' hL h => by
        have := sjoin_at u B w' lb (kk + 1) hL h Hs.out.2
        rwa [EJ.out.2.1] at this
      have jm : ∀ (w' : World), ChainAt w' lb (kk + 1) → Calls Try.prog 33 #[.pointer (some ⟨lb, 0, none⟩), .int .i64 (jA : Int), .int .i64 (jB : Int)] w' (Gets w' (.int .i64 (jM : Int))) := fun w' hL => by
        have := (ch_join hL LJ.out.1 LJ.out.2).mono fun _ _ h => gets_of_reads h
        rwa [EJ.out.2.2] at this
      have tp : ∀ (w' : World), ChainAt w' lb (kk + 1) → Calls Try.prog 36 #[.pointer (some ⟨lb, 0, none⟩)] w' (Gets w' (.int .i64 (kk : Int))) := fun w' hL => (ch_top hL).mono fun _ _ h => gets_of_reads h
      have ik := Lib.hid (show i64ok (kk : Int) from by have := Hk.out.2; unfold i64ok; omega)
      have oT := Lib.hid (show (putT A (kk : Int)).size ≤ 1000000000000 by have := hA.out; rw [put_size]; omega)
      have jt : ∀ (u : Value) (w' : World), ChainAt w' lb (kk + 1) → Has w' u (putT A (kk : Int)) → Calls Try.prog 31 #[.pointer (some ⟨lb, 0, none⟩), u] w' (Gets w' (.int .i64 (kk : Int))) := fun u w' hL h => by
        have := sjoin_at u (putT A (kk : Int)) w' lb (kk + 1) hL h oT.out
        have e := jC_top hN.out A
        rw [show kk + 1 - 1 = kk from rfl] at e
        rwa [e] at this
      go_wp2_with fail
      refine Calls.mono (pairF_at _ A B _ (two_terms HT42.out HT43.out) oAB.out) ?_
      intro r w47 h5
      obtain ⟨k5, n5, s5, a5, l5, c5, rfl, hh5, b5⟩ := h5.has
      clear h5
      have HT5 := Lib.hid hh5
      clear hh5
      have st48 : Below w37.heap.size w37 (w37.alloc (.cells #[.int .i64 k1, .int .i64 n1, .string s1, .slice a1 la c1, .int .i64 k2, .int .i64 n2, .string s2, .slice a2 l2 c2] 24)) := (Below.refl _ _).alloc (Nat.le_refl _) _
      have HB49 := Lib.hid (HB39.out.trans (st48.mono HB39.out.size))
      have HX50 := Lib.hid (tbox_below HX40.out st48)
      have HX51 := Lib.hid (tbox_below HX41.out st48)
      have HT52 := Lib.hid (Has.below HT42.out st48)
      have HT53 := Lib.hid (Has.below HT43.out st48)
      have HL54 := Lib.hid (ChainAt.below HL44.out st48)
      clear p45_0 p45_1 p45_2 p45_3
      obtain ⟨p55_0, p55_1, p55_2, p55_3⟩ := tbox_cells HX50.out
      clear p46_0 p46_1 p46_2 p46_3
      obtain ⟨p56_0, p56_1, p56_2, p56_3⟩ := tbox_cells HX51.out
      clear st48 HB39 HX40 HX41 HT42 HT43 HL44
      have st57 : Below (w37.alloc (.cells #[.int .i64 k1, .int .i64 n1, .string s1, .slice a1 la c1, .int .i64 k2, .int .i64 n2, .string s2, .slice a2 l2 c2] 24)).heap.size (w37.alloc (.cells #[.int .i64 k1, .int .i64 n1, .string s1, .slice a1 la c1, .int .i64 k2, .int .i64 n2, .string s2, .slice a2 l2 c2] 24)) w47 := b5
      have HB58 := Lib.hid (HB49.out.trans (st57.mono HB49.out.size))
      have HX59 := Lib.hid (tbox_below HX50.out st57)
      have HX60 := Lib.hid (tbox_below HX51.out st57)
      have HT61 := Lib.hid (Has.below HT52.out st57)
      have HT62 := Lib.hid (Has.below HT53.out st57)
      have HL63 := Lib.hid (ChainAt.below HL54.out st57)
      clear p55_0 p55_1 p55_2 p55_3
      obtain ⟨p64_0, p64_1, p64_2, p64_3⟩ := tbox_cells HX59.out
      clear p56_0 p56_1 p56_2 p56_3
      obtain ⟨p65_0, p65_1, p65_2, p65_3⟩ := tbox_cells HX60.out
      clear st57 HB49 HX50 HX51 HT52 HT53 HL54
      clear b5
      go_wp2_with fail
      refine Calls.mono (jp _ _ HL63.out HT5.out) ?_
      rintro r w66 ⟨rfl, bw66⟩
      have st67 : Below w47.heap.size w47 w66 := bw66
      have HB68 := Lib.hid (HB58.out.trans (st67.mono HB58.out.size))
      have HX69 := Lib.hid (tbox_below HX59.out st67)
      have HX70 := Lib.hid (tbox_below HX60.out st67)
      have HT71 := Lib.hid (Has.below HT61.out st67)
      have HT72 := Lib.hid (Has.below HT62.out st67)
      have HT73 := Lib.hid (Has.below HT5.out st67)
      have HL74 := Lib.hid (ChainAt.below HL63.out st67)
      clear p64_0 p64_1 p64_2 p64_3
      obtain ⟨p75_0, p75_1, p75_2, p75_3⟩ := tbox_cells HX69.out
      clear p65_0 p65_1 p65_2 p65_3
      obtain ⟨p76_0, p76_1, p76_2, p76_3⟩ := tbox_cells HX70.out
      clear st67 HB58 HX59 HX60 HT61 HT62 HT5 HL63
      clear bw66
      obtain ⟨wz, hwz0⟩ : ∃ wz, wz = w66 := ⟨_, rfl⟩
      have hwz := Lib.hid hwz0
      clear hwz0
      have y0 : wz.heap[w.heap.size]? = some (.cells #[.int .i64 k1, .int .i64 n1, .string s1, .slice a1 la c1] 24 (0, 0)) := by rw [hwz.out]; exact HX69.out
      have lt0 := (Array.getElem?_eq_some_iff.1 y0).1
      obtain ⟨g0_0, g0_1, g0_2, g0_3⟩ := tbox_cells y0
      have y1 : wz.heap[w.heap.size + 1]? = some (.cells #[.int .i64 k2, .int .i64 n2, .string s2, .slice a2 l2 c2] 24 (0, 0)) := by rw [hwz.out]; exact HX70.out
      have lt1 := (Array.getElem?_eq_some_iff.1 y1).1
      obtain ⟨g1_0, g1_1, g1_2, g1_3⟩ := tbox_cells y1
      have z1 : Has wz (.agg #[.int .i64 k1, .int .i64 n1, .string s1, .slice a1 la c1]) A := by rw [hwz.out]; exact HT71.out
      have z2 : Has wz (.agg #[.int .i64 k2, .int .i64 n2, .string s2, .slice a2 l2 c2]) B := by rw [hwz.out]; exact HT72.out
      have z5 : Has wz (.agg #[.int .i64 k5, .int .i64 n5, .string s5, .slice a5 l5 c5]) (pairF A B) := by rw [hwz.out]; exact HT73.out
      have zL := hwz.out ▸ HL74.out
      have HZ := Lib.hid (show Below w.heap.size w wz by rw [hwz.out]; exact HB68.out)
      have HS : ∀ w', Below wz.heap.size wz w' → (w'.cell? ⟨w.heap.size, 0, none⟩ = some (.int .i64 k1) ∧ w'.cell? ⟨w.heap.size, 1, none⟩ = some (.int .i64 n1) ∧ w'.cell? ⟨w.heap.size, 2, none⟩ = some (.string s1) ∧ w'.cell? ⟨w.heap.size, 3, none⟩ = some (.slice a1 la c1) ∧ w'.cell? ⟨w.heap.size + 1, 0, none⟩ = some (.int .i64 k2) ∧ w'.cell? ⟨w.heap.size + 1, 1, none⟩ = some (.int .i64 n2) ∧ w'.cell? ⟨w.heap.size + 1, 2, none⟩ = some (.string s2) ∧ w'.cell? ⟨w.heap.size + 1, 3, none⟩ = some (.slice a2 l2 c2) ∧ Below wz.heap.size wz w') := fun w' hb =>
        ⟨(hb.cell (p := ⟨_, _, none⟩) lt0).trans g0_0, (hb.cell (p := ⟨_, _, none⟩) lt0).trans g0_1, (hb.cell (p := ⟨_, _, none⟩) lt0).trans g0_2, (hb.cell (p := ⟨_, _, none⟩) lt0).trans g0_3, (hb.cell (p := ⟨_, _, none⟩) lt1).trans g1_0, (hb.cell (p := ⟨_, _, none⟩) lt1).trans g1_1, (hb.cell (p := ⟨_, _, none⟩) lt1).trans g1_2, (hb.cell (p := ⟨_, _, none⟩) lt1).trans g1_3, hb⟩
      have HZL := Lib.hid zL
      have HZ1 := Lib.hid z1
      have HSS := Lib.hid HS
      clear zL z1 HS z2 z5
      clear jp y0 lt0 g0_0 g0_1 g0_2 g0_3 y1 lt1 g1_0 g1_1 g1_2 g1_3
      have HZ2 : Hid (Has wz (.agg #[.int .i64 k2, .int .i64 n2, .string s2, .slice a2 l2 c2]) B) := by rw [hwz.out]; exact HT72.out
      go_wp2_with fail
      rw [← hwz.out]
      go_loopw [10] (fun i wr => ∃ c : Nat, i = .int .i64 c ∧ c ≤ la ∧ Below wz.heap.size wz wr) (fun i _ => la - (intOf i).toNat)
      case atStart => exact ⟨0, rfl, Nat.zero_le _, Below.refl _ _⟩
      case round =>
        obtain ⟨c, rfl, hcl, hB0⟩ := hrel
        have hlaI : (la : Int) ≤ 1000000000000 := by have := HLA.out; omega
        obtain ⟨gx0, gx1, gx2, gx3, gx4, gx5, gx6, gx7, -⟩ := HSS.out wr hB0
        have HBr := Lib.hid hB0
        clear hB0
        by_cases hlt : c < la
        · have hv1 := HZ1.out
          rw [EA.out, ← ELA.out] at hv1
          obtain ⟨b', o, k', n', s', a', l', c', T1, e1, hbn, d0, d1, d2, d3, hT1, ht1⟩ := IsTm.kid hv1 c (by rw [ELA.out]; exact hlt)
          subst e1
          have hmem := List.mem_of_getElem? hT1
          obtain ⟨I, inst, F, n0, hF0, hFb, hFc⟩ := later_family wr
          have hFz : ∀ i, Below wz.heap.size wz (F i) := fun i => HBr.out.trans ((hFb i).mono HBr.out.size)
          have K0 := fun i => (HSS.out _ (hFz i)).1
          have K1 := fun i => (HSS.out _ (hFz i)).2.1
          have K2 := fun i => (HSS.out _ (hFz i)).2.2.1
          have K3 := fun i => (HSS.out _ (hFz i)).2.2.2.1
          have q0 := fun i => ((hFz i).cell (p := ⟨b', o + c * 4, none⟩) hbn).trans d0
          have q1 := fun i => ((hFz i).cell (p := ⟨b', o + c * 4 + 1, none⟩) hbn).trans d1
          have q2 := fun i => ((hFz i).cell (p := ⟨b', o + c * 4 + 2, none⟩) hbn).trans d2
          have q3 := fun i => ((hFz i).cell (p := ⟨b', o + c * 4 + 3, none⟩) hbn).trans d3
          obtain ⟨jK, hjK⟩ : ∃ j, T1.jC (kk + 1) 0 = j := ⟨_, rfl⟩
          have hle : jK ≤ jA := by rw [← hjK, ← EJ.out.1, EA.out]; exact jC_kid hmem
          have oK : T1.size ≤ 1000000000000 := by have h1 := Tm.size_le_sizes hmem; have h2 := Hs.out.1; rw [EA.out, Tm.size_mk] at h2; omega
          have C1 := Lib.hid (fun i => calls_fam hFc i (by have := sjoin_at _ T1 (F i) lb (kk + 1) (HZL.out.below (hFz i)) (Has.below ht1 (hFz i)) oK; rwa [hjK] at this))
          have C2 := Lib.hid (fun i => calls_fam hFc i (ja _ (F i) (HZL.out.below (hFz i)) (Has.below HZ1.out (hFz i))))
          have C3 := Lib.hid (fun i => calls_fam hFc i (by have := (ch_leq (HZL.out.below (hFz i)) (x := jK) (y := jA) (by have := LJ.out.1; omega) LJ.out.1).mono fun _ _ h => gets_of_reads h; rwa [decide_eq_true hle] at this))
          have HFz := Lib.hid hFz
          clear hFb hFc hFz d0 d1 d2 d3 ht1 hT1 hmem hjK hle oK hv1 hbn
          go_wp2_with fail
          refine wp_region_fam F n0 hF0 (by kernel_rfl) (by kernel_rfl) ?_
          clear hF0
          repeat (go_big_quiet_step (first | (go_at_call 31; (with_reducible exact C1.out _)) | (go_at_call 31; (with_reducible exact C2.out _)) | (go_at_call 32; (with_reducible exact C3.out _))))
          refine wpQuiet_nil ?_
          intro _ hw'
          obtain ⟨nq, hw''⟩ := hw'
          subst hw''
          go_wp2_with fail
          go_roundw
          case rel => exact ⟨c + 1, by simp, hlt, HFz.out nq⟩
          case measure => simp [intOf]; omega
        · have hce : la = c := by omega
          subst hce
          have HS : ∀ w', Below wr.heap.size wr w' → _ := fun w' hb => HSS.out w' (HBr.out.trans (hb.mono HBr.out.size))
          have zL := HZL.out.below HBr.out
          have z1 := Has.below HZ1.out HBr.out
          have z2 := Has.below HZ2.out HBr.out
          go_wp2_with fail
          clear gx0 gx1 gx2 gx3 gx4 gx5 gx6 gx7
          go_region_held3 (fun w' => w'.cell? ⟨w.heap.size, 0, none⟩ = some (.int .i64 k1) ∧ w'.cell? ⟨w.heap.size, 1, none⟩ = some (.int .i64 n1) ∧ w'.cell? ⟨w.heap.size, 2, none⟩ = some (.string s1) ∧ w'.cell? ⟨w.heap.size, 3, none⟩ = some (.slice a1 la c1) ∧ w'.cell? ⟨w.heap.size + 1, 0, none⟩ = some (.int .i64 k2) ∧ w'.cell? ⟨w.heap.size + 1, 1, none⟩ = some (.int .i64 n2) ∧ w'.cell? ⟨w.heap.size + 1, 2, none⟩ = some (.string s2) ∧ w'.cell? ⟨w.heap.size + 1, 3, none⟩ = some (.slice a2 l2 c2) ∧ Below wz.heap.size wz w')
            (exact HS _ (by (repeat (first | with_reducible exact Below.refl _ _ | with_reducible apply below_al | with_reducible apply below_dr | ((with_reducible apply below_tr); (with_reducible assumption))))))
            (first
                  | (go_at_call 36; (with_reducible refine Calls.mono (tp w15 ?_) ?_); ((with_reducible refine ChainAt.below zL ?_); (repeat (first | with_reducible exact Below.refl _ _ | with_reducible apply below_al | with_reducible apply below_dr | ((with_reducible apply below_tr); (with_reducible assumption))))); rintro r w16 ⟨rfl, b16⟩)
                  | (go_at_call 31; (with_reducible refine Calls.mono (jt _ _ ?_ ?_) ?_); ((with_reducible refine ChainAt.below zL ?_); (repeat (first | with_reducible exact Below.refl _ _ | with_reducible apply below_al | with_reducible apply below_dr | ((with_reducible apply below_tr); (with_reducible assumption))))); ((with_reducible refine Has.below h14 ?_); (repeat (first | with_reducible exact Below.refl _ _ | with_reducible apply below_al | with_reducible apply below_dr | ((with_reducible apply below_tr); (with_reducible assumption))))); rintro r w15 ⟨rfl, b15⟩)
                  | (go_at_call 38; (with_reducible refine Calls.mono (put_at _ A (kk : Int) _ ik.out ?_ Hs.out.1) ?_); ((with_reducible refine Has.below z1 ?_); (repeat (first | with_reducible exact Below.refl _ _ | with_reducible apply below_al | with_reducible apply below_dr | ((with_reducible apply below_tr); (with_reducible assumption))))); intro r w14 h14; obtain ⟨k14, n14, s14, a14, l14, c14, rfl, h14, b14⟩ := h14.has)
                  | (go_at_call 36; (with_reducible refine Calls.mono (tp w12 ?_) ?_); ((with_reducible refine ChainAt.below zL ?_); (repeat (first | with_reducible exact Below.refl _ _ | with_reducible apply below_al | with_reducible apply below_dr | ((with_reducible apply below_tr); (with_reducible assumption))))); rintro r w13 ⟨rfl, b13⟩)
                  | (go_at_call 33; (with_reducible refine Calls.mono (jm _ ?_) ?_); ((with_reducible refine ChainAt.below zL ?_); (repeat (first | with_reducible exact Below.refl _ _ | with_reducible apply below_al | with_reducible apply below_dr | ((with_reducible apply below_tr); (with_reducible assumption))))); rintro r w12 ⟨rfl, b12⟩)
                  | (go_at_call 31; (with_reducible refine Calls.mono (jb _ _ ?_ ?_) ?_); ((with_reducible refine ChainAt.below zL ?_); (repeat (first | with_reducible exact Below.refl _ _ | with_reducible apply below_al | with_reducible apply below_dr | ((with_reducible apply below_tr); (with_reducible assumption))))); ((with_reducible refine Has.below z2 ?_); (repeat (first | with_reducible exact Below.refl _ _ | with_reducible apply below_al | with_reducible apply below_dr | ((with_reducible apply below_tr); (with_reducible assumption))))); rintro r w11 ⟨rfl, b11⟩)
                  | (go_at_call 31; (with_reducible refine Calls.mono (ja _ _ ?_ ?_) ?_); ((with_reducible refine ChainAt.below zL ?_); (repeat (first | with_reducible exact Below.refl _ _ | with_reducible apply below_al | with_reducible apply below_dr | ((with_reducible apply below_tr); (with_reducible assumption))))); ((with_reducible refine Has.below z1 ?_); (repeat (first | with_reducible exact Below.refl _ _ | with_reducible apply below_al | with_reducible apply below_dr | ((with_reducible apply below_tr); (with_reducible assumption))))); rintro r w10 ⟨rfl, b10⟩))
          all_goals
            go_wp2_with fail
            go_ret
            exact ⟨rfl, below_tr (by (repeat (first | with_reducible exact Below.refl _ _ | with_reducible apply below_al | with_reducible apply below_dr | ((with_reducible apply below_tr); (with_reducible assumption))))) (below_tr HBr.out HZ.out)⟩

end Go.Proofs.Ytllggpmmcamkmaa
