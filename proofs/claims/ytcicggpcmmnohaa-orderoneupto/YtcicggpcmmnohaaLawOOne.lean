/-
  The law OrderOne: its walk.
-/
import Derived.Test.YtcicggpcmmnohaaOShow
import Derived.Test.YtcicggpcmmnohaaOrdE
import Derived.Deep.Cut
import Derived.Deep.DeepCutAuto
namespace Go.Proofs.Ytcicggpcmmnohaa
open Go.RowKit Go.Shelf
open Classical
set_option linter.unusedVariables false

theorem neg_id {x : Int} (h : x = -1 ∨ x = 0 ∨ x = 1) : IntKind.i64.wrap (-x) = -x := by rw [IntKind.wrap_i64]; omega

set_option maxRecDepth 100000 in
set_option maxHeartbeats 8000000 in
theorem orderOne_at (u v z : Value) (A B C : Tm) (w : World) (hu : Has w u A) (hv : Has w v B) (hz : Has w z C) (hs : A.size ≤ 1000000000000) (ht : B.size ≤ 1000000000000) (hr : C.size ≤ 1000000000000) :
    Calls Try.prog 4 #[u, v, z] w fun r w' => r = .returned (.bool true) ∧ Below w.heap.size w w' := by
  obtain ⟨k1, n1, s1, a1, l1, c1, ks1, rfl, e_1, -⟩ := hu.form
  obtain ⟨k2, n2, s2, a2, l2, c2, ks2, rfl, e_2, -⟩ := hv.form
  obtain ⟨k3, n3, s3, a3, l3, c3, ks3, rfl, e_3, -⟩ := hz.form
  clear e_1 e_2 e_3
  obtain ⟨qa, hqa⟩ : ∃ qa, decide (A.size ≤ 500) = qa := ⟨_, rfl⟩
  obtain ⟨qb, hqb⟩ : ∃ qb, decide (B.size ≤ 500) = qb := ⟨_, rfl⟩
  obtain ⟨qc, hqc⟩ : ∃ qb, decide (C.size ≤ 500) = qb := ⟨_, rfl⟩
  obtain ⟨cx, hcx⟩ : ∃ c, A.er.cmp B.er = c := ⟨_, rfl⟩
  obtain ⟨cy, hcy⟩ : ∃ c, B.er.cmp C.er = c := ⟨_, rfl⟩
  obtain ⟨cz, hcz⟩ : ∃ c, A.er.cmp C.er = c := ⟨_, rfl⟩
  obtain ⟨ck1, hck1⟩ : ∃ ck, A.check 16 = ck := ⟨_, rfl⟩
  obtain ⟨ck2, hck2⟩ : ∃ ck, B.check 16 = ck := ⟨_, rfl⟩
  obtain ⟨qe, hqe⟩ : ∃ q, decide (A.er = B.er) = q := ⟨_, rfl⟩
  have hV := tc_v A B C
  have hX := tc_rng A B
  have hY := tc_rng B C
  have hZ := tc_rng A C
  unfold tc at hV hX hY hZ
  rw [hcx, hcy, hcz] at hV
  rw [hcx] at hX
  rw [hcy] at hY
  rw [hcz] at hZ
  have HV := Lib.hid (And.intro hV (And.intro hX (And.intro hY hZ)))
  have Hqa := Lib.hid hqa
  have Hqb := Lib.hid hqb
  have Hqc := Lib.hid hqc
  have Hcx := Lib.hid hcx
  have Hcy := Lib.hid hcy
  have Hcz := Lib.hid hcz
  have Hck1 := Lib.hid hck1
  have Hck2 := Lib.hid hck2
  have Hqe := Lib.hid hqe
  have Hs := Lib.hid (And.intro hs (And.intro ht hr))
  have fa : ∀ w', Has w' (.agg #[.int .i64 k1, .int .i64 n1, .string s1, .slice a1 l1 c1]) A → Calls Try.prog 11 #[.agg #[.int .i64 k1, .int .i64 n1, .string s1, .slice a1 l1 c1]] w' (Gets w' (.bool qa)) := fun w' h => by rw [← Hqa.out]; exact ofew_at _ A w' h Hs.out.1
  have fb : ∀ w', Has w' (.agg #[.int .i64 k2, .int .i64 n2, .string s2, .slice a2 l2 c2]) B → Calls Try.prog 11 #[.agg #[.int .i64 k2, .int .i64 n2, .string s2, .slice a2 l2 c2]] w' (Gets w' (.bool qb)) := fun w' h => by rw [← Hqb.out]; exact ofew_at _ B w' h Hs.out.2.1
  have fc : ∀ w', Has w' (.agg #[.int .i64 k3, .int .i64 n3, .string s3, .slice a3 l3 c3]) C → Calls Try.prog 11 #[.agg #[.int .i64 k3, .int .i64 n3, .string s3, .slice a3 l3 c3]] w' (Gets w' (.bool qc)) := fun w' h => by rw [← Hqc.out]; exact ofew_at _ C w' h Hs.out.2.2
  have cAB : ∀ (u v : Value) (w' : World), Has w' u A → Has w' v B → Calls Try.prog 12 #[u, v] w' (Gets w' (.int .i64 cx)) := fun u v w' h1 h2 => by rw [← Hcx.out]; exact compare_at u v A B w' h1 h2 Hs.out.1 Hs.out.2.1
  have cBC : ∀ (u v : Value) (w' : World), Has w' u B → Has w' v C → Calls Try.prog 12 #[u, v] w' (Gets w' (.int .i64 cy)) := fun u v w' h1 h2 => by rw [← Hcy.out]; exact compare_at u v B C w' h1 h2 Hs.out.2.1 Hs.out.2.2
  have cAC : ∀ (u v : Value) (w' : World), Has w' u A → Has w' v C → Calls Try.prog 12 #[u, v] w' (Gets w' (.int .i64 cz)) := fun u v w' h1 h2 => by rw [← Hcz.out]; exact compare_at u v A C w' h1 h2 Hs.out.1 Hs.out.2.2
  have cBA : ∀ (u v : Value) (w' : World), Has w' u B → Has w' v A → Calls Try.prog 12 #[u, v] w' (Gets w' (.int .i64 (-cx))) := fun u v w' h1 h2 => by
    have h := compare_at u v B A w' h1 h2 Hs.out.2.1 Hs.out.1
    rwa [Tm.cmp_neg A.er B.er, Hcx.out] at h
  have cAA : ∀ (u v : Value) (w' : World), Has w' u A → Has w' v A → Calls Try.prog 12 #[u, v] w' (Gets w' (.int .i64 0)) := fun u v w' h1 h2 => by
    have h := compare_at u v A A w' h1 h2 Hs.out.1 Hs.out.1
    rwa [Tm.cmp_self] at h
  have kA : ∀ (u : Value) (w' : World), Has w' u A → Calls Try.prog 17 #[u, .int .i64 16] w' (Gets w' (.int .i64 ck1)) := fun u w' h => by rw [← Hck1.out]; exact check_at u A 16 w' h (by have := Hs.out.1; omega)
  have kB : ∀ (u : Value) (w' : World), Has w' u B → Calls Try.prog 17 #[u, .int .i64 16] w' (Gets w' (.int .i64 ck2)) := fun u w' h => by rw [← Hck2.out]; exact check_at u B 16 w' h (by have := Hs.out.2.1; omega)
  have sAB : ∀ (u v : Value) (w' : World), Has w' u A.er → Has w' v B.er → Calls Try.prog 18 #[u, v] w' (Gets w' (.bool qe)) := fun u v w' h1 h2 => by
    rw [← Hqe.out]; exact same_at A.er B.er u v w' h1 h2 (Nat.le_trans A.er_size Hs.out.1) (Nat.le_trans B.er_size Hs.out.2.1)
  clear hqa hqb hqc hcx hcy hcz hck1 hck2 hqe hs ht hr hV hX hY hZ
  have HB1 := Lib.hid (show Below w.heap.size w (((w.alloc (.cells #[.int .i64 k1, .int .i64 n1, .string s1, .slice a1 l1 c1] 24)).alloc (.cells #[.int .i64 k2, .int .i64 n2, .string s2, .slice a2 l2 c2] 24)).alloc (.cells #[.int .i64 k3, .int .i64 n3, .string s3, .slice a3 l3 c3] 24)) from ((((Below.refl _ w).alloc (Nat.le_refl _) _).alloc (by first | (simp; done) | (simp; omega)) _).alloc (by first | (simp; done) | (simp; omega)) _))
  have HX2 := Lib.hid (show (((w.alloc (.cells #[.int .i64 k1, .int .i64 n1, .string s1, .slice a1 l1 c1] 24)).alloc (.cells #[.int .i64 k2, .int .i64 n2, .string s2, .slice a2 l2 c2] 24)).alloc (.cells #[.int .i64 k3, .int .i64 n3, .string s3, .slice a3 l3 c3] 24)).heap[w.heap.size]? = some (.cells #[.int .i64 k1, .int .i64 n1, .string s1, .slice a1 l1 c1] 24 (0, 0)) from ((Below.heap_alloc _ _ _ (by simp; omega)).trans ((Below.heap_alloc _ _ _ (by simp)).trans (by simpa using World.alloc_heap_new w (.cells #[.int .i64 k1, .int .i64 n1, .string s1, .slice a1 l1 c1] 24)))))
  have HT3 := Lib.hid (Has.below hu HB1.out)
  obtain ⟨p4_0, p4_1, p4_2, p4_3⟩ := tbox_cells HX2.out
  have HX5 := Lib.hid (show (((w.alloc (.cells #[.int .i64 k1, .int .i64 n1, .string s1, .slice a1 l1 c1] 24)).alloc (.cells #[.int .i64 k2, .int .i64 n2, .string s2, .slice a2 l2 c2] 24)).alloc (.cells #[.int .i64 k3, .int .i64 n3, .string s3, .slice a3 l3 c3] 24)).heap[w.heap.size + 1]? = some (.cells #[.int .i64 k2, .int .i64 n2, .string s2, .slice a2 l2 c2] 24 (0, 0)) from ((Below.heap_alloc _ _ _ (by simp)).trans (by simpa using World.alloc_heap_new (w.alloc (.cells #[.int .i64 k1, .int .i64 n1, .string s1, .slice a1 l1 c1] 24)) (.cells #[.int .i64 k2, .int .i64 n2, .string s2, .slice a2 l2 c2] 24))))
  have HT6 := Lib.hid (Has.below hv HB1.out)
  obtain ⟨p7_0, p7_1, p7_2, p7_3⟩ := tbox_cells HX5.out
  have HX8 := Lib.hid (show (((w.alloc (.cells #[.int .i64 k1, .int .i64 n1, .string s1, .slice a1 l1 c1] 24)).alloc (.cells #[.int .i64 k2, .int .i64 n2, .string s2, .slice a2 l2 c2] 24)).alloc (.cells #[.int .i64 k3, .int .i64 n3, .string s3, .slice a3 l3 c3] 24)).heap[w.heap.size + 1 + 1]? = some (.cells #[.int .i64 k3, .int .i64 n3, .string s3, .slice a3 l3 c3] 24 (0, 0)) from (by simpa using World.alloc_heap_new ((w.alloc (.cells #[.int .i64 k1, .int .i64 n1, .string s1, .slice a1 l1 c1] 24)).alloc (.cells #[.int .i64 k2, .int .i64 n2, .string s2, .slice a2 l2 c2] 24)) (.cells #[.int .i64 k3, .int .i64 n3, .string s3, .slice a3 l3 c3] 24)))
  have HT9 := Lib.hid (Has.below hz HB1.out)
  obtain ⟨p10_0, p10_1, p10_2, p10_3⟩ := tbox_cells HX8.out
  clear hu hv hz
  go_enter Try.func4, Try.ntmps4
  go_wp2_with fail
  refine Calls.mono (oshown_at _) ?_
  rintro r w11 ⟨rfl, bw11⟩
  have st12 : Below (((w.alloc (.cells #[.int .i64 k1, .int .i64 n1, .string s1, .slice a1 l1 c1] 24)).alloc (.cells #[.int .i64 k2, .int .i64 n2, .string s2, .slice a2 l2 c2] 24)).alloc (.cells #[.int .i64 k3, .int .i64 n3, .string s3, .slice a3 l3 c3] 24)).heap.size (((w.alloc (.cells #[.int .i64 k1, .int .i64 n1, .string s1, .slice a1 l1 c1] 24)).alloc (.cells #[.int .i64 k2, .int .i64 n2, .string s2, .slice a2 l2 c2] 24)).alloc (.cells #[.int .i64 k3, .int .i64 n3, .string s3, .slice a3 l3 c3] 24)) w11 := bw11
  have HB13 := Lib.hid (HB1.out.trans (st12.mono HB1.out.size))
  have HX14 := Lib.hid (tbox_below HX2.out st12)
  have HX15 := Lib.hid (tbox_below HX5.out st12)
  have HX16 := Lib.hid (tbox_below HX8.out st12)
  have HT17 := Lib.hid (Has.below HT3.out st12)
  have HT18 := Lib.hid (Has.below HT6.out st12)
  have HT19 := Lib.hid (Has.below HT9.out st12)
  clear p4_0 p4_1 p4_2 p4_3
  obtain ⟨p20_0, p20_1, p20_2, p20_3⟩ := tbox_cells HX14.out
  clear p7_0 p7_1 p7_2 p7_3
  obtain ⟨p21_0, p21_1, p21_2, p21_3⟩ := tbox_cells HX15.out
  clear p10_0 p10_1 p10_2 p10_3
  obtain ⟨p22_0, p22_1, p22_2, p22_3⟩ := tbox_cells HX16.out
  clear st12 HB1 HX2 HX5 HX8 HT3 HT6 HT9
  clear bw11
  go_wp2_with fail
  refine Calls.mono (fa _ HT17.out) ?_
  rintro r w23 ⟨rfl, bw23⟩
  have st24 : Below w11.heap.size w11 w23 := bw23
  have HB25 := Lib.hid (HB13.out.trans (st24.mono HB13.out.size))
  have HX26 := Lib.hid (tbox_below HX14.out st24)
  have HX27 := Lib.hid (tbox_below HX15.out st24)
  have HX28 := Lib.hid (tbox_below HX16.out st24)
  have HT29 := Lib.hid (Has.below HT17.out st24)
  have HT30 := Lib.hid (Has.below HT18.out st24)
  have HT31 := Lib.hid (Has.below HT19.out st24)
  clear p20_0 p20_1 p20_2 p20_3
  obtain ⟨p32_0, p32_1, p32_2, p32_3⟩ := tbox_cells HX26.out
  clear p21_0 p21_1 p21_2 p21_3
  obtain ⟨p33_0, p33_1, p33_2, p33_3⟩ := tbox_cells HX27.out
  clear p22_0 p22_1 p22_2 p22_3
  obtain ⟨p34_0, p34_1, p34_2, p34_3⟩ := tbox_cells HX28.out
  clear st24 HB13 HX14 HX15 HX16 HT17 HT18 HT19
  clear bw23
  cases qa with
  | false =>
    go_wp2_with fail
    go_ret
    exact ⟨rfl, HB25.out⟩
  | true =>
    go_wp2_with fail
    refine Calls.mono (fb _ HT30.out) ?_
    rintro r w35 ⟨rfl, bw35⟩
    have st36 : Below w23.heap.size w23 w35 := bw35
    have HB37 := Lib.hid (HB25.out.trans (st36.mono HB25.out.size))
    have HX38 := Lib.hid (tbox_below HX26.out st36)
    have HX39 := Lib.hid (tbox_below HX27.out st36)
    have HX40 := Lib.hid (tbox_below HX28.out st36)
    have HT41 := Lib.hid (Has.below HT29.out st36)
    have HT42 := Lib.hid (Has.below HT30.out st36)
    have HT43 := Lib.hid (Has.below HT31.out st36)
    clear p32_0 p32_1 p32_2 p32_3
    obtain ⟨p44_0, p44_1, p44_2, p44_3⟩ := tbox_cells HX38.out
    clear p33_0 p33_1 p33_2 p33_3
    obtain ⟨p45_0, p45_1, p45_2, p45_3⟩ := tbox_cells HX39.out
    clear p34_0 p34_1 p34_2 p34_3
    obtain ⟨p46_0, p46_1, p46_2, p46_3⟩ := tbox_cells HX40.out
    clear st36 HB25 HX26 HX27 HX28 HT29 HT30 HT31
    clear bw35
    cases qb with
    | false =>
      go_wp2_with fail
      go_ret
      exact ⟨rfl, HB37.out⟩
    | true =>
      go_wp2_with fail
      refine Calls.mono (fc _ HT43.out) ?_
      rintro r w47 ⟨rfl, bw47⟩
      have st48 : Below w35.heap.size w35 w47 := bw47
      have HB49 := Lib.hid (HB37.out.trans (st48.mono HB37.out.size))
      have HX50 := Lib.hid (tbox_below HX38.out st48)
      have HX51 := Lib.hid (tbox_below HX39.out st48)
      have HX52 := Lib.hid (tbox_below HX40.out st48)
      have HT53 := Lib.hid (Has.below HT41.out st48)
      have HT54 := Lib.hid (Has.below HT42.out st48)
      have HT55 := Lib.hid (Has.below HT43.out st48)
      clear p44_0 p44_1 p44_2 p44_3
      obtain ⟨p56_0, p56_1, p56_2, p56_3⟩ := tbox_cells HX50.out
      clear p45_0 p45_1 p45_2 p45_3
      obtain ⟨p57_0, p57_1, p57_2, p57_3⟩ := tbox_cells HX51.out
      clear p46_0 p46_1 p46_2 p46_3
      obtain ⟨p58_0, p58_1, p58_2, p58_3⟩ := tbox_cells HX52.out
      clear st48 HB37 HX38 HX39 HX40 HT41 HT42 HT43
      clear bw47
      cases qc with
      | false =>
        go_wp2_with fail
        go_ret
        exact ⟨rfl, HB49.out⟩
      | true =>
        go_wp2_with fail
        refine Calls.mono (cAB _ _ _ HT53.out HT54.out) ?_
        rintro r w59 ⟨rfl, bw59⟩
        have st60 : Below w47.heap.size w47 w59 := bw59
        have HB61 := Lib.hid (HB49.out.trans (st60.mono HB49.out.size))
        have HX62 := Lib.hid (tbox_below HX50.out st60)
        have HX63 := Lib.hid (tbox_below HX51.out st60)
        have HX64 := Lib.hid (tbox_below HX52.out st60)
        have HT65 := Lib.hid (Has.below HT53.out st60)
        have HT66 := Lib.hid (Has.below HT54.out st60)
        have HT67 := Lib.hid (Has.below HT55.out st60)
        clear p56_0 p56_1 p56_2 p56_3
        obtain ⟨p68_0, p68_1, p68_2, p68_3⟩ := tbox_cells HX62.out
        clear p57_0 p57_1 p57_2 p57_3
        obtain ⟨p69_0, p69_1, p69_2, p69_3⟩ := tbox_cells HX63.out
        clear p58_0 p58_1 p58_2 p58_3
        obtain ⟨p70_0, p70_1, p70_2, p70_3⟩ := tbox_cells HX64.out
        clear st60 HB49 HX50 HX51 HX52 HT53 HT54 HT55
        clear bw59
        go_wp2_with fail
        refine Calls.mono (cBC _ _ _ HT66.out HT67.out) ?_
        rintro r w71 ⟨rfl, bw71⟩
        have st72 : Below w59.heap.size w59 w71 := bw71
        have HB73 := Lib.hid (HB61.out.trans (st72.mono HB61.out.size))
        have HX74 := Lib.hid (tbox_below HX62.out st72)
        have HX75 := Lib.hid (tbox_below HX63.out st72)
        have HX76 := Lib.hid (tbox_below HX64.out st72)
        have HT77 := Lib.hid (Has.below HT65.out st72)
        have HT78 := Lib.hid (Has.below HT66.out st72)
        have HT79 := Lib.hid (Has.below HT67.out st72)
        clear p68_0 p68_1 p68_2 p68_3
        obtain ⟨p80_0, p80_1, p80_2, p80_3⟩ := tbox_cells HX74.out
        clear p69_0 p69_1 p69_2 p69_3
        obtain ⟨p81_0, p81_1, p81_2, p81_3⟩ := tbox_cells HX75.out
        clear p70_0 p70_1 p70_2 p70_3
        obtain ⟨p82_0, p82_1, p82_2, p82_3⟩ := tbox_cells HX76.out
        clear st72 HB61 HX62 HX63 HX64 HT65 HT66 HT67
        clear bw71
        go_upto_region 7 with (go_at_call 12; refine Calls.mono (cAC _ _ _ HT77.out HT79.out) ?_; rintro r w99 ⟨rfl, bw99⟩)
        have st83 : Below w71.heap.size w71 w99 := bw99
        have HB84 := Lib.hid (HB73.out.trans (st83.mono HB73.out.size))
        have HX85 := Lib.hid (tbox_below HX74.out st83)
        have HX86 := Lib.hid (tbox_below HX75.out st83)
        have HX87 := Lib.hid (tbox_below HX76.out st83)
        have HT88 := Lib.hid (Has.below HT77.out st83)
        have HT89 := Lib.hid (Has.below HT78.out st83)
        have HT90 := Lib.hid (Has.below HT79.out st83)
        clear p80_0 p80_1 p80_2 p80_3
        obtain ⟨p91_0, p91_1, p91_2, p91_3⟩ := tbox_cells HX85.out
        clear p81_0 p81_1 p81_2 p81_3
        obtain ⟨p92_0, p92_1, p92_2, p92_3⟩ := tbox_cells HX86.out
        clear p82_0 p82_1 p82_2 p82_3
        obtain ⟨p93_0, p93_1, p93_2, p93_3⟩ := tbox_cells HX87.out
        clear st83 HB73 HX74 HX75 HX76 HT77 HT78 HT79
        clear bw99
        obtain ⟨wz, hwz0⟩ : ∃ wz, wz = w99 := ⟨_, rfl⟩
        have hwz := Lib.hid hwz0
        clear hwz0
        have y0 : wz.heap[w.heap.size]? = some (.cells #[.int .i64 k1, .int .i64 n1, .string s1, .slice a1 l1 c1] 24 (0, 0)) := by rw [hwz.out]; exact HX85.out
        have lt0 := (Array.getElem?_eq_some_iff.1 y0).1
        obtain ⟨g0_0, g0_1, g0_2, g0_3⟩ := tbox_cells y0
        have y1 : wz.heap[w.heap.size + 1]? = some (.cells #[.int .i64 k2, .int .i64 n2, .string s2, .slice a2 l2 c2] 24 (0, 0)) := by rw [hwz.out]; exact HX86.out
        have lt1 := (Array.getElem?_eq_some_iff.1 y1).1
        obtain ⟨g1_0, g1_1, g1_2, g1_3⟩ := tbox_cells y1
        have y2 : wz.heap[w.heap.size + 1 + 1]? = some (.cells #[.int .i64 k3, .int .i64 n3, .string s3, .slice a3 l3 c3] 24 (0, 0)) := by rw [hwz.out]; exact HX87.out
        have lt2 := (Array.getElem?_eq_some_iff.1 y2).1
        obtain ⟨g2_0, g2_1, g2_2, g2_3⟩ := tbox_cells y2
        have z1 : Has wz (.agg #[.int .i64 k1, .int .i64 n1, .string s1, .slice a1 l1 c1]) A := by rw [hwz.out]; exact HT88.out
        have z2 : Has wz (.agg #[.int .i64 k2, .int .i64 n2, .string s2, .slice a2 l2 c2]) B := by rw [hwz.out]; exact HT89.out
        have z3 : Has wz (.agg #[.int .i64 k3, .int .i64 n3, .string s3, .slice a3 l3 c3]) C := by rw [hwz.out]; exact HT90.out
        have HZ := Lib.hid (show Below w.heap.size w wz by rw [hwz.out]; exact HB84.out)
        have HS : ∀ w', Below wz.heap.size wz w' → (w'.cell? ⟨w.heap.size, 0, none⟩ = some (.int .i64 k1) ∧ w'.cell? ⟨w.heap.size, 1, none⟩ = some (.int .i64 n1) ∧ w'.cell? ⟨w.heap.size, 2, none⟩ = some (.string s1) ∧ w'.cell? ⟨w.heap.size, 3, none⟩ = some (.slice a1 l1 c1) ∧ w'.cell? ⟨w.heap.size + 1, 0, none⟩ = some (.int .i64 k2) ∧ w'.cell? ⟨w.heap.size + 1, 1, none⟩ = some (.int .i64 n2) ∧ w'.cell? ⟨w.heap.size + 1, 2, none⟩ = some (.string s2) ∧ w'.cell? ⟨w.heap.size + 1, 3, none⟩ = some (.slice a2 l2 c2) ∧ w'.cell? ⟨w.heap.size + 1 + 1, 0, none⟩ = some (.int .i64 k3) ∧ w'.cell? ⟨w.heap.size + 1 + 1, 1, none⟩ = some (.int .i64 n3) ∧ w'.cell? ⟨w.heap.size + 1 + 1, 2, none⟩ = some (.string s3) ∧ w'.cell? ⟨w.heap.size + 1 + 1, 3, none⟩ = some (.slice a3 l3 c3) ∧ Below wz.heap.size wz w') := fun w' hb =>
          ⟨(hb.cell (p := ⟨_, _, none⟩) lt0).trans g0_0, (hb.cell (p := ⟨_, _, none⟩) lt0).trans g0_1, (hb.cell (p := ⟨_, _, none⟩) lt0).trans g0_2, (hb.cell (p := ⟨_, _, none⟩) lt0).trans g0_3, (hb.cell (p := ⟨_, _, none⟩) lt1).trans g1_0, (hb.cell (p := ⟨_, _, none⟩) lt1).trans g1_1, (hb.cell (p := ⟨_, _, none⟩) lt1).trans g1_2, (hb.cell (p := ⟨_, _, none⟩) lt1).trans g1_3, (hb.cell (p := ⟨_, _, none⟩) lt2).trans g2_0, (hb.cell (p := ⟨_, _, none⟩) lt2).trans g2_1, (hb.cell (p := ⟨_, _, none⟩) lt2).trans g2_2, (hb.cell (p := ⟨_, _, none⟩) lt2).trans g2_3, hb⟩
        have hneg := neg_id HV.out.2.1
        have hW := Lib.hid (show ck1 = 0 → ck2 = 0 → (cx == 0) = qe from fun h1 h2 => by
          rw [← Hqe.out, ← Hcx.out]; exact (alike_same (check_zero (Hck1.out.trans h1)).2.2 (check_zero (Hck2.out.trans h2)).2.2).symm)
        clear y0 lt0 g0_0 g0_1 g0_2 g0_3 y1 lt1 g1_0 g1_1 g1_2 g1_3 y2 lt2 g2_0 g2_1 g2_2 g2_3 fa fb fc cAB cBC cAC
        rw [← hwz.out]
        go_cut [60] (fun c wc => c = .bool false ∧ Below wz.heap.size wz wc)
        case first =>
          by_cases h1 : ck1 = 0
          · have h1c : (ck1 == 0) = true := by simpa using h1
            by_cases h2 : ck2 = 0
            · have h2c : (ck2 == 0) = true := by simpa using h2
              have hq := hW.out h1 h2
              clear h1 h2
              cases qe
              · skip
                go_region_held3 (fun w' => w'.cell? ⟨w.heap.size, 0, none⟩ = some (.int .i64 k1) ∧ w'.cell? ⟨w.heap.size, 1, none⟩ = some (.int .i64 n1) ∧ w'.cell? ⟨w.heap.size, 2, none⟩ = some (.string s1) ∧ w'.cell? ⟨w.heap.size, 3, none⟩ = some (.slice a1 l1 c1) ∧ w'.cell? ⟨w.heap.size + 1, 0, none⟩ = some (.int .i64 k2) ∧ w'.cell? ⟨w.heap.size + 1, 1, none⟩ = some (.int .i64 n2) ∧ w'.cell? ⟨w.heap.size + 1, 2, none⟩ = some (.string s2) ∧ w'.cell? ⟨w.heap.size + 1, 3, none⟩ = some (.slice a2 l2 c2) ∧ w'.cell? ⟨w.heap.size + 1 + 1, 0, none⟩ = some (.int .i64 k3) ∧ w'.cell? ⟨w.heap.size + 1 + 1, 1, none⟩ = some (.int .i64 n3) ∧ w'.cell? ⟨w.heap.size + 1 + 1, 2, none⟩ = some (.string s3) ∧ w'.cell? ⟨w.heap.size + 1 + 1, 3, none⟩ = some (.slice a3 l3 c3) ∧ Below wz.heap.size wz w')
                  (exact HS _ (by (repeat (first | with_reducible exact Below.refl _ _ | with_reducible apply below_al | with_reducible apply below_dr | ((with_reducible apply below_tr); (with_reducible assumption))))))
                  (first
                        | (go_at_call 18; (have hq := h8; clear hq); (with_reducible refine Calls.mono (sAB _ _ _ ?_ ?_) ?_); ((with_reducible refine Has.below h7 ?_); (repeat (first | with_reducible exact Below.refl _ _ | with_reducible apply below_al | with_reducible apply below_dr | ((with_reducible apply below_tr); (with_reducible assumption))))); ((with_reducible refine Has.below h8 ?_); (repeat (first | with_reducible exact Below.refl _ _ | with_reducible apply below_al | with_reducible apply below_dr | ((with_reducible apply below_tr); (with_reducible assumption))))); rintro r w9 ⟨rfl, b9⟩)
                        | (go_at_call 19; (have hq := b7; clear hq); (with_reducible refine Calls.mono (erase_at _ B _ ?_ Hs.out.2.1) ?_); ((with_reducible refine Has.below z2 ?_); (repeat (first | with_reducible exact Below.refl _ _ | with_reducible apply below_al | with_reducible apply below_dr | ((with_reducible apply below_tr); (with_reducible assumption))))); intro r w8 h8; obtain ⟨k8, n8, s8, a8, l8, c8, rfl, h8, b8⟩ := h8.has)
                        | (go_at_call 19; (with_reducible refine Calls.mono (erase_at _ A _ ?_ Hs.out.1) ?_); ((with_reducible refine Has.below z1 ?_); (repeat (first | with_reducible exact Below.refl _ _ | with_reducible apply below_al | with_reducible apply below_dr | ((with_reducible apply below_tr); (with_reducible assumption))))); intro r w7 h7; obtain ⟨k7, n7, s7, a7, l7, c7, rfl, h7, b7⟩ := h7.has)
                        | (go_at_call 17; (have hq := b5; clear hq); (with_reducible refine Calls.mono (kB _ _ ?_) ?_); ((with_reducible refine Has.below z2 ?_); (repeat (first | with_reducible exact Below.refl _ _ | with_reducible apply below_al | with_reducible apply below_dr | ((with_reducible apply below_tr); (with_reducible assumption))))); rintro r w6 ⟨rfl, b6⟩)
                        | (go_at_call 17; (with_reducible refine Calls.mono (kA _ _ ?_) ?_); ((with_reducible refine Has.below z1 ?_); (repeat (first | with_reducible exact Below.refl _ _ | with_reducible apply below_al | with_reducible apply below_dr | ((with_reducible apply below_tr); (with_reducible assumption))))); rintro r w5 ⟨rfl, b5⟩)
                        | (go_at_call 12; (with_reducible refine Calls.mono (cBA _ _ _ ?_ ?_) ?_); ((with_reducible refine Has.below z2 ?_); (repeat (first | with_reducible exact Below.refl _ _ | with_reducible apply below_al | with_reducible apply below_dr | ((with_reducible apply below_tr); (with_reducible assumption))))); ((with_reducible refine Has.below z1 ?_); (repeat (first | with_reducible exact Below.refl _ _ | with_reducible apply below_al | with_reducible apply below_dr | ((with_reducible apply below_tr); (with_reducible assumption))))); rintro r w4 ⟨rfl, b4⟩))
                all_goals
                  go_wp2_with fail
                  go_meet
                  case rel => exact ⟨rfl, by (repeat (first | with_reducible exact Below.refl _ _ | with_reducible apply below_al | with_reducible apply below_dr | ((with_reducible apply below_tr); (with_reducible assumption))))⟩
              · skip
                go_region_held3 (fun w' => w'.cell? ⟨w.heap.size, 0, none⟩ = some (.int .i64 k1) ∧ w'.cell? ⟨w.heap.size, 1, none⟩ = some (.int .i64 n1) ∧ w'.cell? ⟨w.heap.size, 2, none⟩ = some (.string s1) ∧ w'.cell? ⟨w.heap.size, 3, none⟩ = some (.slice a1 l1 c1) ∧ w'.cell? ⟨w.heap.size + 1, 0, none⟩ = some (.int .i64 k2) ∧ w'.cell? ⟨w.heap.size + 1, 1, none⟩ = some (.int .i64 n2) ∧ w'.cell? ⟨w.heap.size + 1, 2, none⟩ = some (.string s2) ∧ w'.cell? ⟨w.heap.size + 1, 3, none⟩ = some (.slice a2 l2 c2) ∧ w'.cell? ⟨w.heap.size + 1 + 1, 0, none⟩ = some (.int .i64 k3) ∧ w'.cell? ⟨w.heap.size + 1 + 1, 1, none⟩ = some (.int .i64 n3) ∧ w'.cell? ⟨w.heap.size + 1 + 1, 2, none⟩ = some (.string s3) ∧ w'.cell? ⟨w.heap.size + 1 + 1, 3, none⟩ = some (.slice a3 l3 c3) ∧ Below wz.heap.size wz w')
                  (exact HS _ (by (repeat (first | with_reducible exact Below.refl _ _ | with_reducible apply below_al | with_reducible apply below_dr | ((with_reducible apply below_tr); (with_reducible assumption))))))
                  (first
                        | (go_at_call 18; (have hq := h8; clear hq); (with_reducible refine Calls.mono (sAB _ _ _ ?_ ?_) ?_); ((with_reducible refine Has.below h7 ?_); (repeat (first | with_reducible exact Below.refl _ _ | with_reducible apply below_al | with_reducible apply below_dr | ((with_reducible apply below_tr); (with_reducible assumption))))); ((with_reducible refine Has.below h8 ?_); (repeat (first | with_reducible exact Below.refl _ _ | with_reducible apply below_al | with_reducible apply below_dr | ((with_reducible apply below_tr); (with_reducible assumption))))); rintro r w9 ⟨rfl, b9⟩)
                        | (go_at_call 19; (have hq := b7; clear hq); (with_reducible refine Calls.mono (erase_at _ B _ ?_ Hs.out.2.1) ?_); ((with_reducible refine Has.below z2 ?_); (repeat (first | with_reducible exact Below.refl _ _ | with_reducible apply below_al | with_reducible apply below_dr | ((with_reducible apply below_tr); (with_reducible assumption))))); intro r w8 h8; obtain ⟨k8, n8, s8, a8, l8, c8, rfl, h8, b8⟩ := h8.has)
                        | (go_at_call 19; (with_reducible refine Calls.mono (erase_at _ A _ ?_ Hs.out.1) ?_); ((with_reducible refine Has.below z1 ?_); (repeat (first | with_reducible exact Below.refl _ _ | with_reducible apply below_al | with_reducible apply below_dr | ((with_reducible apply below_tr); (with_reducible assumption))))); intro r w7 h7; obtain ⟨k7, n7, s7, a7, l7, c7, rfl, h7, b7⟩ := h7.has)
                        | (go_at_call 17; (have hq := b5; clear hq); (with_reducible refine Calls.mono (kB _ _ ?_) ?_); ((with_reducible refine Has.below z2 ?_); (repeat (first | with_reducible exact Below.refl _ _ | with_reducible apply below_al | with_reducible apply below_dr | ((with_reducible apply below_tr); (with_reducible assumption))))); rintro r w6 ⟨rfl, b6⟩)
                        | (go_at_call 17; (with_reducible refine Calls.mono (kA _ _ ?_) ?_); ((with_reducible refine Has.below z1 ?_); (repeat (first | with_reducible exact Below.refl _ _ | with_reducible apply below_al | with_reducible apply below_dr | ((with_reducible apply below_tr); (with_reducible assumption))))); rintro r w5 ⟨rfl, b5⟩)
                        | (go_at_call 12; (with_reducible refine Calls.mono (cBA _ _ _ ?_ ?_) ?_); ((with_reducible refine Has.below z2 ?_); (repeat (first | with_reducible exact Below.refl _ _ | with_reducible apply below_al | with_reducible apply below_dr | ((with_reducible apply below_tr); (with_reducible assumption))))); ((with_reducible refine Has.below z1 ?_); (repeat (first | with_reducible exact Below.refl _ _ | with_reducible apply below_al | with_reducible apply below_dr | ((with_reducible apply below_tr); (with_reducible assumption))))); rintro r w4 ⟨rfl, b4⟩))
                all_goals
                  go_wp2_with fail
                  go_meet
                  case rel => exact ⟨rfl, by (repeat (first | with_reducible exact Below.refl _ _ | with_reducible apply below_al | with_reducible apply below_dr | ((with_reducible apply below_tr); (with_reducible assumption))))⟩
            · have h2c : (ck2 == 0) = false := by simpa using h2
              clear h1 h2
              obtain ⟨I, inst, F, n0, hF0, hFb, hFc⟩ := later_family wz
              have K0 := fun i => (HS _ (hFb i)).1
              have K1 := fun i => (HS _ (hFb i)).2.1
              have K2 := fun i => (HS _ (hFb i)).2.2.1
              have K3 := fun i => (HS _ (hFb i)).2.2.2.1
              have K4 := fun i => (HS _ (hFb i)).2.2.2.2.1
              have K5 := fun i => (HS _ (hFb i)).2.2.2.2.2.1
              have K6 := fun i => (HS _ (hFb i)).2.2.2.2.2.2.1
              have K7 := fun i => (HS _ (hFb i)).2.2.2.2.2.2.2.1
              have K8 := fun i => (HS _ (hFb i)).2.2.2.2.2.2.2.2.1
              have K9 := fun i => (HS _ (hFb i)).2.2.2.2.2.2.2.2.2.1
              have K10 := fun i => (HS _ (hFb i)).2.2.2.2.2.2.2.2.2.2.1
              have K11 := fun i => (HS _ (hFb i)).2.2.2.2.2.2.2.2.2.2.2.1
              have C1 := Lib.hid (fun i => calls_fam hFc i (cBA _ _ _ (Has.below z2 (hFb i)) (Has.below z1 (hFb i))))
              have C2 := Lib.hid (fun i => calls_fam hFc i (kA _ _ (Has.below z1 (hFb i))))
              have C3 := Lib.hid (fun i => calls_fam hFc i (kB _ _ (Has.below z2 (hFb i))))
              have HF := Lib.hid hFb
              clear hFb hFc HS cBA kA kB sAB z1 z2 z3
              refine wp_region_fam F n0 hF0 (by kernel_rfl) (by kernel_rfl) ?_
              clear hF0
              repeat (go_big_quiet_step (first | (go_at_call 12; (with_reducible exact C1.out _)) | (go_at_call 17; (with_reducible exact C2.out _)) | (go_at_call 17; (with_reducible exact C3.out _))))
              refine wpQuiet_nil ?_
              intro _ hw'
              obtain ⟨nq, hw''⟩ := hw'
              subst hw''
              go_wp2_with fail
              go_meet
              case rel => exact ⟨rfl, HF.out nq⟩
          · have h1c : (ck1 == 0) = false := by simpa using h1
            clear h1
            obtain ⟨I, inst, F, n0, hF0, hFb, hFc⟩ := later_family wz
            have K0 := fun i => (HS _ (hFb i)).1
            have K1 := fun i => (HS _ (hFb i)).2.1
            have K2 := fun i => (HS _ (hFb i)).2.2.1
            have K3 := fun i => (HS _ (hFb i)).2.2.2.1
            have K4 := fun i => (HS _ (hFb i)).2.2.2.2.1
            have K5 := fun i => (HS _ (hFb i)).2.2.2.2.2.1
            have K6 := fun i => (HS _ (hFb i)).2.2.2.2.2.2.1
            have K7 := fun i => (HS _ (hFb i)).2.2.2.2.2.2.2.1
            have K8 := fun i => (HS _ (hFb i)).2.2.2.2.2.2.2.2.1
            have K9 := fun i => (HS _ (hFb i)).2.2.2.2.2.2.2.2.2.1
            have K10 := fun i => (HS _ (hFb i)).2.2.2.2.2.2.2.2.2.2.1
            have K11 := fun i => (HS _ (hFb i)).2.2.2.2.2.2.2.2.2.2.2.1
            have C1 := Lib.hid (fun i => calls_fam hFc i (cBA _ _ _ (Has.below z2 (hFb i)) (Has.below z1 (hFb i))))
            have C2 := Lib.hid (fun i => calls_fam hFc i (kA _ _ (Has.below z1 (hFb i))))
            have C3 := Lib.hid (fun i => calls_fam hFc i (kB _ _ (Has.below z2 (hFb i))))
            have HF := Lib.hid hFb
            clear hFb hFc HS cBA kA kB sAB z1 z2 z3
            refine wp_region_fam F n0 hF0 (by kernel_rfl) (by kernel_rfl) ?_
            clear hF0
            repeat (go_big_quiet_step (first | (go_at_call 12; (with_reducible exact C1.out _)) | (go_at_call 17; (with_reducible exact C2.out _)) | (go_at_call 17; (with_reducible exact C3.out _))))
            refine wpQuiet_nil ?_
            intro _ hw'
            obtain ⟨nq, hw''⟩ := hw'
            subst hw''
            go_wp2_with fail
            go_meet
            case rel => exact ⟨rfl, HF.out nq⟩
        case rest =>
          obtain ⟨rfl, hb⟩ := hcut
          have zc1 := Has.below z1 hb
          have HZ2 := Lib.hid (HZ.out.trans (hb.mono HZ.out.size))
          obtain ⟨m0, m1, m2, m3, m4, m5, m6, m7, m8, m9, m10, m11, -⟩ := HS wc hb
          clear HS z1 z2 z3 hb hneg
          obtain ⟨⟨v1, v2, v3⟩, x1, y1, z1⟩ := HV.out
          have HVV : Hid (V3 cx cy cz ∧ (cz = -1 ∨ cz = 0 ∨ cz = 1)) := ⟨⟨v1, v2, v3⟩, z1⟩
          clear v1 v2 v3 z1 HV Hcx Hcy
          rcases x1 with rfl | rfl | rfl <;> rcases y1 with rfl | rfl | rfl
          all_goals
            try have hle : decide (cz ≤ 0) = true := decide_eq_true (by obtain ⟨⟨a, b, c⟩, d⟩ := HVV.out; omega)
            try have hlt : decide (cz < 0) = true := decide_eq_true (by obtain ⟨⟨a, b, c⟩, d⟩ := HVV.out; omega)
            go_wp2_with (go_at_call 12; refine Calls.mono (cAA _ _ _ zc1 zc1) ?_; rintro r w98 ⟨rfl, b98⟩)
            go_ret
            exact ⟨rfl, HZ2.out.trans (b98.mono HZ2.out.size)⟩

end Go.Proofs.Ytcicggpcmmnohaa
