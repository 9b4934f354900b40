/-
  The law OrderGrows: its walk.
-/
import Derived.Test.YtcicggpcmmnohaaOShow
import Derived.Deep.Cut
import Derived.Deep.DeepCutAuto
namespace Go.Proofs.Ytcicggpcmmnohaa
open Go.RowKit Go.Shelf
open Classical
set_option linter.unusedVariables false

theorem pair_cmp (A B C D : Tm) : (pairF A C).er.cmp (pairF B D).er = lx (A.er.cmp B.er) (C.er.cmp D.er) := by
  rw [pairF_er, pairF_er]
  unfold pairF
  rw [Tm.cmp_mk, Tm.cmps_cons, Tm.cmps_cons, Tm.cmps_nil]
  have e : ownC 3 0 (ByteArray.mk #[102]) [A.er, C.er].length 3 0 (ByteArray.mk #[102]) [B.er, D.er].length = 0 := by show ownC 3 0 (ByteArray.mk #[102]) 2 3 0 (ByteArray.mk #[102]) 2 = 0; decide
  rw [e, if_neg (by decide)]
  unfold lx
  rw [if_pos rfl]
  split
  · split <;> simp_all
  · rfl
theorem lx_same {x : Int} : lx 0 x = x := rfl

set_option maxRecDepth 100000 in
set_option maxHeartbeats 8000000 in
theorem orderGrows_at (u v z y : Value) (A B C D : Tm) (w : World) (hu : Has w u A) (hv : Has w v B) (hz : Has w z C) (hy : Has w y D) (hs : A.size ≤ 1000000000000) (ht : B.size ≤ 1000000000000) (hr : C.size ≤ 1000000000000) (hq : D.size ≤ 1000000000000) :
    Calls Try.prog 8 #[u, v, z, y] w fun r w' => r = .returned (.bool true) ∧ Below w.heap.size w w' := by
  obtain ⟨k1, n1, s1, a1, l1, c1, ks1, rfl, e_1, -⟩ := hu.form
  obtain ⟨k2, n2, s2, a2, l2, c2, ks2, rfl, e_2, -⟩ := hv.form
  obtain ⟨k3, n3, s3, a3, l3, c3, ks3, rfl, e_3, -⟩ := hz.form
  obtain ⟨k4, n4, s4, a4, l4, c4, ks4, rfl, e_4, -⟩ := hy.form
  clear e_1 e_2 e_3 e_4
  obtain ⟨qa, hqa⟩ : ∃ qa, decide (A.size ≤ 500) = qa := ⟨_, rfl⟩
  obtain ⟨qb, hqb⟩ : ∃ qb, decide (B.size ≤ 500) = qb := ⟨_, rfl⟩
  obtain ⟨qc, hqc⟩ : ∃ qb, decide (C.size ≤ 500) = qb := ⟨_, rfl⟩
  obtain ⟨qd, hqd⟩ : ∃ qb, decide (D.size ≤ 500) = qb := ⟨_, rfl⟩
  obtain ⟨cx, hcx⟩ : ∃ c, A.er.cmp B.er = c := ⟨_, rfl⟩
  obtain ⟨cy, hcy⟩ : ∃ c, C.er.cmp D.er = c := ⟨_, rfl⟩
  have Hqa := Lib.hid hqa
  have Hqb := Lib.hid hqb
  have Hqc := Lib.hid hqc
  have Hqd := Lib.hid hqd
  have Hcx := Lib.hid hcx
  have Hcy := Lib.hid hcy
  have Hs := Lib.hid (And.intro hs (And.intro ht (And.intro hr hq)))
  have fa : ∀ w', Has w' (.agg #[.int .i64 k1, .int .i64 n1, .string s1, .slice a1 l1 c1]) A → Calls Try.prog 11 #[.agg #[.int .i64 k1, .int .i64 n1, .string s1, .slice a1 l1 c1]] w' (Gets w' (.bool qa)) := fun w' h => by rw [← Hqa.out]; exact ofew_at _ A w' h Hs.out.1
  have fb : ∀ w', Has w' (.agg #[.int .i64 k2, .int .i64 n2, .string s2, .slice a2 l2 c2]) B → Calls Try.prog 11 #[.agg #[.int .i64 k2, .int .i64 n2, .string s2, .slice a2 l2 c2]] w' (Gets w' (.bool qb)) := fun w' h => by rw [← Hqb.out]; exact ofew_at _ B w' h Hs.out.2.1
  have fc : ∀ w', Has w' (.agg #[.int .i64 k3, .int .i64 n3, .string s3, .slice a3 l3 c3]) C → Calls Try.prog 11 #[.agg #[.int .i64 k3, .int .i64 n3, .string s3, .slice a3 l3 c3]] w' (Gets w' (.bool qc)) := fun w' h => by rw [← Hqc.out]; exact ofew_at _ C w' h Hs.out.2.2.1
  have fd : ∀ w', Has w' (.agg #[.int .i64 k4, .int .i64 n4, .string s4, .slice a4 l4 c4]) D → Calls Try.prog 11 #[.agg #[.int .i64 k4, .int .i64 n4, .string s4, .slice a4 l4 c4]] w' (Gets w' (.bool qd)) := fun w' h => by rw [← Hqd.out]; exact ofew_at _ D w' h Hs.out.2.2.2
  have cAB : ∀ (u v : Value) (w' : World), Has w' u A → Has w' v B → Calls Try.prog 12 #[u, v] w' (Gets w' (.int .i64 cx)) := fun u v w' h1 h2 => by rw [← Hcx.out]; exact compare_at u v A B w' h1 h2 Hs.out.1 Hs.out.2.1
  clear hqa hqb hqc hqd hcx hcy hs ht hr hq
  have HB1 := Lib.hid (show Below w.heap.size w ((((w.alloc (.cells #[.int .i64 k1, .int .i64 n1, .string s1, .slice a1 l1 c1] 24)).alloc (.cells #[.int .i64 k2, .int .i64 n2, .string s2, .slice a2 l2 c2] 24)).alloc (.cells #[.int .i64 k3, .int .i64 n3, .string s3, .slice a3 l3 c3] 24)).alloc (.cells #[.int .i64 k4, .int .i64 n4, .string s4, .slice a4 l4 c4] 24)) from (((((Below.refl _ w).alloc (Nat.le_refl _) _).alloc (by first | (simp; done) | (simp; omega)) _).alloc (by first | (simp; done) | (simp; omega)) _).alloc (by first | (simp; done) | (simp; omega)) _))
  have HX2 := Lib.hid (show ((((w.alloc (.cells #[.int .i64 k1, .int .i64 n1, .string s1, .slice a1 l1 c1] 24)).alloc (.cells #[.int .i64 k2, .int .i64 n2, .string s2, .slice a2 l2 c2] 24)).alloc (.cells #[.int .i64 k3, .int .i64 n3, .string s3, .slice a3 l3 c3] 24)).alloc (.cells #[.int .i64 k4, .int .i64 n4, .string s4, .slice a4 l4 c4] 24)).heap[w.heap.size]? = some (.cells #[.int .i64 k1, .int .i64 n1, .string s1, .slice a1 l1 c1] 24 (0, 0)) from ((Below.heap_alloc _ _ _ (by first | (simp; done) | (simp; omega) | omega)).trans ((Below.heap_alloc _ _ _ (by first | (simp; done) | (simp; omega) | omega)).trans ((Below.heap_alloc _ _ _ (by first | (simp; done) | (simp; omega) | omega)).trans (by simpa using World.alloc_heap_new w (.cells #[.int .i64 k1, .int .i64 n1, .string s1, .slice a1 l1 c1] 24))))))
  have HT3 := Lib.hid (Has.below hu HB1.out)
  obtain ⟨p4_0, p4_1, p4_2, p4_3⟩ := tbox_cells HX2.out
  have HX5 := Lib.hid (show ((((w.alloc (.cells #[.int .i64 k1, .int .i64 n1, .string s1, .slice a1 l1 c1] 24)).alloc (.cells #[.int .i64 k2, .int .i64 n2, .string s2, .slice a2 l2 c2] 24)).alloc (.cells #[.int .i64 k3, .int .i64 n3, .string s3, .slice a3 l3 c3] 24)).alloc (.cells #[.int .i64 k4, .int .i64 n4, .string s4, .slice a4 l4 c4] 24)).heap[w.heap.size + 1]? = some (.cells #[.int .i64 k2, .int .i64 n2, .string s2, .slice a2 l2 c2] 24 (0, 0)) from ((Below.heap_alloc _ _ _ (by first | (simp; done) | (simp; omega) | omega)).trans ((Below.heap_alloc _ _ _ (by first | (simp; done) | (simp; omega) | omega)).trans (by simpa using World.alloc_heap_new (w.alloc (.cells #[.int .i64 k1, .int .i64 n1, .string s1, .slice a1 l1 c1] 24)) (.cells #[.int .i64 k2, .int .i64 n2, .string s2, .slice a2 l2 c2] 24)))))
  have HT6 := Lib.hid (Has.below hv HB1.out)
  obtain ⟨p7_0, p7_1, p7_2, p7_3⟩ := tbox_cells HX5.out
  have HX8 := Lib.hid (show ((((w.alloc (.cells #[.int .i64 k1, .int .i64 n1, .string s1, .slice a1 l1 c1] 24)).alloc (.cells #[.int .i64 k2, .int .i64 n2, .string s2, .slice a2 l2 c2] 24)).alloc (.cells #[.int .i64 k3, .int .i64 n3, .string s3, .slice a3 l3 c3] 24)).alloc (.cells #[.int .i64 k4, .int .i64 n4, .string s4, .slice a4 l4 c4] 24)).heap[w.heap.size + 1 + 1]? = some (.cells #[.int .i64 k3, .int .i64 n3, .string s3, .slice a3 l3 c3] 24 (0, 0)) from ((Below.heap_alloc _ _ _ (by first | (simp; done) | (simp; omega) | omega)).trans (by simpa using World.alloc_heap_new ((w.alloc (.cells #[.int .i64 k1, .int .i64 n1, .string s1, .slice a1 l1 c1] 24)).alloc (.cells #[.int .i64 k2, .int .i64 n2, .string s2, .slice a2 l2 c2] 24)) (.cells #[.int .i64 k3, .int .i64 n3, .string s3, .slice a3 l3 c3] 24))))
  have HT9 := Lib.hid (Has.below hz HB1.out)
  obtain ⟨p10_0, p10_1, p10_2, p10_3⟩ := tbox_cells HX8.out
  have HX11 := Lib.hid (show ((((w.alloc (.cells #[.int .i64 k1, .int .i64 n1, .string s1, .slice a1 l1 c1] 24)).alloc (.cells #[.int .i64 k2, .int .i64 n2, .string s2, .slice a2 l2 c2] 24)).alloc (.cells #[.int .i64 k3, .int .i64 n3, .string s3, .slice a3 l3 c3] 24)).alloc (.cells #[.int .i64 k4, .int .i64 n4, .string s4, .slice a4 l4 c4] 24)).heap[w.heap.size + 1 + 1 + 1]? = some (.cells #[.int .i64 k4, .int .i64 n4, .string s4, .slice a4 l4 c4] 24 (0, 0)) from (by simpa using World.alloc_heap_new (((w.alloc (.cells #[.int .i64 k1, .int .i64 n1, .string s1, .slice a1 l1 c1] 24)).alloc (.cells #[.int .i64 k2, .int .i64 n2, .string s2, .slice a2 l2 c2] 24)).alloc (.cells #[.int .i64 k3, .int .i64 n3, .string s3, .slice a3 l3 c3] 24)) (.cells #[.int .i64 k4, .int .i64 n4, .string s4, .slice a4 l4 c4] 24)))
  have HT12 := Lib.hid (Has.below hy HB1.out)
  obtain ⟨p13_0, p13_1, p13_2, p13_3⟩ := tbox_cells HX11.out
  clear hu hv hz hy
  go_enter Try.func8, Try.ntmps8
  go_wp2_with fail
  refine Calls.mono (oshown_at _) ?_
  rintro r w14 ⟨rfl, bw14⟩
  have st15 : Below ((((w.alloc (.cells #[.int .i64 k1, .int .i64 n1, .string s1, .slice a1 l1 c1] 24)).alloc (.cells #[.int .i64 k2, .int .i64 n2, .string s2, .slice a2 l2 c2] 24)).alloc (.cells #[.int .i64 k3, .int .i64 n3, .string s3, .slice a3 l3 c3] 24)).alloc (.cells #[.int .i64 k4, .int .i64 n4, .string s4, .slice a4 l4 c4] 24)).heap.size ((((w.alloc (.cells #[.int .i64 k1, .int .i64 n1, .string s1, .slice a1 l1 c1] 24)).alloc (.cells #[.int .i64 k2, .int .i64 n2, .string s2, .slice a2 l2 c2] 24)).alloc (.cells #[.int .i64 k3, .int .i64 n3, .string s3, .slice a3 l3 c3] 24)).alloc (.cells #[.int .i64 k4, .int .i64 n4, .string s4, .slice a4 l4 c4] 24)) w14 := bw14
  have HB16 := Lib.hid (HB1.out.trans (st15.mono HB1.out.size))
  have HX17 := Lib.hid (tbox_below HX2.out st15)
  have HX18 := Lib.hid (tbox_below HX5.out st15)
  have HX19 := Lib.hid (tbox_below HX8.out st15)
  have HX20 := Lib.hid (tbox_below HX11.out st15)
  have HT21 := Lib.hid (Has.below HT3.out st15)
  have HT22 := Lib.hid (Has.below HT6.out st15)
  have HT23 := Lib.hid (Has.below HT9.out st15)
  have HT24 := Lib.hid (Has.below HT12.out st15)
  clear p4_0 p4_1 p4_2 p4_3
  obtain ⟨p25_0, p25_1, p25_2, p25_3⟩ := tbox_cells HX17.out
  clear p7_0 p7_1 p7_2 p7_3
  obtain ⟨p26_0, p26_1, p26_2, p26_3⟩ := tbox_cells HX18.out
  clear p10_0 p10_1 p10_2 p10_3
  obtain ⟨p27_0, p27_1, p27_2, p27_3⟩ := tbox_cells HX19.out
  clear p13_0 p13_1 p13_2 p13_3
  obtain ⟨p28_0, p28_1, p28_2, p28_3⟩ := tbox_cells HX20.out
  clear st15 HB1 HX2 HX5 HX8 HX11 HT3 HT6 HT9 HT12
  clear bw14
  go_wp2_with fail
  refine Calls.mono (fa _ HT21.out) ?_
  rintro r w29 ⟨rfl, bw29⟩
  have st30 : Below w14.heap.size w14 w29 := bw29
  have HB31 := Lib.hid (HB16.out.trans (st30.mono HB16.out.size))
  have HX32 := Lib.hid (tbox_below HX17.out st30)
  have HX33 := Lib.hid (tbox_below HX18.out st30)
  have HX34 := Lib.hid (tbox_below HX19.out st30)
  have HX35 := Lib.hid (tbox_below HX20.out st30)
  have HT36 := Lib.hid (Has.below HT21.out st30)
  have HT37 := Lib.hid (Has.below HT22.out st30)
  have HT38 := Lib.hid (Has.below HT23.out st30)
  have HT39 := Lib.hid (Has.below HT24.out st30)
  clear p25_0 p25_1 p25_2 p25_3
  obtain ⟨p40_0, p40_1, p40_2, p40_3⟩ := tbox_cells HX32.out
  clear p26_0 p26_1 p26_2 p26_3
  obtain ⟨p41_0, p41_1, p41_2, p41_3⟩ := tbox_cells HX33.out
  clear p27_0 p27_1 p27_2 p27_3
  obtain ⟨p42_0, p42_1, p42_2, p42_3⟩ := tbox_cells HX34.out
  clear p28_0 p28_1 p28_2 p28_3
  obtain ⟨p43_0, p43_1, p43_2, p43_3⟩ := tbox_cells HX35.out
  clear st30 HB16 HX17 HX18 HX19 HX20 HT21 HT22 HT23 HT24
  clear bw29
  cases qa with
  | false =>
    go_wp2_with fail
    go_ret
    exact ⟨rfl, HB31.out⟩
  | true =>
    go_wp2_with fail
    refine Calls.mono (fb _ HT37.out) ?_
    rintro r w44 ⟨rfl, bw44⟩
    have st45 : Below w29.heap.size w29 w44 := bw44
    have HB46 := Lib.hid (HB31.out.trans (st45.mono HB31.out.size))
    have HX47 := Lib.hid (tbox_below HX32.out st45)
    have HX48 := Lib.hid (tbox_below HX33.out st45)
    have HX49 := Lib.hid (tbox_below HX34.out st45)
    have HX50 := Lib.hid (tbox_below HX35.out st45)
    have HT51 := Lib.hid (Has.below HT36.out st45)
    have HT52 := Lib.hid (Has.below HT37.out st45)
    have HT53 := Lib.hid (Has.below HT38.out st45)
    have HT54 := Lib.hid (Has.below HT39.out st45)
    clear p40_0 p40_1 p40_2 p40_3
    obtain ⟨p55_0, p55_1, p55_2, p55_3⟩ := tbox_cells HX47.out
    clear p41_0 p41_1 p41_2 p41_3
    obtain ⟨p56_0, p56_1, p56_2, p56_3⟩ := tbox_cells HX48.out
    clear p42_0 p42_1 p42_2 p42_3
    obtain ⟨p57_0, p57_1, p57_2, p57_3⟩ := tbox_cells HX49.out
    clear p43_0 p43_1 p43_2 p43_3
    obtain ⟨p58_0, p58_1, p58_2, p58_3⟩ := tbox_cells HX50.out
    clear st45 HB31 HX32 HX33 HX34 HX35 HT36 HT37 HT38 HT39
    clear bw44
    cases qb with
    | false =>
      go_wp2_with fail
      go_ret
      exact ⟨rfl, HB46.out⟩
    | true =>
      go_wp2_with fail
      refine Calls.mono (fc _ HT53.out) ?_
      rintro r w59 ⟨rfl, bw59⟩
      have st60 : Below w44.heap.size w44 w59 := bw59
      have HB61 := Lib.hid (HB46.out.trans (st60.mono HB46.out.size))
      have HX62 := Lib.hid (tbox_below HX47.out st60)
      have HX63 := Lib.hid (tbox_below HX48.out st60)
      have HX64 := Lib.hid (tbox_below HX49.out st60)
      have HX65 := Lib.hid (tbox_below HX50.out st60)
      have HT66 := Lib.hid (Has.below HT51.out st60)
      have HT67 := Lib.hid (Has.below HT52.out st60)
      have HT68 := Lib.hid (Has.below HT53.out st60)
      have HT69 := Lib.hid (Has.below HT54.out st60)
      clear p55_0 p55_1 p55_2 p55_3
      obtain ⟨p70_0, p70_1, p70_2, p70_3⟩ := tbox_cells HX62.out
      clear p56_0 p56_1 p56_2 p56_3
      obtain ⟨p71_0, p71_1, p71_2, p71_3⟩ := tbox_cells HX63.out
      clear p57_0 p57_1 p57_2 p57_3
      obtain ⟨p72_0, p72_1, p72_2, p72_3⟩ := tbox_cells HX64.out
      clear p58_0 p58_1 p58_2 p58_3
      obtain ⟨p73_0, p73_1, p73_2, p73_3⟩ := tbox_cells HX65.out
      clear st60 HB46 HX47 HX48 HX49 HX50 HT51 HT52 HT53 HT54
      clear bw59
      cases qc with
      | false =>
        go_wp2_with fail
        go_ret
        exact ⟨rfl, HB61.out⟩
      | true =>
        go_wp2_with fail
        refine Calls.mono (fd _ HT69.out) ?_
        rintro r w74 ⟨rfl, bw74⟩
        have st75 : Below w59.heap.size w59 w74 := bw74
        have HB76 := Lib.hid (HB61.out.trans (st75.mono HB61.out.size))
        have HX77 := Lib.hid (tbox_below HX62.out st75)
        have HX78 := Lib.hid (tbox_below HX63.out st75)
        have HX79 := Lib.hid (tbox_below HX64.out st75)
        have HX80 := Lib.hid (tbox_below HX65.out st75)
        have HT81 := Lib.hid (Has.below HT66.out st75)
        have HT82 := Lib.hid (Has.below HT67.out st75)
        have HT83 := Lib.hid (Has.below HT68.out st75)
        have HT84 := Lib.hid (Has.below HT69.out st75)
        clear p70_0 p70_1 p70_2 p70_3
        obtain ⟨p85_0, p85_1, p85_2, p85_3⟩ := tbox_cells HX77.out
        clear p71_0 p71_1 p71_2 p71_3
        obtain ⟨p86_0, p86_1, p86_2, p86_3⟩ := tbox_cells HX78.out
        clear p72_0 p72_1 p72_2 p72_3
        obtain ⟨p87_0, p87_1, p87_2, p87_3⟩ := tbox_cells HX79.out
        clear p73_0 p73_1 p73_2 p73_3
        obtain ⟨p88_0, p88_1, p88_2, p88_3⟩ := tbox_cells HX80.out
        clear st75 HB61 HX62 HX63 HX64 HX65 HT66 HT67 HT68 HT69
        clear bw74
        cases qd with
        | false =>
          go_wp2_with fail
          go_ret
          exact ⟨rfl, HB76.out⟩
        | true =>
          have hA := Lib.hid (And.intro (of_decide_eq_true Hqa.out) (And.intro (of_decide_eq_true Hqb.out) (And.intro (of_decide_eq_true Hqc.out) (of_decide_eq_true Hqd.out))))
          go_wp2_with fail
          refine Calls.mono (cAB _ _ _ HT81.out HT82.out) ?_
          rintro r w89 ⟨rfl, bw89⟩
          have st90 : Below w74.heap.size w74 w89 := bw89
          have HB91 := Lib.hid (HB76.out.trans (st90.mono HB76.out.size))
          have HX92 := Lib.hid (tbox_below HX77.out st90)
          have HX93 := Lib.hid (tbox_below HX78.out st90)
          have HX94 := Lib.hid (tbox_below HX79.out st90)
          have HX95 := Lib.hid (tbox_below HX80.out st90)
          have HT96 := Lib.hid (Has.below HT81.out st90)
          have HT97 := Lib.hid (Has.below HT82.out st90)
          have HT98 := Lib.hid (Has.below HT83.out st90)
          have HT99 := Lib.hid (Has.below HT84.out st90)
          clear p85_0 p85_1 p85_2 p85_3
          obtain ⟨p100_0, p100_1, p100_2, p100_3⟩ := tbox_cells HX92.out
          clear p86_0 p86_1 p86_2 p86_3
          obtain ⟨p101_0, p101_1, p101_2, p101_3⟩ := tbox_cells HX93.out
          clear p87_0 p87_1 p87_2 p87_3
          obtain ⟨p102_0, p102_1, p102_2, p102_3⟩ := tbox_cells HX94.out
          clear p88_0 p88_1 p88_2 p88_3
          obtain ⟨p103_0, p103_1, p103_2, p103_3⟩ := tbox_cells HX95.out
          clear st90 HB76 HX77 HX78 HX79 HX80 HT81 HT82 HT83 HT84
          clear bw89
          obtain ⟨wz, hwz0⟩ : ∃ wz, wz = w89 := ⟨_, rfl⟩
          have hwz := Lib.hid hwz0
          clear hwz0
          have y0 : wz.heap[w.heap.size]? = some (.cells #[.int .i64 k1, .int .i64 n1, .string s1, .slice a1 l1 c1] 24 (0, 0)) := by rw [hwz.out]; exact HX92.out
          have lt0 := (Array.getElem?_eq_some_iff.1 y0).1
          obtain ⟨g0_0, g0_1, g0_2, g0_3⟩ := tbox_cells y0
          have y1 : wz.heap[w.heap.size + 1]? = some (.cells #[.int .i64 k2, .int .i64 n2, .string s2, .slice a2 l2 c2] 24 (0, 0)) := by rw [hwz.out]; exact HX93.out
          have lt1 := (Array.getElem?_eq_some_iff.1 y1).1
          obtain ⟨g1_0, g1_1, g1_2, g1_3⟩ := tbox_cells y1
          have y2 : wz.heap[w.heap.size + 1 + 1]? = some (.cells #[.int .i64 k3, .int .i64 n3, .string s3, .slice a3 l3 c3] 24 (0, 0)) := by rw [hwz.out]; exact HX94.out
          have lt2 := (Array.getElem?_eq_some_iff.1 y2).1
          obtain ⟨g2_0, g2_1, g2_2, g2_3⟩ := tbox_cells y2
          have y3 : wz.heap[w.heap.size + 1 + 1 + 1]? = some (.cells #[.int .i64 k4, .int .i64 n4, .string s4, .slice a4 l4 c4] 24 (0, 0)) := by rw [hwz.out]; exact HX95.out
          have lt3 := (Array.getElem?_eq_some_iff.1 y3).1
          obtain ⟨g3_0, g3_1, g3_2, g3_3⟩ := tbox_cells y3
          have z1 : Has wz (.agg #[.int .i64 k1, .int .i64 n1, .string s1, .slice a1 l1 c1]) A := by rw [hwz.out]; exact HT96.out
          have z2 : Has wz (.agg #[.int .i64 k2, .int .i64 n2, .string s2, .slice a2 l2 c2]) B := by rw [hwz.out]; exact HT97.out
          have z3 : Has wz (.agg #[.int .i64 k3, .int .i64 n3, .string s3, .slice a3 l3 c3]) C := by rw [hwz.out]; exact HT98.out
          have z4 : Has wz (.agg #[.int .i64 k4, .int .i64 n4, .string s4, .slice a4 l4 c4]) D := by rw [hwz.out]; exact HT99.out
          have HZ := Lib.hid (show Below w.heap.size w wz by rw [hwz.out]; exact HB91.out)
          have HS : ∀ w', Below wz.heap.size wz w' → (w'.cell? ⟨w.heap.size, 0, none⟩ = some (.int .i64 k1) ∧ w'.cell? ⟨w.heap.size, 1, none⟩ = some (.int .i64 n1) ∧ w'.cell? ⟨w.heap.size, 2, none⟩ = some (.string s1) ∧ w'.cell? ⟨w.heap.size, 3, none⟩ = some (.slice a1 l1 c1) ∧ w'.cell? ⟨w.heap.size + 1, 0, none⟩ = some (.int .i64 k2) ∧ w'.cell? ⟨w.heap.size + 1, 1, none⟩ = some (.int .i64 n2) ∧ w'.cell? ⟨w.heap.size + 1, 2, none⟩ = some (.string s2) ∧ w'.cell? ⟨w.heap.size + 1, 3, none⟩ = some (.slice a2 l2 c2) ∧ w'.cell? ⟨w.heap.size + 1 + 1, 0, none⟩ = some (.int .i64 k3) ∧ w'.cell? ⟨w.heap.size + 1 + 1, 1, none⟩ = some (.int .i64 n3) ∧ w'.cell? ⟨w.heap.size + 1 + 1, 2, none⟩ = some (.string s3) ∧ w'.cell? ⟨w.heap.size + 1 + 1, 3, none⟩ = some (.slice a3 l3 c3) ∧ w'.cell? ⟨w.heap.size + 1 + 1 + 1, 0, none⟩ = some (.int .i64 k4) ∧ w'.cell? ⟨w.heap.size + 1 + 1 + 1, 1, none⟩ = some (.int .i64 n4) ∧ w'.cell? ⟨w.heap.size + 1 + 1 + 1, 2, none⟩ = some (.string s4) ∧ w'.cell? ⟨w.heap.size + 1 + 1 + 1, 3, none⟩ = some (.slice a4 l4 c4) ∧ Below wz.heap.size wz w') := fun w' hb =>
            ⟨(hb.cell (p := ⟨_, _, none⟩) lt0).trans g0_0, (hb.cell (p := ⟨_, _, none⟩) lt0).trans g0_1, (hb.cell (p := ⟨_, _, none⟩) lt0).trans g0_2, (hb.cell (p := ⟨_, _, none⟩) lt0).trans g0_3, (hb.cell (p := ⟨_, _, none⟩) lt1).trans g1_0, (hb.cell (p := ⟨_, _, none⟩) lt1).trans g1_1, (hb.cell (p := ⟨_, _, none⟩) lt1).trans g1_2, (hb.cell (p := ⟨_, _, none⟩) lt1).trans g1_3, (hb.cell (p := ⟨_, _, none⟩) lt2).trans g2_0, (hb.cell (p := ⟨_, _, none⟩) lt2).trans g2_1, (hb.cell (p := ⟨_, _, none⟩) lt2).trans g2_2, (hb.cell (p := ⟨_, _, none⟩) lt2).trans g2_3, (hb.cell (p := ⟨_, _, none⟩) lt3).trans g3_0, (hb.cell (p := ⟨_, _, none⟩) lt3).trans g3_1, (hb.cell (p := ⟨_, _, none⟩) lt3).trans g3_2, (hb.cell (p := ⟨_, _, none⟩) lt3).trans g3_3, hb⟩
          have oAC := Lib.hid (show A.size + C.size ≤ 1000000000 by have := hA.out; omega)
          have oBD := Lib.hid (show B.size + D.size ≤ 1000000000 by have := hA.out; omega)
          have oCA := Lib.hid (show C.size + A.size ≤ 1000000000 by have := hA.out; omega)
          have oCB := Lib.hid (show C.size + B.size ≤ 1000000000 by have := hA.out; omega)
          have pAC := Lib.hid (show (pairF A C).size ≤ 1000000000000 by have := hA.out; rw [pairF_size]; omega)
          have pBD := Lib.hid (show (pairF B D).size ≤ 1000000000000 by have := hA.out; rw [pairF_size]; omega)
          have pCA := Lib.hid (show (pairF C A).size ≤ 1000000000000 by have := hA.out; rw [pairF_size]; omega)
          have pCB := Lib.hid (show (pairF C B).size ≤ 1000000000000 by have := hA.out; rw [pairF_size]; omega)
          clear y0 lt0 g0_0 g0_1 g0_2 g0_3 y1 lt1 g1_0 g1_1 g1_2 g1_3 y2 lt2 g2_0 g2_1 g2_2 g2_3 y3 lt3 g3_0 g3_1 g3_2 g3_3 fa fb fc fd cAB
          by_cases hx : cx = 0
          · have hxc : (cx == 0) = true := by simpa using hx
            have HX := Lib.hid hx
            clear hx
            have cc1 : ∀ (u v : Value) (w' : World), Has w' u (pairF A C) → Has w' v (pairF B D) → Calls Try.prog 12 #[u, v] w' (Gets w' (.int .i64 cy)) := fun u v w' h1 h2 => by
              have h := compare_at u v _ _ w' h1 h2 pAC.out pBD.out
              rwa [pair_cmp, Hcx.out, HX.out, lx_same, Hcy.out] at h
            have cc2 : ∀ (u v : Value) (w' : World), Has w' u C → Has w' v D → Calls Try.prog 12 #[u, v] w' (Gets w' (.int .i64 cy)) := fun u v w' h1 h2 => by rw [← Hcy.out]; exact compare_at u v C D w' h1 h2 Hs.out.2.2.1 Hs.out.2.2.2
            go_upto_region 6 with fail
            rw [← hwz.out]
            go_region_held3 (fun w' => w'.cell? ⟨w.heap.size, 0, none⟩ = some (.int .i64 k1) ∧ w'.cell? ⟨w.heap.size, 1, none⟩ = some (.int .i64 n1) ∧ w'.cell? ⟨w.heap.size, 2, none⟩ = some (.string s1) ∧ w'.cell? ⟨w.heap.size, 3, none⟩ = some (.slice a1 l1 c1) ∧ w'.cell? ⟨w.heap.size + 1, 0, none⟩ = some (.int .i64 k2) ∧ w'.cell? ⟨w.heap.size + 1, 1, none⟩ = some (.int .i64 n2) ∧ w'.cell? ⟨w.heap.size + 1, 2, none⟩ = some (.string s2) ∧ w'.cell? ⟨w.heap.size + 1, 3, none⟩ = some (.slice a2 l2 c2) ∧ w'.cell? ⟨w.heap.size + 1 + 1, 0, none⟩ = some (.int .i64 k3) ∧ w'.cell? ⟨w.heap.size + 1 + 1, 1, none⟩ = some (.int .i64 n3) ∧ w'.cell? ⟨w.heap.size + 1 + 1, 2, none⟩ = some (.string s3) ∧ w'.cell? ⟨w.heap.size + 1 + 1, 3, none⟩ = some (.slice a3 l3 c3) ∧ w'.cell? ⟨w.heap.size + 1 + 1 + 1, 0, none⟩ = some (.int .i64 k4) ∧ w'.cell? ⟨w.heap.size + 1 + 1 + 1, 1, none⟩ = some (.int .i64 n4) ∧ w'.cell? ⟨w.heap.size + 1 + 1 + 1, 2, none⟩ = some (.string s4) ∧ w'.cell? ⟨w.heap.size + 1 + 1 + 1, 3, none⟩ = some (.slice a4 l4 c4) ∧ Below wz.heap.size wz w')
              (exact HS _ (by (repeat (first | with_reducible exact Below.refl _ _ | with_reducible apply below_al | with_reducible apply below_dr | ((with_reducible apply below_tr); (with_reducible assumption))))))
              (first
                    | (go_at_call 12; (have hq := b7; clear hq); (with_reducible refine Calls.mono (cc2 _ _ _ ?_ ?_) ?_); ((with_reducible refine Has.below z3 ?_); (repeat (first | with_reducible exact Below.refl _ _ | with_reducible apply below_al | with_reducible apply below_dr | ((with_reducible apply below_tr); (with_reducible assumption))))); ((with_reducible refine Has.below z4 ?_); (repeat (first | with_reducible exact Below.refl _ _ | with_reducible apply below_al | with_reducible apply below_dr | ((with_reducible apply below_tr); (with_reducible assumption))))); rintro r w8 ⟨rfl, b8⟩)
                    | (go_at_call 12; (have hq := h6; clear hq); (with_reducible refine Calls.mono (cc1 _ _ _ ?_ ?_) ?_); ((with_reducible refine Has.below h5 ?_); (repeat (first | with_reducible exact Below.refl _ _ | with_reducible apply below_al | with_reducible apply below_dr | ((with_reducible apply below_tr); (with_reducible assumption))))); ((with_reducible refine Has.below h6 ?_); (repeat (first | with_reducible exact Below.refl _ _ | with_reducible apply below_al | with_reducible apply below_dr | ((with_reducible apply below_tr); (with_reducible assumption))))); rintro r w7 ⟨rfl, b7⟩)
                    | (go_at_call 27; (have hq := h5; clear hq); (with_reducible refine Calls.mono (pairF_at _ B D _ ?_ oBD.out) ?_); (first | (with_reducible refine HasTs.below (two_terms (k1 := k2) (n1 := n2) (s1 := s2) (a1 := a2) (l1 := l2) (c1 := c2) (k2 := k4) (n2 := n4) (s2 := s4) (a2 := a4) (l2 := l4) (c2 := c4) ?_ ?_) ?_) | (with_reducible refine two_at (X := wz.alloc (.cells #[.int .i64 k1, .int .i64 n1, .string s1, .slice a1 l1 c1, .int .i64 k3, .int .i64 n3, .string s3, .slice a3 l3 c3] 24)) (k1 := k2) (n1 := n2) (s1 := s2) (a1 := a2) (l1 := l2) (c1 := c2) (k2 := k4) (n2 := n4) (s2 := s4) (a2 := a4) (l2 := l4) (c2 := c4) ?_ ?_ ?_ ?_; focus (simp; done))); ((with_reducible refine Has.below z2 ?_); (repeat (first | with_reducible exact Below.refl _ _ | with_reducible apply below_al | with_reducible apply below_dr | ((with_reducible apply below_tr); (with_reducible assumption))))); ((with_reducible refine Has.below z4 ?_); (repeat (first | with_reducible exact Below.refl _ _ | with_reducible apply below_al | with_reducible apply below_dr | ((with_reducible apply below_tr); (with_reducible assumption))))); ((repeat (first | with_reducible exact Below.refl _ _ | with_reducible apply below_al | with_reducible apply below_dr | ((with_reducible apply below_tr); (with_reducible assumption))))); intro r w6 h6; obtain ⟨k6, n6, s6, a6, l6, c6, rfl, h6, b6⟩ := h6.has)
                    | (go_at_call 27; (with_reducible refine Calls.mono (pairF_at _ A C _ ?_ oAC.out) ?_); (first | (with_reducible refine HasTs.below (two_terms (k1 := k1) (n1 := n1) (s1 := s1) (a1 := a1) (l1 := l1) (c1 := c1) (k2 := k3) (n2 := n3) (s2 := s3) (a2 := a3) (l2 := l3) (c2 := c3) ?_ ?_) ?_) | (with_reducible refine two_at (X := wz.alloc (.cells #[.int .i64 k2, .int .i64 n2, .string s2, .slice a2 l2 c2, .int .i64 k4, .int .i64 n4, .string s4, .slice a4 l4 c4] 24)) (k1 := k1) (n1 := n1) (s1 := s1) (a1 := a1) (l1 := l1) (c1 := c1) (k2 := k3) (n2 := n3) (s2 := s3) (a2 := a3) (l2 := l3) (c2 := c3) ?_ ?_ ?_ ?_; focus (simp; done))); ((with_reducible refine Has.below z1 ?_); (repeat (first | with_reducible exact Below.refl _ _ | with_reducible apply below_al | with_reducible apply below_dr | ((with_reducible apply below_tr); (with_reducible assumption))))); ((with_reducible refine Has.below z3 ?_); (repeat (first | with_reducible exact Below.refl _ _ | with_reducible apply below_al | with_reducible apply below_dr | ((with_reducible apply below_tr); (with_reducible assumption))))); ((repeat (first | with_reducible exact Below.refl _ _ | with_reducible apply below_al | with_reducible apply below_dr | ((with_reducible apply below_tr); (with_reducible assumption))))); intro r w5 h5; obtain ⟨k5, n5, s5, a5, l5, c5, rfl, h5, b5⟩ := h5.has))
            all_goals
              go_wp2_with fail
              go_ret
              exact ⟨rfl, below_tr (by (repeat (first | with_reducible exact Below.refl _ _ | with_reducible apply below_al | with_reducible apply below_dr | ((with_reducible apply below_tr); (with_reducible assumption))))) HZ.out⟩
          · have hxc : (cx == 0) = false := by simpa using hx
            have hlx : lx cx cy = cx := by unfold lx; rw [if_neg hx]
            have HX := Lib.hid hlx
            clear hx hlx
            have cc1 : ∀ (u v : Value) (w' : World), Has w' u (pairF A C) → Has w' v (pairF B D) → Calls Try.prog 12 #[u, v] w' (Gets w' (.int .i64 cx)) := fun u v w' h1 h2 => by
              have h := compare_at u v _ _ w' h1 h2 pAC.out pBD.out
              rwa [pair_cmp, Hcx.out, Hcy.out, HX.out] at h
            have cc2 : ∀ (u v : Value) (w' : World), Has w' u (pairF C A) → Has w' v (pairF C B) → Calls Try.prog 12 #[u, v] w' (Gets w' (.int .i64 cx)) := fun u v w' h1 h2 => by
              have h := compare_at u v _ _ w' h1 h2 pCA.out pCB.out
              rwa [pair_cmp, Tm.cmp_self, lx_same, Hcx.out] at h
            go_upto_region 7 with fail
            rw [← hwz.out]
            go_region_held3 (fun w' => w'.cell? ⟨w.heap.size, 0, none⟩ = some (.int .i64 k1) ∧ w'.cell? ⟨w.heap.size, 1, none⟩ = some (.int .i64 n1) ∧ w'.cell? ⟨w.heap.size, 2, none⟩ = some (.string s1) ∧ w'.cell? ⟨w.heap.size, 3, none⟩ = some (.slice a1 l1 c1) ∧ w'.cell? ⟨w.heap.size + 1, 0, none⟩ = some (.int .i64 k2) ∧ w'.cell? ⟨w.heap.size + 1, 1, none⟩ = some (.int .i64 n2) ∧ w'.cell? ⟨w.heap.size + 1, 2, none⟩ = some (.string s2) ∧ w'.cell? ⟨w.heap.size + 1, 3, none⟩ = some (.slice a2 l2 c2) ∧ w'.cell? ⟨w.heap.size + 1 + 1, 0, none⟩ = some (.int .i64 k3) ∧ w'.cell? ⟨w.heap.size + 1 + 1, 1, none⟩ = some (.int .i64 n3) ∧ w'.cell? ⟨w.heap.size + 1 + 1, 2, none⟩ = some (.string s3) ∧ w'.cell? ⟨w.heap.size + 1 + 1, 3, none⟩ = some (.slice a3 l3 c3) ∧ w'.cell? ⟨w.heap.size + 1 + 1 + 1, 0, none⟩ = some (.int .i64 k4) ∧ w'.cell? ⟨w.heap.size + 1 + 1 + 1, 1, none⟩ = some (.int .i64 n4) ∧ w'.cell? ⟨w.heap.size + 1 + 1 + 1, 2, none⟩ = some (.string s4) ∧ w'.cell? ⟨w.heap.size + 1 + 1 + 1, 3, none⟩ = some (.slice a4 l4 c4) ∧ Below wz.heap.size wz w')
              (exact HS _ (by (repeat (first | with_reducible exact Below.refl _ _ | with_reducible apply below_al | with_reducible apply below_dr | ((with_reducible apply below_tr); (with_reducible assumption))))))
              (first
                    | (go_at_call 12; (have hq := h9; clear hq); (with_reducible refine Calls.mono (cc2 _ _ _ ?_ ?_) ?_); ((with_reducible refine Has.below h8 ?_); (repeat (first | with_reducible exact Below.refl _ _ | with_reducible apply below_al | with_reducible apply below_dr | ((with_reducible apply below_tr); (with_reducible assumption))))); ((with_reducible refine Has.below h9 ?_); (repeat (first | with_reducible exact Below.refl _ _ | with_reducible apply below_al | with_reducible apply below_dr | ((with_reducible apply below_tr); (with_reducible assumption))))); rintro r w10 ⟨rfl, b10⟩)
                    | (go_at_call 27; (have hq := h8; clear hq); (with_reducible refine Calls.mono (pairF_at _ C B _ ?_ oCB.out) ?_); (first | (with_reducible refine HasTs.below (two_terms (k1 := k3) (n1 := n3) (s1 := s3) (a1 := a3) (l1 := l3) (c1 := c3) (k2 := k2) (n2 := n2) (s2 := s2) (a2 := a2) (l2 := l2) (c2 := c2) ?_ ?_) ?_) | (with_reducible refine two_at (X := w7.alloc (.cells #[.int .i64 k3, .int .i64 n3, .string s3, .slice a3 l3 c3, .int .i64 k1, .int .i64 n1, .string s1, .slice a1 l1 c1] 24)) (k1 := k3) (n1 := n3) (s1 := s3) (a1 := a3) (l1 := l3) (c1 := c3) (k2 := k2) (n2 := n2) (s2 := s2) (a2 := a2) (l2 := l2) (c2 := c2) ?_ ?_ ?_ ?_; focus (simp; done))); ((with_reducible refine Has.below z3 ?_); (repeat (first | with_reducible exact Below.refl _ _ | with_reducible apply below_al | with_reducible apply below_dr | ((with_reducible apply below_tr); (with_reducible assumption))))); ((with_reducible refine Has.below z2 ?_); (repeat (first | with_reducible exact Below.refl _ _ | with_reducible apply below_al | with_reducible apply below_dr | ((with_reducible apply below_tr); (with_reducible assumption))))); ((repeat (first | with_reducible exact Below.refl _ _ | with_reducible apply below_al | with_reducible apply below_dr | ((with_reducible apply below_tr); (with_reducible assumption))))); intro r w9 h9; obtain ⟨k9, n9, s9, a9, l9, c9, rfl, h9, b9⟩ := h9.has)
                    | (go_at_call 27; (have hq := b7; clear hq); (with_reducible refine Calls.mono (pairF_at _ C A _ ?_ oCA.out) ?_); (first | (with_reducible refine HasTs.below (two_terms (k1 := k3) (n1 := n3) (s1 := s3) (a1 := a3) (l1 := l3) (c1 := c3) (k2 := k1) (n2 := n1) (s2 := s1) (a2 := a1) (l2 := l1) (c2 := c1) ?_ ?_) ?_) | (with_reducible refine two_at (X := w7.alloc (.cells #[.int .i64 k3, .int .i64 n3, .string s3, .slice a3 l3 c3, .int .i64 k2, .int .i64 n2, .string s2, .slice a2 l2 c2] 24)) (k1 := k3) (n1 := n3) (s1 := s3) (a1 := a3) (l1 := l3) (c1 := c3) (k2 := k1) (n2 := n1) (s2 := s1) (a2 := a1) (l2 := l1) (c2 := c1) ?_ ?_ ?_ ?_; focus (simp; done))); ((with_reducible refine Has.below z3 ?_); (repeat (first | with_reducible exact Below.refl _ _ | with_reducible apply below_al | with_reducible apply below_dr | ((with_reducible apply below_tr); (with_reducible assumption))))); ((with_reducible refine Has.below z1 ?_); (repeat (first | with_reducible exact Below.refl _ _ | with_reducible apply below_al | with_reducible apply below_dr | ((with_reducible apply below_tr); (with_reducible assumption))))); ((repeat (first | with_reducible exact Below.refl _ _ | with_reducible apply below_al | with_reducible apply below_dr | ((with_reducible apply below_tr); (with_reducible assumption))))); intro r w8 h8; obtain ⟨k8, n8, s8, a8, l8, c8, rfl, h8, b8⟩ := h8.has)
                    | (go_at_call 12; (have hq := h6; clear hq); (with_reducible refine Calls.mono (cc1 _ _ _ ?_ ?_) ?_); ((with_reducible refine Has.below h5 ?_); (repeat (first | with_reducible exact Below.refl _ _ | with_reducible apply below_al | with_reducible apply below_dr | ((with_reducible apply below_tr); (with_reducible assumption))))); ((with_reducible refine Has.below h6 ?_); (repeat (first | with_reducible exact Below.refl _ _ | with_reducible apply below_al | with_reducible apply below_dr | ((with_reducible apply below_tr); (with_reducible assumption))))); rintro r w7 ⟨rfl, b7⟩)
                    | (go_at_call 27; (have hq := h5; clear hq); (with_reducible refine Calls.mono (pairF_at _ B D _ ?_ oBD.out) ?_); (first | (with_reducible refine HasTs.below (two_terms (k1 := k2) (n1 := n2) (s1 := s2) (a1 := a2) (l1 := l2) (c1 := c2) (k2 := k4) (n2 := n4) (s2 := s4) (a2 := a4) (l2 := l4) (c2 := c4) ?_ ?_) ?_) | (with_reducible refine two_at (X := wz.alloc (.cells #[.int .i64 k1, .int .i64 n1, .string s1, .slice a1 l1 c1, .int .i64 k3, .int .i64 n3, .string s3, .slice a3 l3 c3] 24)) (k1 := k2) (n1 := n2) (s1 := s2) (a1 := a2) (l1 := l2) (c1 := c2) (k2 := k4) (n2 := n4) (s2 := s4) (a2 := a4) (l2 := l4) (c2 := c4) ?_ ?_ ?_ ?_; focus (simp; done))); ((with_reducible refine Has.below z2 ?_); (repeat (first | with_reducible exact Below.refl _ _ | with_reducible apply below_al | with_reducible apply below_dr | ((with_reducible apply below_tr); (with_reducible assumption))))); ((with_reducible refine Has.below z4 ?_); (repeat (first | with_reducible exact Below.refl _ _ | with_reducible apply below_al | with_reducible apply below_dr | ((with_reducible apply below_tr); (with_reducible assumption))))); ((repeat (first | with_reducible exact Below.refl _ _ | with_reducible apply below_al | with_reducible apply below_dr | ((with_reducible apply below_tr); (with_reducible assumption))))); intro r w6 h6; obtain ⟨k6, n6, s6, a6, l6, c6, rfl, h6, b6⟩ := h6.has)
                    | (go_at_call 27; (with_reducible refine Calls.mono (pairF_at _ A C _ ?_ oAC.out) ?_); (first | (with_reducible refine HasTs.below (two_terms (k1 := k1) (n1 := n1) (s1 := s1) (a1 := a1) (l1 := l1) (c1 := c1) (k2 := k3) (n2 := n3) (s2 := s3) (a2 := a3) (l2 := l3) (c2 := c3) ?_ ?_) ?_) | (with_reducible refine two_at (X := wz.alloc (.cells #[.int .i64 k2, .int .i64 n2, .string s2, .slice a2 l2 c2, .int .i64 k4, .int .i64 n4, .string s4, .slice a4 l4 c4] 24)) (k1 := k1) (n1 := n1) (s1 := s1) (a1 := a1) (l1 := l1) (c1 := c1) (k2 := k3) (n2 := n3) (s2 := s3) (a2 := a3) (l2 := l3) (c2 := c3) ?_ ?_ ?_ ?_; focus (simp; done))); ((with_reducible refine Has.below z1 ?_); (repeat (first | with_reducible exact Below.refl _ _ | with_reducible apply below_al | with_reducible apply below_dr | ((with_reducible apply below_tr); (with_reducible assumption))))); ((with_reducible refine Has.below z3 ?_); (repeat (first | with_reducible exact Below.refl _ _ | with_reducible apply below_al | with_reducible apply below_dr | ((with_reducible apply below_tr); (with_reducible assumption))))); ((repeat (first | with_reducible exact Below.refl _ _ | with_reducible apply below_al | with_reducible apply below_dr | ((with_reducible apply below_tr); (with_reducible assumption))))); intro r w5 h5; obtain ⟨k5, n5, s5, a5, l5, c5, rfl, h5, b5⟩ := h5.has))
            all_goals
              go_wp2_with fail
              go_ret
              exact ⟨rfl, below_tr (by (repeat (first | with_reducible exact Below.refl _ _ | with_reducible apply below_al | with_reducible apply below_dr | ((with_reducible apply below_tr); (with_reducible assumption))))) HZ.out⟩

end Go.Proofs.Ytcicggpcmmnohaa
