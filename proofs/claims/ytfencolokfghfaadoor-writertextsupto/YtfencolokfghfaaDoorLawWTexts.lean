/-
  WriterTexts: any term's text, and any variables' values, are the document's.
-/
import Derived.Test.YtfencolokfghfaaDoorRAns
import Derived.Test.YtfencolokfghfaaDoorLawWAnsw
import Derived.Test.YtfencolokfghfaaDoorFam
namespace Go.Proofs.YtfencolokfghfaaDoor
open Go.Shelf Go.RowKit Go.Sort
set_option linter.unusedVariables false
set_option linter.unnecessarySimpa false

set_option maxRecDepth 100000 in
set_option maxHeartbeats 4000000 in
theorem texts_at (T : Tm) (v : Value) (ns : List ByteArray) (vs : List Tm) (a0 : Option Addr) (cap0 : Nat) (a1 : Option Addr) (cap1 : Nat) (w : World) (hv : Has w v T) (hbT : T.byt + T.size ≤ 1048576) (hns : StrIn w a0 ns) (hc0 : ns.length ≤ cap0) (hcm : cap0 ≤ maxLen) (ha0 : a0 = none → cap0 = 0) (hn : ∀ s ∈ ns, s.size ≤ 1048576)
    (hvs : HasTs w (.slice a1 vs.length cap1) vs) (hvb : Tm.byts vs + Tm.sizes vs ≤ 1048576) (hT : TabP w) : Calls Tryd.prog 3 #[v, .slice a0 ns.length cap0, .slice a1 vs.length cap1] w (Gets w (.bool true)) := by
  have hsh := fun W (h : Below w.heap.size w W) => shown8_at W (hT.later h)
  have hf1 := fun W (h : Below w.heap.size w W) => few8_at T v W (hv.below h) (by omega)
  have hx1 := fun (c1 : T.size ≤ 1000) W (h : Below w.heap.size w W) => text_at T v W (hv.below h) (hT.later h) (by omega) (by omega)
  have hx2 := fun (c1 : T.size ≤ 1000) W (h : Below w.heap.size w W) => rtext_ok T v W (hv.below h) (by omega) (by omega)
  have hnl : ns.length ≤ 9223372036854775807 := by unfold maxLen at hcm; omega
  have hvt : ∀ t ∈ vs, t.byt + t.size ≤ 1048576 := fun t ht => by
    have h1 := Tm.byt_le ht
    have h2 := Tm.size_le_sizes ht
    omega
  have hy1 := fun (c2 : ∀ t ∈ vs, t.size ≤ 1000) (c3 : vs.length ≤ 20) W (h : Below w.heap.size w W) => answer_at ns vs a0 cap0 a1 cap1 W (hns.below h) hc0 hcm ha0 (hvs.below h) (hT.later h) (fun t ht => by have := hvt t ht; have := c2 t ht; omega) (by omega) hnl (fun s hs => by have := hn s hs; omega)
  have hy2 := fun (c2 : ∀ t ∈ vs, t.size ≤ 1000) (c3 : vs.length ≤ 20) W (h : Below w.heap.size w W) => ranswer_at ns vs a0 cap0 a1 cap1 W (hns.below h) (hvs.below h) (fun t ht => by have := hvt t ht; have := c2 t ht; omega) (by omega) hnl (fun s hs => by have := hn s hs; omega)
  have hvlen : vs.length ≤ 1048576 := by have := Tm.length_le_sizes vs; omega
  obtain ⟨k, n, s, a, l, c, ks, rfl, e, -⟩ := hv.form
  clear e hbT hvb
  obtain ⟨w2, hw2⟩ : ∃ w2, w2 = w.alloc (.cells #[.int .i64 k, .int .i64 n, .string s, .slice a l c] 24) := ⟨_, rfl⟩
  have hbw : Below w.heap.size w w2 := by rw [hw2]; exact bel_al (Below.refl _ _) _
  have xA : w2.heap[w.heap.size]? = some (.cells #[.int .i64 k, .int .i64 n, .string s, .slice a l c] 24 (0, 0)) := by rw [hw2]; exact alloc_new _ _
  have lA := (Array.getElem?_eq_some_iff.1 xA).1
  have HSH := Lib.hid hsh
  have HV := Lib.hid (And.intro hv (And.intro hvs hvt))
  clear hsh hv hvs hvt
  by_cases c1 : T.size ≤ 1000
  · simp only [decide_eq_true c1] at hf1
    have HF1 := Lib.hid hf1
    have HX1 := Lib.hid (hx1 c1); have HX2 := Lib.hid (hx2 c1)
    clear hf1 hx1 hx2
    by_cases c3 : vs.length ≤ 20
    · have h20 : ¬ ((20 : Int) < (vs.length : Int)) := by omega
      have HY := Lib.hid (And.intro hy1 hy2)
      clear hy1 hy2
      go_enter Tryd.func3, Tryd.ntmps3
      go_upto_region 1 with fail
      rw [← hw2]
      clear hw2
      have hb0 := Below.refl w2.heap.size w2
      go_wp2_with (first
        | (go_at_call 5; (with_reducible refine (HSH.out _ (bel hbw hb0)).mono ?_); rintro e W1 ⟨rfl, hb1'⟩; have hb1 := bel hb0 hb1'; obtain ⟨p0, p1, p2, p3⟩ := tbox_cells ((hb1.block _ lA).trans xA))
        | (go_at_call 6; (with_reducible refine (HF1.out _ (bel hbw hb1)).mono ?_); rintro e W2 ⟨rfl, hb2'⟩; have hb2 := bel hb1 hb2'; obtain ⟨r0, r1, r2, r3⟩ := tbox_cells ((hb2.block _ lA).trans xA)))
      go_loopg [8] vs.length (fun g z wr => ∃ i : Nat, z = .int .i64 i ∧ g + i = vs.length ∧ (∀ t ∈ vs.take i, t.size ≤ 1000) ∧ Below w2.heap.size w2 wr)
      case atStart => exact ⟨0, rfl, by omega, fun t ht => by simp at ht, hb2⟩
      case round =>
        obtain ⟨i, rfl, hgi, hal, hbr⟩ := hrel
        have hwr := bel hbw hbr
        have HAL := Lib.hid hal
        clear hal
        cases gk with
        | zero =>
          have hii : ¬ ((i : Int) < (vs.length : Int)) := by omega
          have c2 : ∀ t ∈ vs, t.size ≤ 1000 := fun t ht => HAL.out t (by rw [List.take_of_length_le (by omega)]; exact ht)
          have HY1 := Lib.hid (HY.out.1 c2 c3)
          have HY2 := Lib.hid (HY.out.2 c2 c3)
          clear c2 HAL HY p0 p1 p2 p3 r0 r1 r2 r3
          go_wp2_with fail
          obtain ⟨I, inst, F, n0, hF0, hFb, hFc⟩ := later_family wr
          have K0 := fun i => (tbox_cells (((bel hbr (hFb i)).block _ lA).trans xA)).1
          have K1 := fun i => (tbox_cells (((bel hbr (hFb i)).block _ lA).trans xA)).2.1
          have K2 := fun i => (tbox_cells (((bel hbr (hFb i)).block _ lA).trans xA)).2.2.1
          have K3 := fun i => (tbox_cells (((bel hbr (hFb i)).block _ lA).trans xA)).2.2.2
          have C1 := Lib.hid (fun i => calls_fam hFc i (HX1.out _ (bel hwr (hFb i))))
          have C2 := Lib.hid (fun i => calls_fam hFc i (HX2.out _ (bel hwr (hFb i))))
          have C3 := Lib.hid (fun i => calls_fam hFc i (HY1.out _ (bel hwr (hFb i))))
          have C4 := Lib.hid (fun i => calls_fam hFc i (HY2.out _ (bel hwr (hFb i))))
          have HF := Lib.hid hFb
          clear hFb hFc
          refine wp_region_fam F n0 hF0 (by kernel_rfl) (by kernel_rfl) ?_
          clear hF0
          repeat (go_big_quiet_step (first | (go_at_call 7; (with_reducible exact C1.out _)) | (go_at_call 8; (with_reducible exact C2.out _)) | (go_at_call 9; (with_reducible exact C3.out _)) | (go_at_call 10; (with_reducible exact C4.out _))))
          refine wpQuiet_nil ?_
          intro _ hw'
          obtain ⟨nq, hw''⟩ := hw'
          subst hw''
          go_wp2_with fail
          go_ret
          exact ⟨rfl, bel hwr (HF.out nq)⟩
        | succ m =>
          have hlt : i < vs.length := by omega
          have hii : ((i : Int) < (vs.length : Int)) := by omega
          obtain ⟨a1', cap1', hvv, -, -, -, hel2⟩ := HV.out.2.1.below hwr
          injection hvv with hv1 hv2 hv3
          subst hv1 hv3
          obtain ⟨b, o2, k1, n1, s1, a2, l2, c2, he, hbl, q0, q1, q2, q3, hTm⟩ := hel2 i hlt
          subst he
          have hvk := HV.out.2.2 _ (List.getElem_mem hlt)
          have hfw := few8_at vs[i] _ wr hTm (by omega)
          have HG := Lib.hid (List.getElem?_eq_getElem hlt)
          generalize vs[i] = t at *
          clear hel2 hTm HX1 HX2 HY HSH hn hns p0 p1 p2 p3 r0 r1 r2 r3
          by_cases ct : t.size ≤ 1000
          · rw [decide_eq_true ct] at hfw
            have HN := Lib.hid (show ∀ u ∈ vs.take (i + 1), u.size ≤ 1000 from fun u hu => by
              rw [List.take_add_one, HG.out] at hu
              rcases List.mem_append.1 hu with h | h
              · exact HAL.out u h
              · simp at h; rw [h]; exact ct)
            clear ct
            go_wp2_with (go_at_call 6; refine hfw.mono ?_; rintro e w3 ⟨rfl, hB3⟩)
            go_roundg m
            case measure => omega
            case rel => exact ⟨i + 1, by simp, by omega, HN.out, bel hbr hB3⟩
          · rw [decide_eq_false ct] at hfw
            clear ct
            go_wp2_with (go_at_call 6; refine hfw.mono ?_; rintro e w3 ⟨rfl, hB3⟩)
            go_ret
            exact ⟨rfl, bel hwr hB3⟩
    · have h20 : ((20 : Int) < (vs.length : Int)) := by omega
      clear hy1 hy2
      go_enter Tryd.func3, Tryd.ntmps3
      go_upto_region 1 with fail
      rw [← hw2]
      clear hw2
      have hb0 := Below.refl w2.heap.size w2
      go_wp2_with (first
        | (go_at_call 5; (with_reducible refine (HSH.out _ (bel hbw hb0)).mono ?_); rintro e W1 ⟨rfl, hb1'⟩; have hb1 := bel hb0 hb1'; obtain ⟨p0, p1, p2, p3⟩ := tbox_cells ((hb1.block _ lA).trans xA))
        | (go_at_call 6; (with_reducible refine (HF1.out _ (bel hbw hb1)).mono ?_); rintro e W2 ⟨rfl, hb2'⟩; have hb2 := bel hb1 hb2'; obtain ⟨r0, r1, r2, r3⟩ := tbox_cells ((hb2.block _ lA).trans xA)))
      go_ret
      exact ⟨rfl, bel hbw hb2⟩
  · simp only [decide_eq_false c1] at hf1
    have HF1 := Lib.hid hf1
    clear hf1 hx1 hx2 hy1 hy2
    go_enter Tryd.func3, Tryd.ntmps3
    go_upto_region 1 with fail
    rw [← hw2]
    clear hw2
    have hb0 := Below.refl w2.heap.size w2
    go_wp2_with (first
      | (go_at_call 5; (with_reducible refine (HSH.out _ (bel hbw hb0)).mono ?_); rintro e W1 ⟨rfl, hb1'⟩; have hb1 := bel hb0 hb1'; obtain ⟨p0, p1, p2, p3⟩ := tbox_cells ((hb1.block _ lA).trans xA))
      | (go_at_call 6; (with_reducible refine (HF1.out _ (bel hbw hb1)).mono ?_); rintro e W2 ⟨rfl, hb2'⟩; have hb2 := bel hb1 hb2'; obtain ⟨r0, r1, r2, r3⟩ := tbox_cells ((hb2.block _ lA).trans xA)))
    go_ret
    exact ⟨rfl, bel hbw hb2⟩
end Go.Proofs.YtfencolokfghfaaDoor
