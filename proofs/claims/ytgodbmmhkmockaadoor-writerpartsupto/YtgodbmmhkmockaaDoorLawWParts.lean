/-
  WriterParts: a name's text with arguments is that name's, and theirs; a seal's has what is in it.
-/
import Derived.Test.YtgodbmmhkmockaaDoorLawWAnsw
namespace Go.Proofs.YtgodbmmhkmockaaDoor
open Go.Shelf Go.RowKit Go.Sort
set_option linter.unusedVariables false

theorem one_text8 {W : World} {B : Nat} {c : UInt8} (h : W.cell? ⟨B, 0, none⟩ = some (.int .u8 (c.toNat : Int))) : (convert 34 9 (.slice (some ⟨B, 0, none⟩) 1 1)).run Tryd.prog W = .ok (.string (strV [c])) W := by
  refine run_convert_bytes_back W 34 9 5 ⟨B, 0, none⟩ 1 [c] Tryd.underlying34 Tryd.underlying5 Tryd.underlying9 (fun j hj => ?_)
  have : j = 0 := by simpa using hj
  subst this
  exact h
theorem make_txt (s : ByteArray) (T U : Tm) (hs : s.data.toList ≠ [91, 93]) : strV (Tm.mk 3 0 s [T, U]).txt = strV (quoteL s.data.toList) ++ ByteArray.mk #[40] ++ strV T.txt ++ ByteArray.mk #[44] ++ strV U.txt ++ ByteArray.mk #[41] := by
  refine str_ext ?_
  rw [strV_list, Tm.txt_mk, if_neg (by decide), if_neg (by decide), if_pos rfl, if_neg (by simp), Tm.txtc_cons, Tm.txtc_cons, Tm.txtc_nil]
  unfold fnL
  rw [if_neg hs]
  simp [ByteArray.data_append, strV]
theorem seal_txt (T : Tm) (j : Nat) (hj : j < 10) : strV (Tm.mk 4 j (ByteArray.mk #[]) [T]).txt = ByteArray.mk #[64, 40] ++ strV T.txt ++ ByteArray.mk #[44] ++ strV [UInt8.ofNat (48 + j)] ++ ByteArray.mk #[41] := by
  refine str_ext ?_
  have hi : Lib.itoa (j : Int) = [UInt8.ofNat (48 + j)] := by rw [Lib.itoa_nonneg, Lib.decDigits_one hj]
  rw [strV_list, Tm.txt_mk, if_neg (by decide), if_neg (by decide), if_neg (by decide), if_pos ⟨rfl, rfl⟩, Tm.txtc_cons, Tm.txtc_nil, hi]
  simp [ByteArray.data_append, strV]
set_option maxRecDepth 100000 in
set_option maxHeartbeats 4000000 in
theorem parts_at (nm : ByteArray) (T U : Tm) (v u : Value) (x : Int) (w : World) (hv : Has w v T) (hu : Has w u U) (hnm : nm.size ≤ 1048576) (hbT : T.byt + T.size ≤ 1048576) (hbU : U.byt + U.size ≤ 1048576) (hbA : nm.size + (T.byt + U.byt) ≤ 1048576) (hx : 0 ≤ x ∧ x ≤ 255) (hT : TabP w) : Calls Tryd.prog 5 #[.string nm, v, u, .int .u8 x] w (Gets w (.bool true)) := by
  have hsh := fun W (h : Below w.heap.size w W) => shown8_at W (hT.later h)
  have hf1 := fun W (h : Below w.heap.size w W) => few8_at T v W (hv.below h) (by omega)
  have hf2 := fun W (h : Below w.heap.size w W) => few8_at U u W (hu.below h) (by omega)
  obtain ⟨k, n, s, a, l, c, ks, rfl, e, -⟩ := hv.form
  obtain ⟨k', n', s', a', l', c', ks', rfl, e', -⟩ := hu.form
  clear e e'
  have hs1 : (strV T.txt).size ≤ 50000000 := by rw [strV_size]; have := Tm.txt_len T (hv.nums 1); omega
  have hs2 : (strV U.txt).size ≤ 50000000 := by rw [strV_size]; have := Tm.txt_len U (hu.nums 1); omega
  obtain ⟨w2, hw2⟩ : ∃ w2, w2 = (w.alloc (.cells #[.int .i64 k, .int .i64 n, .string s, .slice a l c] 24)).alloc (.cells #[.int .i64 k', .int .i64 n', .string s', .slice a' l' c'] 24) := ⟨_, rfl⟩
  have hbw : Below w.heap.size w w2 := by rw [hw2]; exact bel_al (bel_al (Below.refl _ _) _) _
  have xA : w2.heap[w.heap.size]? = some (.cells #[.int .i64 k, .int .i64 n, .string s, .slice a l c] 24 (0, 0)) := by rw [hw2]; exact (Below.block (bel_al (Below.refl _ (w.alloc (.cells #[.int .i64 k, .int .i64 n, .string s, .slice a l c] 24))) _) _ (by simp)).trans (alloc_new _ _)
  have xB : w2.heap[w.heap.size + 1]? = some (.cells #[.int .i64 k', .int .i64 n', .string s', .slice a' l' c'] 24 (0, 0)) := by rw [hw2]; simpa using alloc_new (w.alloc (.cells #[.int .i64 k, .int .i64 n, .string s, .slice a l c] 24)) (.cells #[.int .i64 k', .int .i64 n', .string s', .slice a' l' c'] 24)
  have lA := (Array.getElem?_eq_some_iff.1 xA).1
  have lB := (Array.getElem?_eq_some_iff.1 xB).1
  by_cases c1 : T.size ≤ 1000
  · simp only [decide_eq_true c1] at hf1
    have HF1 := Lib.hid hf1; have HSH := Lib.hid hsh
    clear hf1 hsh
    by_cases c2 : U.size ≤ 1000
    · simp only [decide_eq_true c2] at hf2
      have HF2 := Lib.hid hf2
      clear hf2
      by_cases hnil : nm.data.toList = [91, 93]
      · obtain rfl : nm = ByteArray.mk #[91, 93] := str_ext hnil
        clear hnil
        go_enter Tryd.func5, Tryd.ntmps5
        go_upto_region 2 with fail
        rw [← hw2]
        clear hw2
        have hb0 := Below.refl w2.heap.size w2
        go_wp2_with (first
          | (go_at_call 8; (with_reducible refine (HSH.out _ (bel hbw hb0)).mono ?_); rintro e W1 ⟨rfl, hb1'⟩; have hb1 := bel hb0 hb1'; obtain ⟨p0W1, p1W1, p2W1, p3W1⟩ := tbox_cells ((hb1.block _ lA).trans xA); obtain ⟨q0W1, q1W1, q2W1, q3W1⟩ := tbox_cells ((hb1.block _ lB).trans xB))
          | (go_at_call 9; (with_reducible refine (HF1.out _ (bel hbw hb1)).mono ?_); rintro e W2 ⟨rfl, hb2'⟩; have hb2 := bel hb1 hb2'; obtain ⟨p0W2, p1W2, p2W2, p3W2⟩ := tbox_cells ((hb2.block _ lA).trans xA); obtain ⟨q0W2, q1W2, q2W2, q3W2⟩ := tbox_cells ((hb2.block _ lB).trans xB))
          | (go_at_call 9; (with_reducible refine (HF2.out _ (bel hbw hb2)).mono ?_); rintro e W3 ⟨rfl, hb3'⟩; have hb3 := bel hb2 hb3'; obtain ⟨p0W3, p1W3, p2W3, p3W3⟩ := tbox_cells ((hb3.block _ lA).trans xA); obtain ⟨q0W3, q1W3, q2W3, q3W3⟩ := tbox_cells ((hb3.block _ lB).trans xB)))
        go_ret
        exact ⟨rfl, bel hbw hb3⟩
      · have hne : (nm.toList == [91, 93]) = false := by
          rw [ByteArray.toList_eq]
          simp only [beq_eq_false_iff_ne, ne_eq]
          exact hnil
        obtain ⟨j, hj, hj'⟩ : ∃ j : Nat, j < 10 ∧ x % 10 = j := ⟨(x % 10).toNat, by omega, by omega⟩
        have hj9 : (j : Int) < 10 := by omega
        have hj8 : (0 : Int) ≤ (j : Int) := by omega
        have hnx1 := fun W (h : Below w.heap.size w W) => text_at T _ W (hv.below h) (hT.later h) (by omega) (by omega)
        have hnx2 := fun W (h : Below w.heap.size w W) => text_at U _ W (hu.below h) (hT.later h) (by omega) (by omega)
        have HX1 := Lib.hid hnx1; have HX2 := Lib.hid hnx2
        have HNE := Lib.hid hnil
        obtain ⟨g, hg⟩ : ∃ g : UInt8, g = UInt8.ofNat (48 + j) := ⟨_, rfl⟩
        have hgn : (g.toNat : Int) = 48 + j := by rw [hg]; simp [UInt8.toNat_ofNat]; omega
        have cc2 : ∀ (W : World) (A B : Obj), (convert 34 9 (.slice (some ⟨W.heap.size + 1 + 1, 0, none⟩) 1 1)).run Tryd.prog (((W.alloc A).alloc B).alloc (.cells #[.int .u8 (48 + (j : Int))] 5)) = .ok (.string (strV [g])) (((W.alloc A).alloc B).alloc (.cells #[.int .u8 (48 + (j : Int))] 5)) := fun W A B => one_text8 (by rw [hgn]; have := alloc_new ((W.alloc A).alloc B) (.cells #[.int .u8 (48 + (j : Int))] 5); simp at this; simp [World.cell?, this])
        have HGG := Lib.hid hg
        have zg : (strV [g]).size = 1 := rfl
        clear hg hgn
        clear hnx1 hnx2 hnil
        go_enter Tryd.func5, Tryd.ntmps5
        go_upto_region 2 with fail
        rw [← hw2]
        clear hw2
        have hb0 := Below.refl w2.heap.size w2
        go_upto_region 8 with (first
          | (go_at_call 8; (with_reducible refine (HSH.out _ (bel hbw hb0)).mono ?_); rintro e W1 ⟨rfl, hb1'⟩; have hb1 := bel hb0 hb1'; obtain ⟨p0W1, p1W1, p2W1, p3W1⟩ := tbox_cells ((hb1.block _ lA).trans xA); obtain ⟨q0W1, q1W1, q2W1, q3W1⟩ := tbox_cells ((hb1.block _ lB).trans xB))
          | (go_at_call 9; (with_reducible refine (HF1.out _ (bel hbw hb1)).mono ?_); rintro e W2 ⟨rfl, hb2'⟩; have hb2 := bel hb1 hb2'; obtain ⟨p0W2, p1W2, p2W2, p3W2⟩ := tbox_cells ((hb2.block _ lA).trans xA); obtain ⟨q0W2, q1W2, q2W2, q3W2⟩ := tbox_cells ((hb2.block _ lB).trans xB))
          | (go_at_call 9; (with_reducible refine (HF2.out _ (bel hbw hb2)).mono ?_); rintro e W3 ⟨rfl, hb3'⟩; have hb3 := bel hb2 hb3'; obtain ⟨p0W3, p1W3, p2W3, p3W3⟩ := tbox_cells ((hb3.block _ lA).trans xA); obtain ⟨q0W3, q1W3, q2W3, q3W3⟩ := tbox_cells ((hb3.block _ lB).trans xB))
          | (go_at_call 10; (with_reducible refine (HX1.out _ (bel hbw hb3)).mono ?_); rintro e W4 ⟨rfl, hb4'⟩; have hb4 := bel hb3 hb4'; obtain ⟨p0W4, p1W4, p2W4, p3W4⟩ := tbox_cells ((hb4.block _ lA).trans xA); obtain ⟨q0W4, q1W4, q2W4, q3W4⟩ := tbox_cells ((hb4.block _ lB).trans xB))
          | (go_at_call 10; (with_reducible refine (HX2.out _ (bel hbw hb4)).mono ?_); rintro e W5 ⟨rfl, hb5'⟩; have hb5 := bel hb4 hb5'; obtain ⟨p0W5, p1W5, p2W5, p3W5⟩ := tbox_cells ((hb5.block _ lA).trans xA); obtain ⟨q0W5, q1W5, q2W5, q3W5⟩ := tbox_cells ((hb5.block _ lB).trans xB)))
        obtain ⟨V, hV⟩ : ∃ V, V = ((W5.alloc (.cells #[.int .i64 k, .int .i64 n, .string s, .slice a l c] 24)).alloc (.cells #[.int .i64 4, .int .i64 (j : Int), .string (ByteArray.mk #[]), .slice (some ⟨W5.heap.size, 0, none⟩) 1 1] 24)).alloc (.cells #[.int .u8 (48 + (j : Int))] 5) := ⟨_, rfl⟩
        rw [← hV]
        have hbK : Below (W5.alloc (.cells #[.int .i64 k, .int .i64 n, .string s, .slice a l c] 24)).heap.size (W5.alloc (.cells #[.int .i64 k, .int .i64 n, .string s, .slice a l c] 24)) V := by rw [hV]; exact bel_al (bel_al (Below.refl _ _) _) _
        have hbV5 : Below W5.heap.size W5 V := bel (bel_al (Below.refl _ _) _) hbK
        have hbV := bel hb5 hbV5
        have xP : V.heap[W5.heap.size + 1]? = some (.cells #[.int .i64 4, .int .i64 (j : Int), .string (ByteArray.mk #[]), .slice (some ⟨W5.heap.size, 0, none⟩) 1 1] 24 (0, 0)) := by
          rw [hV]
          refine (Below.block (bel_al (Below.refl _ ((W5.alloc (.cells #[.int .i64 k, .int .i64 n, .string s, .slice a l c] 24)).alloc (.cells #[.int .i64 4, .int .i64 (j : Int), .string (ByteArray.mk #[]), .slice (some ⟨W5.heap.size, 0, none⟩) 1 1] 24))) _) _ (by simp)).trans ?_
          simpa using alloc_new (W5.alloc (.cells #[.int .i64 k, .int .i64 n, .string s, .slice a l c] 24)) (.cells #[.int .i64 4, .int .i64 (j : Int), .string (ByteArray.mk #[]), .slice (some ⟨W5.heap.size, 0, none⟩) 1 1] 24)
        have hP : Has V (.agg #[.int .i64 4, .int .i64 (j : Int), .string (ByteArray.mk #[]), .slice (some ⟨W5.heap.size, 0, none⟩) 1 1]) (.mk 4 j (ByteArray.mk #[]) [T]) := TsIn.term (HasTs.below (one_ts8 (hv.below (bel hbw hb5))) hbK) ⟨by decide, by decide⟩ ⟨by omega, by omega⟩ (by unfold maxLen; decide)
        have hvV := hv.below (bel hbw hbV)
        have huV := hu.below (bel hbw hbV)
        obtain ⟨t0, t1, t2, t3⟩ := tbox_cells ((hbV.block _ lA).trans xA)
        obtain ⟨y0, y1, y2, y3⟩ := tbox_cells ((hbV.block _ lB).trans xB)
        have lP := (Array.getElem?_eq_some_iff.1 xP).1
        have hmk := make_at nm _ _ _ (by unfold maxLen; omega) (two8 hvV huV) (by simp only [Tm.sizes_cons, Tm.sizes_nil]; omega)
        have hat := fun W => atom_at nm W (by unfold maxLen; omega)
        have hq9 : (strV (quoteL nm.data.toList)).size ≤ 3000000 := by rw [strV_size]; have := quoteL_len nm.data.toList; have : nm.data.toList.length = nm.size := rfl; omega
        have HMK := Lib.hid hmk
        clear hmk hV cc2
        go_wp2_with (first
          | (go_at_call 17; (with_reducible refine HMK.out.mono ?_); rintro e W6 h4; obtain ⟨k6, m6, s6, a6, l6, c6, rfl, hT6, hb6'⟩ := h4.form8; have hb6 := bel (bel_al hbV (.cells #[.int .i64 k, .int .i64 n, .string s, .slice a l c, .int .i64 k', .int .i64 n', .string s', .slice a' l' c'] 24)) hb6'; have htm := text_at (.mk 3 0 nm [T, U]) _ W6 hT6 (hT.later (bel hbw hb6)) (by simp only [Tm.byt_mk, Tm.byts_cons, Tm.byts_nil]; omega) (by simp only [Tm.size_mk, Tm.sizes_cons, Tm.sizes_nil]; omega); rw [make_txt nm T U HNE.out] at htm)
          | (go_at_call 10; (with_reducible refine htm.mono ?_); rintro e W7 ⟨rfl, hb7'⟩; have hb7 := bel hb6 hb7')
          | (go_at_call 18; (with_reducible refine (hat W7).mono ?_); rintro e W8 h4; obtain ⟨k8, m8, s8, a8, l8, c8, rfl, hT8, hb8'⟩ := h4.form8; have hb8 := bel hb7 hb8'; have hta := text_at (.mk 3 0 nm []) _ W8 hT8 (hT.later (bel hbw hb8)) (by simp only [Tm.byt_mk, Tm.byts_nil]; omega) (by simp only [Tm.size_mk, Tm.sizes_nil]; omega); rw [show (Tm.mk 3 0 nm []).txt = quoteL nm.data.toList by rw [Tm.txt_mk]; rfl] at hta)
          | (go_at_call 10; (with_reducible refine hta.mono ?_); rintro e W9 ⟨rfl, hb9'⟩; have hb9 := bel hb8 hb9'; have hbV9 := bel (bel (bel (bel (bel_al (Below.refl V.heap.size V) (.cells #[.int .i64 k, .int .i64 n, .string s, .slice a l c, .int .i64 k', .int .i64 n', .string s', .slice a' l' c'] 24)) hb6') hb7') hb8') hb9'; obtain ⟨o0, o1, o2, o3⟩ := tbox_cells ((hbV9.block _ lP).trans xP); have htp := text_at (.mk 4 j (ByteArray.mk #[]) [T]) _ W9 (hP.below hbV9) (hT.later (bel hbw hb9)) (by simp only [Tm.byt_mk, Tm.byts_cons, Tm.byts_nil]; have : (ByteArray.mk #[]).size = 0 := rfl; omega) (by simp only [Tm.size_mk, Tm.sizes_cons, Tm.sizes_nil]; omega); rw [seal_txt T j hj, ← HGG.out] at htp)
          | (go_at_call 10; (with_reducible refine htp.mono ?_); rintro e W10 ⟨rfl, hb10'⟩; have hb10 := bel hb9 hb10'))
        go_ret
        exact ⟨rfl, bel hbw hb10⟩
    · simp only [decide_eq_false c2] at hf2
      have HF2 := Lib.hid hf2
      clear hf2
      go_enter Tryd.func5, Tryd.ntmps5
      go_upto_region 2 with fail
      rw [← hw2]
      clear hw2
      have hb0 := Below.refl w2.heap.size w2
      go_wp2_with (first
        | (go_at_call 8; (with_reducible refine (HSH.out _ (bel hbw hb0)).mono ?_); rintro e W1 ⟨rfl, hb1'⟩; have hb1 := bel hb0 hb1'; obtain ⟨p0W1, p1W1, p2W1, p3W1⟩ := tbox_cells ((hb1.block _ lA).trans xA); obtain ⟨q0W1, q1W1, q2W1, q3W1⟩ := tbox_cells ((hb1.block _ lB).trans xB))
          | (go_at_call 9; (with_reducible refine (HF1.out _ (bel hbw hb1)).mono ?_); rintro e W2 ⟨rfl, hb2'⟩; have hb2 := bel hb1 hb2'; obtain ⟨p0W2, p1W2, p2W2, p3W2⟩ := tbox_cells ((hb2.block _ lA).trans xA); obtain ⟨q0W2, q1W2, q2W2, q3W2⟩ := tbox_cells ((hb2.block _ lB).trans xB))
          | (go_at_call 9; (with_reducible refine (HF2.out _ (bel hbw hb2)).mono ?_); rintro e W3 ⟨rfl, hb3'⟩; have hb3 := bel hb2 hb3'; obtain ⟨p0W3, p1W3, p2W3, p3W3⟩ := tbox_cells ((hb3.block _ lA).trans xA); obtain ⟨q0W3, q1W3, q2W3, q3W3⟩ := tbox_cells ((hb3.block _ lB).trans xB)))
      go_ret
      exact ⟨rfl, bel hbw hb3⟩
  · simp only [decide_eq_false c1] at hf1
    have HF1 := Lib.hid hf1; have HSH := Lib.hid hsh
    clear hf1 hf2 hsh
    go_enter Tryd.func5, Tryd.ntmps5
    go_upto_region 2 with fail
    rw [← hw2]
    clear hw2
    have hb0 := Below.refl w2.heap.size w2
    go_wp2_with (first
      | (go_at_call 8; (with_reducible refine (HSH.out _ (bel hbw hb0)).mono ?_); rintro e W1 ⟨rfl, hb1'⟩; have hb1 := bel hb0 hb1'; obtain ⟨p0W1, p1W1, p2W1, p3W1⟩ := tbox_cells ((hb1.block _ lA).trans xA); obtain ⟨q0W1, q1W1, q2W1, q3W1⟩ := tbox_cells ((hb1.block _ lB).trans xB))
          | (go_at_call 9; (with_reducible refine (HF1.out _ (bel hbw hb1)).mono ?_); rintro e W2 ⟨rfl, hb2'⟩; have hb2 := bel hb1 hb2'; obtain ⟨p0W2, p1W2, p2W2, p3W2⟩ := tbox_cells ((hb2.block _ lA).trans xA); obtain ⟨q0W2, q1W2, q2W2, q3W2⟩ := tbox_cells ((hb2.block _ lB).trans xB)))
    go_ret
    exact ⟨rfl, bel hbw hb2⟩
end Go.Proofs.YtgodbmmhkmockaaDoor
