/-
  WriterAnswers: values of names are told in turn; hidden names change nothing.
-/
import Derived.Test.YtgodbmmhkmockaaDoorWrH
import Derived.Test.YtgodbmmhkmockaaDoorRefA
namespace Go.Proofs.YtgodbmmhkmockaaDoor
open Go.Shelf Go.RowKit Go.Sort
set_option linter.unusedVariables false
set_option linter.unnecessarySimpa false

set_option maxRecDepth 100000 in
set_option maxHeartbeats 1000000 in
theorem few8_at (T : Tm) (v : Value) (w : World) (hv : Has w v T) (hs : T.size ≤ 2000000) : Calls Tryd.prog 9 #[v] w (Gets w (.bool (decide (T.size ≤ 1000)))) := by
  obtain ⟨k, n, s, a, len, cap, ks, rfl, e, -⟩ := hv.form
  clear e
  have hb : Below w.heap.size w (w.alloc (.cells #[.int .i64 k, .int .i64 n, .string s, .slice a len cap] 24)) := (Below.refl _ w).alloc (Nat.le_refl _) _
  have h := (rsize_at T _ _ (Has.below hv hb) (by omega)).mono (R' := Gets w (.int .i64 (T.size : Int))) (fun e w2 h => ⟨h.1, hb.trans (h.2.mono hb.size)⟩)
  clear hv hb
  go_enter Tryd.func9, Tryd.ntmps9
  go_wp2_with (go_at_call 21; refine h.mono ?_; clear h; rintro e w2 ⟨rfl, hB⟩)
  go_ret
  refine ⟨congrArg (fun b => Ending.returned (Value.bool b)) (?_ : decide ((T.size : Int) ≤ 1000) = decide (T.size ≤ 1000)), hB⟩
  rw [decide_eq_decide]
  omega
theorem one_ts8 {w : World} {k n : Int} {s : ByteArray} {a : Option Addr} {l c : Nat} {x : Tm} (hx : Has w (.agg #[.int .i64 k, .int .i64 n, .string s, .slice a l c]) x) :
    HasTs (w.alloc (.cells #[.int .i64 k, .int .i64 n, .string s, .slice a l c] 24)) (.slice (some ⟨w.heap.size, 0, none⟩) 1 1) [x] := by
  have hb := bel_al (Below.refl w.heap.size w) (.cells #[.int .i64 k, .int .i64 n, .string s, .slice a l c] 24)
  obtain ⟨c0, c1, c2, c3⟩ := tbox_cells (alloc_new w (.cells #[.int .i64 k, .int .i64 n, .string s, .slice a l c] 24))
  refine ⟨some ⟨w.heap.size, 0, none⟩, 1, rfl, Nat.le_refl _, by unfold maxLen; omega, (fun e => by cases e), fun i hi => ?_⟩
  obtain rfl : i = 0 := by simp at hi; omega
  exact ⟨w.heap.size, 0, k, n, s, a, l, c, rfl, by simp, by simpa using c0, by simpa using c1, by simpa using c2, by simpa using c3, hx.below hb⟩
theorem ans_comp (ns : List ByteArray) (vs : List Tm) (W : World) (cells : Array Value) (hts : HasTs ((W.alloc (.cells (ns.map Value.string).toArray 9)).alloc (.cells cells 24)) (.slice (some ⟨W.heap.size + 1, 0, none⟩) vs.length vs.length) vs) (hT : TabP W)
    (hv : ∀ t ∈ vs, t.byt ≤ 2000000 ∧ t.size ≤ 1000000) (hvl : vs.length ≤ 1000) (hnl : ns.length ≤ 1000) (hn : ∀ s ∈ ns, s.size ≤ 2000000) :
    Calls Tryd.prog 12 #[.slice (some ⟨W.heap.size, 0, none⟩) ns.length ns.length, .slice (some ⟨W.heap.size + 1, 0, none⟩) vs.length vs.length] ((W.alloc (.cells (ns.map Value.string).toArray 9)).alloc (.cells cells 24)) fun e w' => e = .returned (.string (strV (ansL ns vs))) ∧ Below W.heap.size W w' := by
  have hb := bel_al (bel_al (Below.refl W.heap.size W) (.cells (ns.map Value.string).toArray 9)) (.cells cells 24)
  have hx : ((W.alloc (.cells (ns.map Value.string).toArray 9)).alloc (.cells cells 24)).heap[W.heap.size]? = some (.cells (ns.map Value.string).toArray 9 (0, 0)) := (Below.block (bel_al (Below.refl _ (W.alloc (.cells (ns.map Value.string).toArray 9))) _) _ (by simp)).trans (alloc_new _ _)
  refine (answer_at ns vs _ ns.length _ vs.length _ (fun i s hs => ⟨W.heap.size, 0, rfl, (Array.getElem?_eq_some_iff.1 hx).1, ?_⟩) (Nat.le_refl _) (by unfold maxLen; omega) (fun e => by cases e) hts (hT.later hb) hv hvl (by omega) hn).mono fun e w' h => ⟨h.1, bel hb h.2⟩
  rw [Lib.cell_of_heap hx]
  simp [hs]
def bX : ByteArray := ByteArray.mk #[88]
def bY : ByteArray := ByteArray.mk #[89]
def bH : ByteArray := ByteArray.mk #[95]
theorem tell_X (T : Tm) : tellO (bX, T) = some (ByteArray.mk #[88, 32, 61, 32] ++ strV T.txt) := by
  unfold tellO
  rw [if_neg (by show ¬ Lib.hasPrefix bX.data.toList [95] = true; decide)]
  congr 1
theorem tell_Y (T : Tm) : tellO (bY, T) = some (ByteArray.mk #[89, 32, 61, 32] ++ strV T.txt) := by
  unfold tellO
  rw [if_neg (by show ¬ Lib.hasPrefix bY.data.toList [95] = true; decide)]
  congr 1
theorem tell_H (T : Tm) : tellO (bH, T) = none := by
  unfold tellO
  rw [if_pos (by show Lib.hasPrefix bH.data.toList [95] = true; decide)]
theorem ans_one {ns : List ByteArray} {vs : List Tm} {s : ByteArray} (h : toldL ns vs (ns.zip vs).length = [s]) : strV (ansL ns vs) = s := by
  refine str_ext ?_
  rw [strV_list]
  unfold ansL
  rw [h, if_neg (by simp)]
  simp [Lib.join_one]
theorem ans_two8 {ns : List ByteArray} {vs : List Tm} {s t : ByteArray} (h : toldL ns vs (ns.zip vs).length = [s, t]) : strV (ansL ns vs) = s ++ ByteArray.mk #[44, 32] ++ t := by
  refine str_ext ?_
  rw [strV_list]
  unfold ansL
  rw [h, if_neg (by simp)]
  simp [Lib.join_cons, Lib.joinTail, ByteArray.data_append]
theorem told1 (T : Tm) : toldL [bX] [T] 1 = [ByteArray.mk #[88, 32, 61, 32] ++ strV T.txt] := by unfold toldL; simp [tell_X]
theorem told2 (T U : Tm) : toldL [bX, bY] [T, U] 2 = [ByteArray.mk #[88, 32, 61, 32] ++ strV T.txt, ByteArray.mk #[89, 32, 61, 32] ++ strV U.txt] := by unfold toldL; simp [tell_X, tell_Y]
theorem told3 (T U : Tm) : toldL [bH, bY] [T, U] 2 = [ByteArray.mk #[89, 32, 61, 32] ++ strV U.txt] := by unfold toldL; simp [tell_H, tell_Y]
theorem told4 (T : Tm) : toldL [bX, bY] [T] 1 = [ByteArray.mk #[88, 32, 61, 32] ++ strV T.txt] := by unfold toldL; simp [tell_X]
theorem ansA {T : Tm} {k n : Int} {s : ByteArray} {a : Option Addr} {l c : Nat} (W : World) (hx : Has W (.agg #[.int .i64 k, .int .i64 n, .string s, .slice a l c]) T) (hT : TabP W) (hv : T.byt ≤ 2000000 ∧ T.size ≤ 1000000) : Calls Tryd.prog 12 #[.slice (some ⟨W.heap.size, 0, none⟩) 1 1, .slice (some ⟨W.heap.size + 1, 0, none⟩) 1 1] ((W.alloc (.cells #[.string (ByteArray.mk #[88])] 9)).alloc (.cells #[.int .i64 k, .int .i64 n, .string s, .slice a l c] 24)) fun e w' => e = .returned (.string (ByteArray.mk #[88, 32, 61, 32] ++ strV T.txt)) ∧ Below W.heap.size W w' := by
  have h1 := one_ts8 (hx.below (bel_al (Below.refl W.heap.size W) (.cells #[.string (ByteArray.mk #[88])] 9)))
  rw [World.size_alloc] at h1
  have h := ans_comp [bX] [T] W #[.int .i64 k, .int .i64 n, .string s, .slice a l c] h1 hT (fun t ht => by simp at ht; subst ht; exact hv) (by simp) (by simp) (fun s hs => by simp at hs; subst hs; decide)
  rw [ans_one (told1 T)] at h
  exact h
theorem ansD {T : Tm} {k n : Int} {s : ByteArray} {a : Option Addr} {l c : Nat} (W : World) (hx : Has W (.agg #[.int .i64 k, .int .i64 n, .string s, .slice a l c]) T) (hT : TabP W) (hv : T.byt ≤ 2000000 ∧ T.size ≤ 1000000) : Calls Tryd.prog 12 #[.slice (some ⟨W.heap.size, 0, none⟩) 2 2, .slice (some ⟨W.heap.size + 1, 0, none⟩) 1 1] ((W.alloc (.cells #[.string (ByteArray.mk #[88]), .string (ByteArray.mk #[89])] 9)).alloc (.cells #[.int .i64 k, .int .i64 n, .string s, .slice a l c] 24)) fun e w' => e = .returned (.string (ByteArray.mk #[88, 32, 61, 32] ++ strV T.txt)) ∧ Below W.heap.size W w' := by
  have h1 := one_ts8 (hx.below (bel_al (Below.refl W.heap.size W) (.cells #[.string (ByteArray.mk #[88]), .string (ByteArray.mk #[89])] 9)))
  rw [World.size_alloc] at h1
  have h := ans_comp [bX, bY] [T] W #[.int .i64 k, .int .i64 n, .string s, .slice a l c] h1 hT (fun t ht => by simp at ht; subst ht; exact hv) (by simp) (by simp) (fun s hs => by simp at hs; rcases hs with rfl | rfl <;> decide)
  rw [ans_one (told4 T)] at h
  exact h
theorem ansB {T U : Tm} {k n : Int} {s : ByteArray} {a : Option Addr} {l c : Nat} {k' n' : Int} {s' : ByteArray} {a' : Option Addr} {l' c' : Nat} (W : World) (hx : Has W (.agg #[.int .i64 k, .int .i64 n, .string s, .slice a l c]) T) (hy : Has W (.agg #[.int .i64 k', .int .i64 n', .string s', .slice a' l' c']) U) (hT : TabP W) (hv : T.byt ≤ 2000000 ∧ T.size ≤ 1000000) (hu : U.byt ≤ 2000000 ∧ U.size ≤ 1000000) : Calls Tryd.prog 12 #[.slice (some ⟨W.heap.size, 0, none⟩) 2 2, .slice (some ⟨W.heap.size + 1, 0, none⟩) 2 2] ((W.alloc (.cells #[.string (ByteArray.mk #[88]), .string (ByteArray.mk #[89])] 9)).alloc (.cells #[.int .i64 k, .int .i64 n, .string s, .slice a l c, .int .i64 k', .int .i64 n', .string s', .slice a' l' c'] 24)) fun e w' => e = .returned (.string (ByteArray.mk #[88, 32, 61, 32] ++ strV T.txt ++ ByteArray.mk #[44, 32] ++ (ByteArray.mk #[89, 32, 61, 32] ++ strV U.txt))) ∧ Below W.heap.size W w' := by
  have hb := bel_al (Below.refl W.heap.size W) (.cells #[.string (ByteArray.mk #[88]), .string (ByteArray.mk #[89])] 9)
  have h1 := two8 (hx.below hb) (hy.below hb)
  rw [World.size_alloc] at h1
  have h := ans_comp [bX, bY] [T, U] W #[.int .i64 k, .int .i64 n, .string s, .slice a l c, .int .i64 k', .int .i64 n', .string s', .slice a' l' c'] h1 hT (fun t ht => by simp at ht; rcases ht with rfl | rfl; exact hv; exact hu) (by simp) (by simp) (fun s hs => by simp at hs; rcases hs with rfl | rfl <;> decide)
  rw [ans_two8 (told2 T U)] at h
  exact h
theorem ansC {T U : Tm} {k n : Int} {s : ByteArray} {a : Option Addr} {l c : Nat} {k' n' : Int} {s' : ByteArray} {a' : Option Addr} {l' c' : Nat} (W : World) (hx : Has W (.agg #[.int .i64 k, .int .i64 n, .string s, .slice a l c]) T) (hy : Has W (.agg #[.int .i64 k', .int .i64 n', .string s', .slice a' l' c']) U) (hT : TabP W) (hv : T.byt ≤ 2000000 ∧ T.size ≤ 1000000) (hu : U.byt ≤ 2000000 ∧ U.size ≤ 1000000) : Calls Tryd.prog 12 #[.slice (some ⟨W.heap.size, 0, none⟩) 2 2, .slice (some ⟨W.heap.size + 1, 0, none⟩) 2 2] ((W.alloc (.cells #[.string (ByteArray.mk #[95]), .string (ByteArray.mk #[89])] 9)).alloc (.cells #[.int .i64 k, .int .i64 n, .string s, .slice a l c, .int .i64 k', .int .i64 n', .string s', .slice a' l' c'] 24)) fun e w' => e = .returned (.string (ByteArray.mk #[89, 32, 61, 32] ++ strV U.txt)) ∧ Below W.heap.size W w' := by
  have hb := bel_al (Below.refl W.heap.size W) (.cells #[.string (ByteArray.mk #[95]), .string (ByteArray.mk #[89])] 9)
  have h1 := two8 (hx.below hb) (hy.below hb)
  rw [World.size_alloc] at h1
  have h := ans_comp [bH, bY] [T, U] W #[.int .i64 k, .int .i64 n, .string s, .slice a l c, .int .i64 k', .int .i64 n', .string s', .slice a' l' c'] h1 hT (fun t ht => by simp at ht; rcases ht with rfl | rfl; exact hv; exact hu) (by simp) (by simp) (fun s hs => by simp at hs; rcases hs with rfl | rfl <;> decide)
  rw [ans_one (told3 T U)] at h
  exact h
set_option maxRecDepth 100000 in
set_option maxHeartbeats 4000000 in
theorem answers_at (T U : Tm) (v u : Value) (w : World) (hv : Has w v T) (hu : Has w u U) (hbT : T.byt + T.size ≤ 1048576) (hbU : U.byt + U.size ≤ 1048576) (hT : TabP w) : Calls Tryd.prog 7 #[v, u] w (Gets w (.bool true)) := by
  have hsh := fun W (h : Below w.heap.size w W) => shown8_at W (hT.later h)
  have hf1 := fun W (h : Below w.heap.size w W) => few8_at T v W (hv.below h) (by omega)
  have hf2 := fun W (h : Below w.heap.size w W) => few8_at U u W (hu.below h) (by omega)
  have hx1 := fun (c1 : T.size ≤ 1000) W (h : Below w.heap.size w W) => text_at T v W (hv.below h) (hT.later h) (by omega) (by omega)
  have hx2 := fun (c2 : U.size ≤ 1000) W (h : Below w.heap.size w W) => text_at U u W (hu.below h) (hT.later h) (by omega) (by omega)
  obtain ⟨k, n, s, a, l, c, ks, rfl, e, -⟩ := hv.form
  obtain ⟨k', n', s', a', l', c', ks', rfl, e', -⟩ := hu.form
  clear e e'
  have hs1 : (strV T.txt).size ≤ 50000000 := by rw [strV_size]; have := Tm.txt_len T (hv.nums 1); omega
  have hs2 : (strV U.txt).size ≤ 50000000 := by rw [strV_size]; have := Tm.txt_len U (hu.nums 1); omega
  obtain ⟨w2, hw2⟩ : ∃ w2, w2 = (w.alloc (.cells #[.int .i64 k, .int .i64 n, .string s, .slice a l c] 24)).alloc (.cells #[.int .i64 k', .int .i64 n', .string s', .slice a' l' c'] 24) := ⟨_, rfl⟩
  have hbw : Below w.heap.size w w2 := by rw [hw2]; exact bel_al (bel_al (Below.refl _ _) _) _
  have xA : w2.heap[w.heap.size]? = some (.cells #[.int .i64 k, .int .i64 n, .string s, .slice a l c] 24 (0, 0)) := by rw [hw2]; exact (Below.block (bel_al (Below.refl _ (w.alloc (.cells #[.int .i64 k, .int .i64 n, .string s, .slice a l c] 24))) _) _ (by simp)).trans (alloc_new _ _)
  have xB : w2.heap[w.heap.size + 1]? = some (.cells #[.int .i64 k', .int .i64 n', .string s', .slice a' l' c'] 24 (0, 0)) := by rw [hw2]; simpa using alloc_new (w.alloc (.cells #[.int .i64 k, .int .i64 n, .string s, .slice a l c] 24)) (.cells #[.int .i64 k', .int .i64 n', .string s', .slice a' l' c'] 24)
  have lA := (Array.getElem?_eq_some_iff.1 xA).1
  have lB := (Array.getElem?_eq_some_iff.1 xB).1
  by_cases c1 : T.size ≤ 1000
  · simp only [decide_eq_true c1] at hf1
    have HF1 := Lib.hid hf1; have HX1 := Lib.hid (hx1 c1); have HSH := Lib.hid hsh
    clear hx1 hf1 hsh
    by_cases c2 : U.size ≤ 1000
    · simp only [decide_eq_true c2] at hf2
      have HF2 := Lib.hid hf2; have HX2 := Lib.hid (hx2 c2)
      have HV := Lib.hid (And.intro hv (And.intro hu (And.intro (show T.byt ≤ 2000000 ∧ T.size ≤ 1000000 by omega) (show U.byt ≤ 2000000 ∧ U.size ≤ 1000000 by omega))))
      clear hf2 hx2
      go_enter Tryd.func7, Tryd.ntmps7
      go_upto_region 2 with fail
      rw [← hw2]
      clear hw2
      have hb0 := Below.refl w2.heap.size w2
      go_wp2_with (first
        | (go_at_call 8; (with_reducible refine (HSH.out _ (bel hbw hb0)).mono ?_); rintro e W1 ⟨rfl, hb1'⟩; have hb1 := bel hb0 hb1'; obtain ⟨p0W1, p1W1, p2W1, p3W1⟩ := tbox_cells ((hb1.block _ lA).trans xA); obtain ⟨q0W1, q1W1, q2W1, q3W1⟩ := tbox_cells ((hb1.block _ lB).trans xB))
        | (go_at_call 9; (with_reducible refine (HF1.out _ (bel hbw hb1)).mono ?_); rintro e W2 ⟨rfl, hb2'⟩; have hb2 := bel hb1 hb2'; obtain ⟨p0W2, p1W2, p2W2, p3W2⟩ := tbox_cells ((hb2.block _ lA).trans xA); obtain ⟨q0W2, q1W2, q2W2, q3W2⟩ := tbox_cells ((hb2.block _ lB).trans xB))
        | (go_at_call 9; (with_reducible refine (HF2.out _ (bel hbw hb2)).mono ?_); rintro e W3 ⟨rfl, hb3'⟩; have hb3 := bel hb2 hb3'; obtain ⟨p0W3, p1W3, p2W3, p3W3⟩ := tbox_cells ((hb3.block _ lA).trans xA); obtain ⟨q0W3, q1W3, q2W3, q3W3⟩ := tbox_cells ((hb3.block _ lB).trans xB))
        | (go_at_call 10; (with_reducible refine (HX1.out _ (bel hbw hb3)).mono ?_); rintro e W4 ⟨rfl, hb4'⟩; have hb4 := bel hb3 hb4'; obtain ⟨p0W4, p1W4, p2W4, p3W4⟩ := tbox_cells ((hb4.block _ lA).trans xA); obtain ⟨q0W4, q1W4, q2W4, q3W4⟩ := tbox_cells ((hb4.block _ lB).trans xB))
        | (go_at_call 10; (with_reducible refine (HX2.out _ (bel hbw hb4)).mono ?_); rintro e W5 ⟨rfl, hb5'⟩; have hb5 := bel hb4 hb5'; obtain ⟨p0W5, p1W5, p2W5, p3W5⟩ := tbox_cells ((hb5.block _ lA).trans xA); obtain ⟨q0W5, q1W5, q2W5, q3W5⟩ := tbox_cells ((hb5.block _ lB).trans xB); have r0W5 := fun X => (tbox_cells (((bel_al hb5 X).block _ lA).trans xA)).1; have r1W5 := fun X => (tbox_cells (((bel_al hb5 X).block _ lA).trans xA)).2.1; have r2W5 := fun X => (tbox_cells (((bel_al hb5 X).block _ lA).trans xA)).2.2.1; have r3W5 := fun X => (tbox_cells (((bel_al hb5 X).block _ lA).trans xA)).2.2.2; have u0W5 := fun X => (tbox_cells (((bel_al hb5 X).block _ lB).trans xB)).1; have u1W5 := fun X => (tbox_cells (((bel_al hb5 X).block _ lB).trans xB)).2.1; have u2W5 := fun X => (tbox_cells (((bel_al hb5 X).block _ lB).trans xB)).2.2.1; have u3W5 := fun X => (tbox_cells (((bel_al hb5 X).block _ lB).trans xB)).2.2.2)
        | (go_at_call 12; (with_reducible refine (ansA W5 (HV.out.1.below (bel hbw hb5)) (hT.later (bel hbw hb5)) HV.out.2.2.1).mono ?_); rintro e W6 ⟨rfl, hb6'⟩; have hb6 := bel hb5 hb6'; have r0W6 := fun X => (tbox_cells (((bel_al hb6 X).block _ lA).trans xA)).1; have r1W6 := fun X => (tbox_cells (((bel_al hb6 X).block _ lA).trans xA)).2.1; have r2W6 := fun X => (tbox_cells (((bel_al hb6 X).block _ lA).trans xA)).2.2.1; have r3W6 := fun X => (tbox_cells (((bel_al hb6 X).block _ lA).trans xA)).2.2.2; have u0W6 := fun X => (tbox_cells (((bel_al hb6 X).block _ lB).trans xB)).1; have u1W6 := fun X => (tbox_cells (((bel_al hb6 X).block _ lB).trans xB)).2.1; have u2W6 := fun X => (tbox_cells (((bel_al hb6 X).block _ lB).trans xB)).2.2.1; have u3W6 := fun X => (tbox_cells (((bel_al hb6 X).block _ lB).trans xB)).2.2.2)
        | (go_at_call 12; (with_reducible refine (ansB W6 (HV.out.1.below (bel hbw hb6)) (HV.out.2.1.below (bel hbw hb6)) (hT.later (bel hbw hb6)) HV.out.2.2.1 HV.out.2.2.2).mono ?_); rintro e W7 ⟨rfl, hb7'⟩; have hb7 := bel hb6 hb7'; have r0W7 := fun X => (tbox_cells (((bel_al hb7 X).block _ lA).trans xA)).1; have r1W7 := fun X => (tbox_cells (((bel_al hb7 X).block _ lA).trans xA)).2.1; have r2W7 := fun X => (tbox_cells (((bel_al hb7 X).block _ lA).trans xA)).2.2.1; have r3W7 := fun X => (tbox_cells (((bel_al hb7 X).block _ lA).trans xA)).2.2.2; have u0W7 := fun X => (tbox_cells (((bel_al hb7 X).block _ lB).trans xB)).1; have u1W7 := fun X => (tbox_cells (((bel_al hb7 X).block _ lB).trans xB)).2.1; have u2W7 := fun X => (tbox_cells (((bel_al hb7 X).block _ lB).trans xB)).2.2.1; have u3W7 := fun X => (tbox_cells (((bel_al hb7 X).block _ lB).trans xB)).2.2.2)
        | (go_at_call 12; (with_reducible refine (ansC W7 (HV.out.1.below (bel hbw hb7)) (HV.out.2.1.below (bel hbw hb7)) (hT.later (bel hbw hb7)) HV.out.2.2.1 HV.out.2.2.2).mono ?_); rintro e W8 ⟨rfl, hb8'⟩; have hb8 := bel hb7 hb8'; have r0W8 := fun X => (tbox_cells (((bel_al hb8 X).block _ lA).trans xA)).1; have r1W8 := fun X => (tbox_cells (((bel_al hb8 X).block _ lA).trans xA)).2.1; have r2W8 := fun X => (tbox_cells (((bel_al hb8 X).block _ lA).trans xA)).2.2.1; have r3W8 := fun X => (tbox_cells (((bel_al hb8 X).block _ lA).trans xA)).2.2.2; have u0W8 := fun X => (tbox_cells (((bel_al hb8 X).block _ lB).trans xB)).1; have u1W8 := fun X => (tbox_cells (((bel_al hb8 X).block _ lB).trans xB)).2.1; have u2W8 := fun X => (tbox_cells (((bel_al hb8 X).block _ lB).trans xB)).2.2.1; have u3W8 := fun X => (tbox_cells (((bel_al hb8 X).block _ lB).trans xB)).2.2.2)
        | (go_at_call 12; (with_reducible refine (ansD W8 (HV.out.1.below (bel hbw hb8)) (hT.later (bel hbw hb8)) HV.out.2.2.1).mono ?_); rintro e W9 ⟨rfl, hb9'⟩; have hb9 := bel hb8 hb9'))
      go_ret
      exact ⟨rfl, bel hbw hb9⟩
    · simp only [decide_eq_false c2] at hf2
      have HF2 := Lib.hid hf2
      clear hf2 hx2
      go_enter Tryd.func7, Tryd.ntmps7
      go_upto_region 2 with fail
      rw [← hw2]
      clear hw2
      have hb0 := Below.refl w2.heap.size w2
      go_wp2_with (first
        | (go_at_call 8; (with_reducible refine (HSH.out _ (bel hbw hb0)).mono ?_); rintro e W1 ⟨rfl, hb1'⟩; have hb1 := bel hb0 hb1'; obtain ⟨p0W1, p1W1, p2W1, p3W1⟩ := tbox_cells ((hb1.block _ lA).trans xA); obtain ⟨q0W1, q1W1, q2W1, q3W1⟩ := tbox_cells ((hb1.block _ lB).trans xB))
        | (go_at_call 9; (with_reducible refine (HF1.out _ (bel hbw hb1)).mono ?_); rintro e W2 ⟨rfl, hb2'⟩; have hb2 := bel hb1 hb2'; obtain ⟨p0W2, p1W2, p2W2, p3W2⟩ := tbox_cells ((hb2.block _ lA).trans xA); obtain ⟨q0W2, q1W2, q2W2, q3W2⟩ := tbox_cells ((hb2.block _ lB).trans xB))
        | (go_at_call 9; (with_reducible refine (HF2.out _ (bel hbw hb2)).mono ?_); rintro e W3 ⟨rfl, hb3'⟩; have hb3 := bel hb2 hb3'; obtain ⟨p0W3, p1W3, p2W3, p3W3⟩ := tbox_cells ((hb3.block _ lA).trans xA); obtain ⟨q0W3, q1W3, q2W3, q3W3⟩ := tbox_cells ((hb3.block _ lB).trans xB)))
      go_ret
      exact ⟨rfl, bel hbw hb3⟩
  · simp only [decide_eq_false c1] at hf1
    have HF1 := Lib.hid hf1; have HSH := Lib.hid hsh
    clear hx1 hx2 hf1 hf2 hsh
    go_enter Tryd.func7, Tryd.ntmps7
    go_upto_region 2 with fail
    rw [← hw2]
    clear hw2
    have hb0 := Below.refl w2.heap.size w2
    go_wp2_with (first
      | (go_at_call 8; (with_reducible refine (HSH.out _ (bel hbw hb0)).mono ?_); rintro e W1 ⟨rfl, hb1'⟩; have hb1 := bel hb0 hb1'; obtain ⟨p0W1, p1W1, p2W1, p3W1⟩ := tbox_cells ((hb1.block _ lA).trans xA); obtain ⟨q0W1, q1W1, q2W1, q3W1⟩ := tbox_cells ((hb1.block _ lB).trans xB))
        | (go_at_call 9; (with_reducible refine (HF1.out _ (bel hbw hb1)).mono ?_); rintro e W2 ⟨rfl, hb2'⟩; have hb2 := bel hb1 hb2'; obtain ⟨p0W2, p1W2, p2W2, p3W2⟩ := tbox_cells ((hb2.block _ lA).trans xA); obtain ⟨q0W2, q1W2, q2W2, q3W2⟩ := tbox_cells ((hb2.block _ lB).trans xB)))
    go_ret
    exact ⟨rfl, bel hbw hb2⟩
end Go.Proofs.YtgodbmmhkmockaaDoor
