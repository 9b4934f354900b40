/-
  WriterAnswers: values of names are told in turn; hidden names change nothing.
-/
import Derived.Test.YtfencolokfghfaaDoorWrH
import Derived.Test.YtfencolokfghfaaDoorRefA
namespace Go.Proofs.YtfencolokfghfaaDoor
open Go.Shelf Go.RowKit Go.Sort
set_option linter.unusedVariables false
set_option linter.unnecessarySimpa false

set_option maxRecDepth 100000 in
set_option maxHeartbeats 1000000 in
theorem few8_at (T : Tm) (v : Value) (w : World) (hv : Has w v T) (hs : T.size ≤ 2000000) : Calls Tryd.prog 6 #[v] w (Gets w (.bool (decide (T.size ≤ 1000)))) := by
  obtain ⟨k, n, s, a, len, cap, ks, rfl, e, -⟩ := hv.form
  clear e
  have hb : Below w.heap.size w (w.alloc (.cells #[.int .i64 k, .int .i64 n, .string s, .slice a len cap] 24)) := (Below.refl _ w).alloc (Nat.le_refl _) _
  have h := (rsize_at T _ _ (Has.below hv hb) (by omega)).mono (R' := Gets w (.int .i64 (T.size : Int))) (fun e w2 h => ⟨h.1, hb.trans (h.2.mono hb.size)⟩)
  clear hv hb
  go_enter Tryd.func6, Tryd.ntmps6
  go_wp2_with (go_at_call 18; refine h.mono ?_; clear h; rintro e w2 ⟨rfl, hB⟩)
  go_ret
  refine ⟨congrArg (fun b => Ending.returned (Value.bool b)) (?_ : decide ((T.size : Int) ≤ 1000) = decide (T.size ≤ 1000)), hB⟩
  rw [decide_eq_decide]
  omega
theorem one_ts8 {w : World} {k n : Int} {s : ByteArray} {a : Option Addr} {l c : Nat} {x : Tm} (hx : Has w (.agg #[.int .i64 k, .int .i64 n, .string s, .slice a l c]) x) :
    HasTs (w.alloc (.cells #[.int .i64 k, .int .i64 n, .string s, .slice a l c] 24)) (.slice (some ⟨w.heap.size, 0, none⟩) 1 1) [x] := by
  have hb := bel_al (Below.refl w.heap.size w) (.cells #[.int .i64 k, .int .i64 n, .string s, .slice a l c] 24)
  obtain ⟨c0, c1, c2, c3⟩ := tbox_cells (alloc_new w (.cells #[.int .i64 k, .int .i64 n, .string s, .slice a l c] 24))
  refine ⟨some ⟨w.heap.size, 0, none⟩, 1, rfl, Nat.le_refl _, by unfold maxLen; omega, (fun e => by cases e), fun i hi => ?_⟩
  obtain rfl : i = 0 := by simp at hi; omega
  exact ⟨w.heap.size, 0, k, n, s, a, l, c, rfl, by simp, by simpa using c0, by simpa using c1, by simpa using c2, by simpa using c3, hx.below hb⟩
theorem ans_comp (ns : List ByteArray) (vs : List Tm) (W : World) (cells : Array Value) (hts : HasTs ((W.alloc (.cells (ns.map Value.string).toArray 9)).alloc (.cells cells 24)) (.slice (some ⟨W.heap.size + 1, 0, none⟩) vs.length vs.length) vs) (hT : TabP W)
    (hv : ∀ t ∈ vs, t.byt ≤ 2000000 ∧ t.size ≤ 1000000) (hvl : vs.length ≤ 1000) (hnl : ns.length ≤ 1000) (hn : ∀ s ∈ ns, s.size ≤ 2000000) :
    Calls Tryd.prog 9 #[.slice (some ⟨W.heap.size, 0, none⟩) ns.length ns.length, .slice (some ⟨W.heap.size + 1, 0, none⟩) vs.length vs.length] ((W.alloc (.cells (ns.map Value.string).toArray 9)).alloc (.cells cells 24)) fun e w' => e = .returned (.string (strV (ansL ns vs))) ∧ Below W.heap.size W w' := by
  have hb := bel_al (bel_al (Below.refl W.heap.size W) (.cells (ns.map Value.string).toArray 9)) (.cells cells 24)
  have hx : ((W.alloc (.cells (ns.map Value.string).toArray 9)).alloc (.cells cells 24)).heap[W.heap.size]? = some (.cells (ns.map Value.string).toArray 9 (0, 0)) := (Below.block (bel_al (Below.refl _ (W.alloc (.cells (ns.map Value.string).toArray 9))) _) _ (by simp)).trans (alloc_new _ _)
  refine (answer_at ns vs _ ns.length _ vs.length _ (fun i s hs => ⟨W.heap.size, 0, rfl, (Array.getElem?_eq_some_iff.1 hx).1, ?_⟩) (Nat.le_refl _) (by unfold maxLen; omega) (fun e => by cases e) hts (hT.later hb) hv hvl (by omega) hn).mono fun e w' h => ⟨h.1, bel hb h.2⟩
  rw [Lib.cell_of_heap hx]
  simp [hs]
def bX : ByteArray := ByteArray.mk #[88]
def bY : ByteArray := ByteArray.mk #[89]
def bH : ByteArray := ByteArray.mk #[95]
theorem tell_X (T : Tm) : tellO (bX, T) = some (ByteArray.mk #[88, 32, 61, 32] ++ strV T.txt) := by
  unfold tellO
  rw [if_neg (by show ¬ Lib.hasPrefix bX.data.toList [95] = true; decide)]
  congr 1
theorem tell_Y (T : Tm) : tellO (bY, T) = some (ByteArray.mk #[89, 32, 61, 32] ++ strV T.txt) := by
  unfold tellO
  rw [if_neg (by show ¬ Lib.hasPrefix bY.data.toList [95] = true; decide)]
  congr 1
theorem tell_H (T : Tm) : tellO (bH, T) = none := by
  unfold tellO
  rw [if_pos (by show Lib.hasPrefix bH.data.toList [95] = true; decide)]
theorem ans_one {ns : List ByteArray} {vs : List Tm} {s : ByteArray} (h : toldL ns vs (ns.zip vs).length = [s]) : strV (ansL ns vs) = s := by
  refine str_ext ?_
  rw [strV_list]
  unfold ansL
  rw [h, if_neg (by simp)]
  simp [Lib.join_one]
theorem ans_two8 {ns : List ByteArray} {vs : List Tm} {s t : ByteArray} (h : toldL ns vs (ns.zip vs).length = [s, t]) : strV (ansL ns vs) = s ++ ByteArray.mk #[44, 32] ++ t := by
  refine str_ext ?_
  rw [strV_list]
  unfold ansL
  rw [h, if_neg (by simp)]
  simp [Lib.join_cons, Lib.joinTail, ByteArray.data_append]
theorem told1 (T : Tm) : toldL [bX] [T] 1 = [ByteArray.mk #[88, 32, 61, 32] ++ strV T.txt] := by unfold toldL; simp [tell_X]
theorem told2 (T U : Tm) : toldL [bX, bY] [T, U] 2 = [ByteArray.mk #[88, 32, 61, 32] ++ strV T.txt, ByteArray.mk #[89, 32, 61, 32] ++ strV U.txt] := by unfold toldL; simp [tell_X, tell_Y]
theorem told3 (T U : Tm) : toldL [bH, bY] [T, U] 2 = [ByteArray.mk #[89, 32, 61, 32] ++ strV U.txt] := by unfold toldL; simp [tell_H, tell_Y]
theorem told4 (T : Tm) : toldL [bX, bY] [T] 1 = [ByteArray.mk #[88, 32, 61, 32] ++ strV T.txt] := by unfold toldL; simp [tell_X]
theorem ansA {T : Tm} {k n : Int} {s : ByteArray} {a : Option Addr} {l c : Nat} (W : World) (hx : Has W (.agg #[.int .i64 k, .int .i64 n, .string s, .slice a l c]) T) (hT : TabP W) (hv : T.byt ≤ 2000000 ∧ T.size ≤ 1000000) : Calls Tryd.prog 9 #[.slice (some ⟨W.heap.size, 0, none⟩) 1 1, .slice (some ⟨W.heap.size + 1, 0, none⟩) 1 1] ((W.alloc (.cells #[.string (ByteArray.mk #[88])] 9)).alloc (.cells #[.int .i64 k, .int .i64 n, .string s, .slice a l c] 24)) fun e w' => e = .returned (.string (ByteArray.mk #[88, 32, 61, 32] ++ strV T.txt)) ∧ Below W.heap.size W w' := by
  have h1 := one_ts8 (hx.below (bel_al (Below.refl W.heap.size W) (.cells #[.string (ByteArray.mk #[88])] 9)))
  rw [World.size_alloc] at h1
  have h := ans_comp [bX] [T] W #[.int .i64 k, .int .i64 n, .string s, .slice a l c] h1 hT (fun t ht => by simp at ht; subst ht; exact hv) (by simp) (by simp) (fun s hs => by simp at hs; subst hs; decide)
  rw [ans_one (told1 T)] at h
  exact h
theorem ansD {T : Tm} {k n : Int} {s : ByteArray} {a : Option Addr} {l c : Nat} (W : World) (hx : Has W (.agg #[.int .i64 k, .int .i64 n, .string s, .slice a l c]) T) (hT : TabP W) (hv : T.byt ≤ 2000000 ∧ T.size ≤ 1000000) : Calls Tryd.prog 9 #[.slice (some ⟨W.heap.size, 0, none⟩) 2 2, .slice (some ⟨W.heap.size + 1, 0, none⟩) 1 1] ((W.alloc (.cells #[.string (ByteArray.mk #[88]), .string (ByteArray.mk #[89])] 9)).alloc (.cells #[.int .i64 k, .int .i64 n, .string s, .slice a l c] 24)) fun e w' => e = .returned (.string (ByteArray.mk #[88, 32, 61, 32] ++ strV T.txt)) ∧ Below W.heap.size W w' := by
  have h1 := one_ts8 (hx.below (bel_al (Below.refl W.heap.size W) (.cells #[.string (ByteArray.mk #[88]), .string (ByteArray.mk #[89])] 9)))
  rw [World.size_alloc] at h1
  have h := ans_comp [bX, bY] [T] W #[.int .i64 k, .int .i64 n, .string s, .slice a l c] h1 hT (fun t ht => by simp at ht; subst ht; exact hv) (by simp) (by simp) (fun s hs => by simp at hs; rcases hs with rfl | rfl <;> decide)
  rw [ans_one (told4 T)] at h
  exact h
theorem ansB {T U : Tm} {k n : Int} {s : ByteArray} {a : Option Addr} {l c : Nat} {k' n' : Int} {s' : ByteArray} {a' : Option Addr} {l' c' : Nat} (W : World) (hx : Has W (.agg #[.int .i64 k, .int .i64 n, .string s, .slice a l c]) T) (hy : Has W (.agg #[.int .i64 k', .int .i64 n', .string s', .slice a' l' c']) U) (hT : TabP W) (hv : T.byt ≤ 2000000 ∧ T.size ≤ 1000000) (hu : U.byt ≤ 2000000 ∧ U.size ≤ 1000000) : Calls Tryd.prog 9 #[.slice (some ⟨W.heap.size, 0, none⟩) 2 2, .slice (some ⟨W.heap.size + 1, 0, none⟩) 2 2] ((W.alloc (.cells #[.string (ByteArray.mk #[88]), .string (ByteArray.mk #[89])] 9)).alloc (.cells #[.int .i64 k, .int .i64 n, .string s, .slice a l c, .int .i64 k', .int .i64 n', .string s', .slice a' l' c'] 24)) fun e w' => e = .returned (.string (ByteArray.mk #[88, 32, 61, 32] ++ strV T.txt ++ ByteArray.mk #[44, 32] ++ (ByteArray.mk #[89, 32, 61, 32] ++ strV U.txt))) ∧ Below W.heap.size W w' := by
  have hb := bel_al (Below.refl W.heap.size W) (.cells #[.string (ByteArray.mk #[88]), .string (ByteArray.mk #[89])] 9)
  have h1 := two8 (hx.below hb) (hy.below hb)
  rw [World.size_alloc] at h1
  have h := ans_comp [bX, bY] [T, U] W #[.int .i64 k, .int .i64 n, .string s, .slice a l c, .int .i64 k', .int .i64 n', .string s', .slice a' l' c'] h1 hT (fun t ht => by simp at ht; rcases ht with rfl | rfl; exact hv; exact hu) (by simp) (by simp) (fun s hs => by simp at hs; rcases hs with rfl | rfl <;> decide)
  rw [ans_two8 (told2 T U)] at h
  exact h
theorem ansC {T U : Tm} {k n : Int} {s : ByteArray} {a : Option Addr} {l c : Nat} {k' n' : Int} {s' : ByteArray} {a' : Option Addr} {l' c' : Nat} (W : World) (hx : Has W (.agg #[.int .i64 k, .int .i64 n, .string s, .slice a l c]) T) (hy : Has W (.agg #[.int .i64 k', .int .i64 n', .string s', .slice a' l' c']) U) (hT : TabP W) (hv : T.byt ≤ 2000000 ∧ T.size ≤ 1000000) (hu : U.byt ≤ 2000000 ∧ U.size ≤ 1000000) : Calls Tryd.prog 9 #[.slice (some ⟨W.heap.size, 0, none⟩) 2 2, .slice (some ⟨W.heap.size + 1, 0, none⟩) 2 2] ((W.alloc (.cells #[.string (ByteArray.mk #[95]), .string (ByteArray.mk #[89])] 9)).alloc (.cells #[.int .i64 k, .int .i64 n, .string s, .slice a l c, .int .i64 k', .int .i64 n', .string s', .slice a' l' c'] 24)) fun e w' => e = .returned (.string (ByteArray.mk #[89, 32, 61, 32] ++ strV U.txt)) ∧ Below W.heap.size W w' := by
  have hb := bel_al (Below.refl W.heap.size W) (.cells #[.string (ByteArray.mk #[95]), .string (ByteArray.mk #[89])] 9)
  have h1 := two8 (hx.below hb) (hy.below hb)
  rw [World.size_alloc] at h1
  have h := ans_comp [bH, bY] [T, U] W #[.int .i64 k, .int .i64 n, .string s, .slice a l c, .int .i64 k', .int .i64 n', .string s', .slice a' l' c'] h1 hT (fun t ht => by simp at ht; rcases ht with rfl | rfl; exact hv; exact hu) (by simp) (by simp) (fun s hs => by simp at hs; rcases hs with rfl | rfl <;> decide)
  rw [ans_one (told3 T U)] at h
  exact h
end Go.Proofs.YtfencolokfghfaaDoor
