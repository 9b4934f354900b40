/-
  What a term is written as, apart from memory; figures and names; what is put on a page out of a new list.
-/
import Derived.Test.YtfencolokfghfaaDoorWrB
import Derived.Test.YtfencolokfghfaaDoorTokQ
import Derived.Lib.ItoaLen
import Derived.LaidLaws
namespace Go.Proofs.YtfencolokfghfaaDoor
open Go.Shelf Go.RowKit Go.Sort
set_option linter.unusedVariables false

def fnL (l : List UInt8) : List UInt8 := if l = [91, 93] then [39, 91, 93, 39] else quoteL l
mutual
/-- The text of a term. -/
def Tm.txt : Tm → List UInt8
  | .mk k n s ks =>
    if k = 1 then 95 :: Lib.itoa n
    else if k = 2 then Lib.itoa n
    else if k = 3 then (if ks.length = 0 then quoteL s.data.toList else fnL s.data.toList ++ 40 :: (Tm.txtc ks).tail ++ [41])
    else if k = 4 ∧ ks.length = 1 then [64, 40] ++ (Tm.txtc ks).tail ++ (44 :: Lib.itoa n ++ [41])
    else [63]
/-- Texts, each with a comma ahead. -/
def Tm.txtc : List Tm → List UInt8
  | [] => []
  | t :: ts => 44 :: (t.txt ++ Tm.txtc ts)
end
mutual
/-- How many bytes the names have. -/
def Tm.byt : Tm → Nat
  | .mk _ _ s ks => s.size + Tm.byts ks
def Tm.byts : List Tm → Nat
  | [] => 0
  | t :: ts => t.byt + Tm.byts ts
end
theorem Tm.txt_mk (k n : Int) (s : ByteArray) (ks : List Tm) : (Tm.mk k n s ks).txt = if k = 1 then 95 :: Lib.itoa n
    else if k = 2 then Lib.itoa n
    else if k = 3 then (if ks.length = 0 then quoteL s.data.toList else fnL s.data.toList ++ 40 :: (Tm.txtc ks).tail ++ [41])
    else if k = 4 ∧ ks.length = 1 then [64, 40] ++ (Tm.txtc ks).tail ++ (44 :: Lib.itoa n ++ [41])
    else [63] := by rw [Tm.txt]
theorem Tm.txtc_nil : Tm.txtc [] = [] := by rw [Tm.txtc]
theorem Tm.txtc_cons (t : Tm) (ts : List Tm) : Tm.txtc (t :: ts) = 44 :: (t.txt ++ Tm.txtc ts) := by rw [Tm.txtc]
theorem Tm.byt_mk (k n : Int) (s : ByteArray) (ks : List Tm) : (Tm.mk k n s ks).byt = s.size + Tm.byts ks := by rw [Tm.byt]
theorem Tm.byts_nil : Tm.byts [] = 0 := by rw [Tm.byts]
theorem Tm.byts_cons (t : Tm) (ts : List Tm) : Tm.byts (t :: ts) = t.byt + Tm.byts ts := by rw [Tm.byts]
theorem Tm.txtc_append : ∀ xs ys, Tm.txtc (xs ++ ys) = Tm.txtc xs ++ Tm.txtc ys
  | [], ys => by rw [Tm.txtc_nil]; rfl
  | x :: xs, ys => by rw [List.cons_append, Tm.txtc_cons, Tm.txtc_cons, Tm.txtc_append xs ys]; simp
theorem Tm.byt_le {t : Tm} : ∀ {ks : List Tm}, t ∈ ks → t.byt ≤ Tm.byts ks
  | u :: us, h => by
    rw [Tm.byts_cons]
    rcases List.mem_cons.1 h with rfl | h
    · omega
    · have := Tm.byt_le h; omega
theorem quoteL_len (l : List UInt8) : (quoteL l).length ≤ 2 * l.length + 2 := by
  unfold quoteL
  split
  · omega
  · have := escL_length l; simp; omega
theorem fnL_len (l : List UInt8) : (fnL l).length ≤ 2 * l.length + 4 := by
  unfold fnL
  split
  · simp
  · have := quoteL_len l; omega
theorem itoa_len (n : Int) (h : i64ok n) : (Lib.itoa n).length ≤ 21 := Lib.itoa_length_le _ h.1 h.2
abbrev TabP (w : World) : Prop := Lib.TabIs Tryd.prog w "internal/strconv.uint64pow10" .u64 Lib.pow10Tab
theorem TabP.later {w W : World} (h : TabP w) (hb : Below w.heap.size w W) : TabP W := by
  unfold TabP Lib.TabIs World.var? at h ⊢
  cases hg : Tryd.prog.globalNamed "internal/strconv.uint64pow10" with
  | none => simp [hg] at h
  | some g =>
    simp only [hg, Option.bind_some] at h ⊢
    have hlt : g < w.heap.size := by
      rcases Nat.lt_or_ge g w.heap.size with h' | h'
      · exact h'
      · simp [Array.getElem?_eq_none h'] at h
    rw [hb.block g hlt]
    exact h
theorem grow_bel (w : World) (k : Nat) (os : Array Obj) : Below w.heap.size w (grow (w.drewN k) os) :=
  ⟨rfl, rfl, rfl, by show w.heap.size ≤ (w.heap ++ os).size; rw [Array.size_append]; omega, fun _ hj => Sort.heap_grow_old (w.drewN k) os hj⟩
set_option maxRecDepth 100000 in
theorem decimal_at (n : Int) (hn : i64ok n) (w : World) (h : TabP w) : Calls Tryd.prog 30 #[.int .i64 n] w fun e w' => e = .returned (.string (strV (Lib.itoa n))) ∧ Below w.heap.size w w' := by
  have hf := Tryd.strconv_FormatInt_10 n hn.1 hn.2 w h
  go_enter Tryd.func30, Tryd.ntmps30
  go_wp2_with (go_at_call 39; refine hf.mono ?_; rintro e W1 ⟨rfl, k, os, rfl⟩)
  go_ret
  exact ⟨rfl, grow_bel _ _ _⟩
theorem str_ext {s t : ByteArray} (h : s.data.toList = t.data.toList) : s = t := by
  obtain ⟨⟨s⟩⟩ := s
  obtain ⟨⟨t⟩⟩ := t
  simp at h
  rw [h]
set_option maxRecDepth 100000 in
set_option maxHeartbeats 1000000 in
theorem functor_at (s : ByteArray) (w : World) (hm : s.size ≤ 2000000) : Calls Tryd.prog 41 #[.string s] w fun e w' => e = .returned (.string (strV (fnL s.data.toList))) ∧ Below w.heap.size w w' := by
  by_cases hs : s.data.toList = [91, 93]
  · obtain rfl : s = ByteArray.mk #[91, 93] := str_ext hs
    go_enter Tryd.func41, Tryd.ntmps41
    go_wp2
    go_ret
    exact ⟨rfl, Below.refl _ _⟩
  · have hq := quote_at s s.data.toList rfl w hm
    have hne : (s.toList == [91, 93]) = false := by
      rw [ByteArray.toList_eq]
      simp only [beq_eq_false_iff_ne, ne_eq]
      exact hs
    have hf : fnL s.data.toList = quoteL s.data.toList := by unfold fnL; rw [if_neg hs]
    rw [hf]
    clear hs
    go_enter Tryd.func41, Tryd.ntmps41
    go_wp2_with (go_at_call 40; refine hq.mono ?_; rintro e W1 ⟨rfl, hb1⟩)
    go_ret
    exact ⟨rfl, hb1⟩
end Go.Proofs.YtfencolokfghfaaDoor
