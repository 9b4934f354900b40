/-
  Lists of numbers that are made by appending; the reference's Has; what the variables of a term with arguments are.
-/
import Derived.Test.YtbdkakpbhijilaaRefA
import Derived.Laws.AppendOwnNone
import Derived.Deep.Heap
namespace Go.Proofs.Ytbdkakpbhijilaa
open Go.RowKit Go.Shelf
set_option linter.unusedVariables false

/-- A slice that owns numbers. -/
def OwnInts (w : World) (base : Nat) (v : Value) (l : List Int) : Prop := w.ownsRow base 3 1 v l.length (l.map (Value.int .i64))
theorem OwnInts.ints {w : World} {base : Nat} {v : Value} {l : List Int} (h : OwnInts w base v l) : IntsAt w v l := ints_of_row h
theorem OwnInts.alloc {w : World} {base : Nat} {v : Value} {l : List Int} (h : OwnInts w base v l) (o : Obj) : OwnInts (w.alloc o) base v l := World.ownsRow.alloc h o
theorem OwnInts.below {w w' : World} {base : Nat} {v : Value} {l : List Int} (h : OwnInts w base v l) (k : Below w.heap.size w w') : OwnInts w' base v l := by
  obtain ⟨hl, ⟨h0, h1⟩ | ⟨g, cap, cur, h0, hg, hh, r⟩⟩ := h
  · exact ⟨hl, Or.inl ⟨h0, h1⟩⟩
  · exact ⟨hl, Or.inr ⟨g, cap, cur, h0, hg, by rw [k.block g (Array.getElem?_eq_some_iff.1 hh).1]; exact hh, r⟩⟩
theorem OwnInts.lt {w : World} {base : Nat} {v : Value} {l : List Int} (h : OwnInts w base v l) : ∀ k, v.ownBlock = some k → base ≤ k := fun k hk => (World.ownsRow.lt h k hk).1
theorem OwnInts.empty (w : World) (base : Nat) (hb : base ≤ w.heap.size) : OwnInts (w.alloc (.cells #[] 3)) base (.slice (some ⟨w.heap.size, 0, none⟩) 0 0) [] :=
  ⟨rfl, Or.inr ⟨w.heap.size, 0, #[], rfl, hb, Go.Deep.blk_alloc_new _ _, Nat.le_refl _, Nat.zero_le _, rfl, rfl⟩⟩
theorem OwnInts.form {w : World} {base : Nat} {v : Value} {l : List Int} (h : OwnInts w base v l) : ∃ a cap, v = .slice a l.length cap := by
  obtain ⟨a, cap, e, _⟩ := h.ints
  exact ⟨a, cap, e⟩

theorem ints_cell {w : World} {a : Addr} {l : List Int} (h : ∀ i (hi : i < l.length), ∃ b o, some a = some ⟨b, o, none⟩ ∧ b < w.heap.size ∧ w.cell? ⟨b, o + i, none⟩ = some (.int .i64 l[i])) (j : Nat) (u : Value) (hu : (l.map (Value.int .i64))[j]? = some u) : w.cell? (a.add j) = some u := by
  have hj : j < l.length := by simpa using (List.getElem?_eq_some_iff.1 hu).1
  obtain ⟨b, o, e, _, hc⟩ := h j hj
  injection e with e
  subst e
  have ea : (Addr.add ⟨b, o, none⟩ j) = ⟨b, o + j, none⟩ := by
    by_cases e : j = 0
    · subst e; simp [Addr.add]
    · simp [Addr.add, e]
  rw [ea, hc, ← hu]
  simp [hj]

/-! What the variables of a term with arguments are. -/

def nums (l : List (Nat × Tm)) : List Int := (l.filter fun x => decide (x.2.kind = 1)).map fun x => x.2.num
theorem foldl_addV (l : List (Nat × Tm)) : ∀ acc, l.foldl addV acc = (nums l).foldl addNew acc := by
  induction l with
  | nil => intro acc; rfl
  | cons x l ih =>
    intro acc
    rw [List.foldl_cons, ih]
    unfold nums addV
    by_cases h : x.2.kind = 1
    · rw [if_pos h, List.filter_cons_of_pos (by simpa using h), List.map_cons, List.foldl_cons]
    · rw [if_neg h, List.filter_cons_of_neg (by simpa using h)]
theorem nums_append (l r : List (Nat × Tm)) : nums (l ++ r) = nums l ++ nums r := by simp [nums]
theorem nums_partss (d e : Nat) : ∀ ks : List Tm, (∀ t ∈ ks, ∀ d e, nums (t.parts d) = nums (t.parts e)) → nums (Tm.partss d ks) = nums (Tm.partss e ks)
  | [], _ => by simp [Tm.partss_nil]
  | t :: ts, h => by rw [Tm.partss_cons, Tm.partss_cons, nums_append, nums_append, h t (by simp) d e, nums_partss d e ts fun u hu => h u (by simp [hu])]
theorem nums_parts (T : Tm) : ∀ d e, nums (T.parts d) = nums (T.parts e) := by
  induction T using Tm.ind with
  | h k n s ks ih =>
    intro d e
    rw [Tm.parts_mk, Tm.parts_mk]
    show nums ([(d, Tm.mk k n s ks)] ++ _) = nums ([(e, Tm.mk k n s ks)] ++ _)
    rw [nums_append, nums_append, nums_partss (d + 1) (e + 1) ks ih]
    congr 1
    unfold nums
    by_cases h : (Tm.mk k n s ks).kind = 1
    · rw [List.filter_cons_of_pos (by simpa using h), List.filter_cons_of_pos (by simpa using h)]; rfl
    · rw [List.filter_cons_of_neg (by simpa using h), List.filter_cons_of_neg (by simpa using h)]

theorem foldl_addNew (acc : List Int) : ∀ xs : List Int, xs.foldl addNew acc = acc ++ (xs.foldl addNew []).filter fun y => !acc.contains y := by
  intro xs
  induction h : xs.length generalizing xs with
  | zero =>
    obtain rfl : xs = [] := List.eq_nil_of_length_eq_zero h
    simp
  | succ n ih =>
    obtain ⟨ys, x, rfl⟩ : ∃ ys x, xs = ys ++ [x] := by
      cases e : xs.reverse with
      | nil => simp at e; subst e; simp at h
      | cons x r => exact ⟨r.reverse, x, by rw [← List.reverse_reverse xs, e]; simp⟩
    have hy := ih ys (by simp at h; omega)
    rw [List.foldl_append, List.foldl_append, hy]
    generalize ys.foldl addNew [] = D
    show addNew _ x = acc ++ (addNew D x).filter _
    unfold addNew
    by_cases ha : acc.contains x = true
    · have h1 : (acc ++ D.filter fun y => !acc.contains y).contains x = true := by simp at ha ⊢; exact Or.inl ha
      rw [if_pos h1]
      split
      · rfl
      · rw [List.filter_append]; simp at ha; simp [ha]
    · have ha' : acc.contains x = false := by simpa using ha
      by_cases hd : D.contains x = true
      · have h1 : (acc ++ D.filter fun y => !acc.contains y).contains x = true := by
          simp at ha' hd ⊢
          exact Or.inr ⟨hd, ha'⟩
        rw [if_pos h1, if_pos hd]
      · have h1 : (acc ++ D.filter fun y => !acc.contains y).contains x = false := by
          simp at ha' hd ⊢
          exact ⟨ha', fun h => absurd h hd⟩
        rw [if_neg (by rw [h1]; decide), if_neg hd, List.filter_append, List.append_assoc]
        simp at ha'
        simp [ha']

theorem addNew_nodup {acc : List Int} (h : acc.Nodup) (x : Int) : (addNew acc x).Nodup := by
  unfold addNew
  split
  · exact h
  · rename_i hc
    rw [List.nodup_append]
    refine ⟨h, by simp, fun a ha b hb => ?_⟩
    simp at hb hc
    subst hb
    intro e
    subst e
    exact hc ha
theorem foldl_nodup : ∀ (xs acc : List Int), acc.Nodup → (xs.foldl addNew acc).Nodup
  | [], acc, h => h
  | x :: xs, acc, h => foldl_nodup xs _ (addNew_nodup h x)
theorem vars_nodup (T : Tm) : T.vars.Nodup := by
  rw [Tm.vars, varsL, foldl_addV]
  exact foldl_nodup _ _ List.nodup_nil
theorem nodup_take {l : List Int} (h : l.Nodup) (i : Nat) (hi : i < l.length) : (l.take i).contains l[i] = false := by
  have e : l = l.take i ++ l[i] :: l.drop (i + 1) := by rw [← List.drop_eq_getElem_cons hi, List.take_append_drop]
  have h' := h
  rw [e, List.nodup_append] at h'
  simp only [List.contains_eq_mem, decide_eq_false_iff_not]
  intro hm
  exact h'.2.2 _ hm _ List.mem_cons_self rfl

theorem vars_two (s : ByteArray) (A B : Tm) : (Tm.mk 3 0 s [A, B]).vars = A.vars ++ B.vars.filter fun y => !A.vars.contains y := by
  have e : nums ((Tm.mk 3 0 s [A, B]).parts 1) = nums (A.parts 1) ++ nums (B.parts 1) := by
    rw [Tm.parts_mk, Tm.partss_cons, Tm.partss_cons, Tm.partss_nil, List.append_nil]
    show nums ([(1, Tm.mk 3 0 s [A, B])] ++ (A.parts 2 ++ B.parts 2)) = _
    rw [nums_append, nums_append, nums_parts A 2 1, nums_parts B 2 1]
    rfl
  rw [Tm.vars, varsL, foldl_addV, e, List.foldl_append, foldl_addNew ((nums (A.parts 1)).foldl addNew []), ← foldl_addV, ← foldl_addV]
  rfl

end Go.Proofs.Ytbdkakpbhijilaa
