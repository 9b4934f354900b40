/-
  Lists of numbers that are made by appending; the reference's Has; what the variables of a term with arguments are.
-/
import Derived.Test.YtnaopkkdidngoaaRefA
import Derived.Laws.AppendOwnNone
import Derived.Deep.Heap
namespace Go.Proofs.Ytnaopkkdidngoaa
open Go.RowKit Go.Shelf
set_option linter.unusedVariables false

/-- A slice that owns numbers. -/
def OwnInts (w : World) (base : Nat) (v : Value) (l : List Int) : Prop := w.ownsRow base 3 1 v l.length (l.map (Value.int .i64))
theorem OwnInts.ints {w : World} {base : Nat} {v : Value} {l : List Int} (h : OwnInts w base v l) : IntsAt w v l := ints_of_row h
theorem OwnInts.alloc {w : World} {base : Nat} {v : Value} {l : List Int} (h : OwnInts w base v l) (o : Obj) : OwnInts (w.alloc o) base v l := World.ownsRow.alloc h o
theorem OwnInts.below {w w' : World} {base : Nat} {v : Value} {l : List Int} (h : OwnInts w base v l) (k : Below w.heap.size w w') : OwnInts w' base v l := by
  obtain ⟨hl, ⟨h0, h1⟩ | ⟨g, cap, cur, h0, hg, hh, r⟩⟩ := h
  · exact ⟨hl, Or.inl ⟨h0, h1⟩⟩
  · exact ⟨hl, Or.inr ⟨g, cap, cur, h0, hg, by rw [k.block g (Array.getElem?_eq_some_iff.1 hh).1]; exact hh, r⟩⟩
theorem OwnInts.lt {w : World} {base : Nat} {v : Value} {l : List Int} (h : OwnInts w base v l) : ∀ k, v.ownBlock = some k → base ≤ k := fun k hk => (World.ownsRow.lt h k hk).1
theorem OwnInts.empty (w : World) (base : Nat) (hb : base ≤ w.heap.size) : OwnInts (w.alloc (.cells #[] 3)) base (.slice (some ⟨w.heap.size, 0, none⟩) 0 0) [] :=
  ⟨rfl, Or.inr ⟨w.heap.size, 0, #[], rfl, hb, Go.Deep.blk_alloc_new _ _, Nat.le_refl _, Nat.zero_le _, rfl, rfl⟩⟩
theorem OwnInts.form {w : World} {base : Nat} {v : Value} {l : List Int} (h : OwnInts w base v l) : ∃ a cap, v = .slice a l.length cap := by
  obtain ⟨a, cap, e, _⟩ := h.ints
  exact ⟨a, cap, e⟩

theorem ints_cell {w : World} {a : Addr} {l : List Int} (h : ∀ i (hi : i < l.length), ∃ b o, some a = some ⟨b, o, none⟩ ∧ b < w.heap.size ∧ w.cell? ⟨b, o + i, none⟩ = some (.int .i64 l[i])) (j : Nat) (u : Value) (hu : (l.map (Value.int .i64))[j]? = some u) : w.cell? (a.add j) = some u := by
  have hj : j < l.length := by simpa using (List.getElem?_eq_some_iff.1 hu).1
  obtain ⟨b, o, e, _, hc⟩ := h j hj
  injection e with e
  subst e
  have ea : (Addr.add ⟨b, o, none⟩ j) = ⟨b, o + j, none⟩ := by
    by_cases e : j = 0
    · subst e; simp [Addr.add]
    · simp [Addr.add, e]
  rw [ea, hc, ← hu]
  simp [hj]

/-- append onto numbers of one's own, of numbers wherever they lie. -/
theorem wpList_append_ints {w : World} {ops : Array Oper} {rest : List Oper} {o : Oper} {a : Act} {Q : Exit → Act → World → Prop} (hgd : o.guard = none) (s x : Operand)
    (ho : o.op = .call { callee := .builtin .append, args := #[s, x], argTypes := #[45, 45] })
    (base : Nat) (v : Value) (l : List Int) (hs : a.eval s = v) (hown : OwnInts w base v l) (u : Value) (r : List Int) (hx : a.eval x = u) (hr : IntsAt w u r)
    (hl : l.length + r.length ≤ 1000000000000) (hbase : base ≤ w.heap.size)
    (h : ∀ v' w', OwnInts w' base v' (l ++ r) → w.grownBy w' v.ownBlock → wpList Try.prog ops Q rest (a.put o.dst v') w') : wpList Try.prog ops Q (o :: rest) a w := by
  obtain ⟨i0, hi, hz0, hz1, hz2⟩ := info_parts infoInt
  obtain ⟨sa, c, rfl, h1, h2, h3, h4⟩ := hr
  cases sa with
  | none =>
    obtain rfl : r = [] := by
      cases r with
      | nil => rfl
      | cons p r => obtain ⟨_, _, e, _⟩ := h4 0 (by simp); cases e
    rw [h3 rfl] at hx
    refine wpList_append_own_none hgd s x 45 ho base 3 i0 1 Try.underlying45 hi v l.length (l.map (Value.int .i64)) hs hown hx ?_
    exact h v w (by rw [List.append_nil]; exact hown) ⟨rfl, rfl, rfl, Nat.le_refl _, fun _ _ _ => rfl⟩
  | some ad =>
    refine wpList_append_own _ hgd s x 45 ho base 3 i0 (.int .i64 0) 1 8 Try.underlying45 hi hz0 hz1 hz2 rfl (by decide) v l.length (l.map (Value.int .i64)) hs hown ad r.length c (r.map (Value.int .i64)) hx (by simp) (ints_cell h4) (by simp [Value.oneCell']) (by unfold maxLen; omega) (by omega) hbase ?_
    intro v' w' h1 h2 _
    exact h v' w' (by unfold OwnInts; rw [List.length_append, List.map_append]; exact h1) h2
set_option maxRecDepth 100000 in
set_option maxHeartbeats 1000000 in
theorem rhas_at (u : Value) (l : List Int) (x : Int) (w : World) (hu : IntsAt w u l) (hl : l.length ≤ 1000000000000) :
    Calls Try.prog 22 #[u, .int .i64 x] w (Gets w (.bool (l.contains x))) := by
  obtain ⟨a, ca, rfl, ha1, ha2, ha3, ha4⟩ := hu
  go_enter Try.func22, Try.ntmps22
  go_wp2_with fail
  go_loopw [5] (fun i wr => ∃ c : Nat, i = .int .i64 c ∧ c ≤ l.length ∧ (l.take c).contains x = false ∧ Below w.heap.size w wr) (fun i _ => l.length - (intOf i).toNat)
  case atStart => exact ⟨0, rfl, Nat.zero_le _, by simp, Below.refl _ _⟩
  case round =>
    obtain ⟨c, rfl, hc, ht, hB⟩ := hrel
    by_cases hlt : c < l.length
    · obtain ⟨b1, o1, rfl, hb1', d1⟩ := ha4 c hlt
      have q1 := (hB.cell (p := ⟨b1, o1 + c, none⟩) hb1').trans d1
      obtain ⟨y, hy⟩ : ∃ y, l[c] = y := ⟨_, rfl⟩
      rw [hy] at q1
      have HT := Lib.hid (And.intro ht (And.intro hB hy))
      clear d1 ha4 ht hB hy
      go_wp2_with fail
      · rename_i he
        have he' : y = x := by simpa using he
        go_ret
        refine ⟨congrArg (fun b => Ending.returned (Value.bool b)) (?_ : true = l.contains x), HT.out.2.1⟩
        have : x ∈ l := by rw [← he', ← HT.out.2.2]; exact List.getElem_mem _
        simpa using this
      · rename_i he
        have he' : ¬ y = x := by simpa using he
        go_roundw
        case rel =>
          refine ⟨c + 1, by simp, hlt, ?_, HT.out.2.1⟩
          rw [List.take_add_one, List.getElem?_eq_getElem hlt, HT.out.2.2]
          have h1 := HT.out.1
          simp at h1 ⊢
          exact ⟨h1, fun e => he' e.symm⟩
        case measure => simp [intOf]; omega
    · have hce : c = l.length := by omega
      subst hce
      clear ha4
      go_wp2_with fail
      go_ret
      rw [List.take_length] at ht
      exact ⟨by rw [ht]; rfl, hB⟩

/-! What the variables of a term with arguments are. -/

def nums (l : List (Nat × Tm)) : List Int := (l.filter fun x => decide (x.2.kind = 1)).map fun x => x.2.num
theorem foldl_addV (l : List (Nat × Tm)) : ∀ acc, l.foldl addV acc = (nums l).foldl addNew acc := by
  induction l with
  | nil => intro acc; rfl
  | cons x l ih =>
    intro acc
    rw [List.foldl_cons, ih]
    unfold nums addV
    by_cases h : x.2.kind = 1
    · rw [if_pos h, List.filter_cons_of_pos (by simpa using h), List.map_cons, List.foldl_cons]
    · rw [if_neg h, List.filter_cons_of_neg (by simpa using h)]
theorem nums_append (l r : List (Nat × Tm)) : nums (l ++ r) = nums l ++ nums r := by simp [nums]
theorem nums_partss (d e : Nat) : ∀ ks : List Tm, (∀ t ∈ ks, ∀ d e, nums (t.parts d) = nums (t.parts e)) → nums (Tm.partss d ks) = nums (Tm.partss e ks)
  | [], _ => by simp [Tm.partss_nil]
  | t :: ts, h => by rw [Tm.partss_cons, Tm.partss_cons, nums_append, nums_append, h t (by simp) d e, nums_partss d e ts fun u hu => h u (by simp [hu])]
theorem nums_parts (T : Tm) : ∀ d e, nums (T.parts d) = nums (T.parts e) := by
  induction T using Tm.ind with
  | h k n s ks ih =>
    intro d e
    rw [Tm.parts_mk, Tm.parts_mk]
    show nums ([(d, Tm.mk k n s ks)] ++ _) = nums ([(e, Tm.mk k n s ks)] ++ _)
    rw [nums_append, nums_append, nums_partss (d + 1) (e + 1) ks ih]
    congr 1
    unfold nums
    by_cases h : (Tm.mk k n s ks).kind = 1
    · rw [List.filter_cons_of_pos (by simpa using h), List.filter_cons_of_pos (by simpa using h)]; rfl
    · rw [List.filter_cons_of_neg (by simpa using h), List.filter_cons_of_neg (by simpa using h)]

theorem foldl_addNew (acc : List Int) : ∀ xs : List Int, xs.foldl addNew acc = acc ++ (xs.foldl addNew []).filter fun y => !acc.contains y := by
  intro xs
  induction h : xs.length generalizing xs with
  | zero =>
    obtain rfl : xs = [] := List.eq_nil_of_length_eq_zero h
    simp
  | succ n ih =>
    obtain ⟨ys, x, rfl⟩ : ∃ ys x, xs = ys ++ [x] := by
      cases e : xs.reverse with
      | nil => simp at e; subst e; simp at h
      | cons x r => exact ⟨r.reverse, x, by rw [← List.reverse_reverse xs, e]; simp⟩
    have hy := ih ys (by simp at h; omega)
    rw [List.foldl_append, List.foldl_append, hy]
    generalize ys.foldl addNew [] = D
    show addNew _ x = acc ++ (addNew D x).filter _
    unfold addNew
    by_cases ha : acc.contains x = true
    · have h1 : (acc ++ D.filter fun y => !acc.contains y).contains x = true := by simp at ha ⊢; exact Or.inl ha
      rw [if_pos h1]
      split
      · rfl
      · rw [List.filter_append]; simp at ha; simp [ha]
    · have ha' : acc.contains x = false := by simpa using ha
      by_cases hd : D.contains x = true
      · have h1 : (acc ++ D.filter fun y => !acc.contains y).contains x = true := by
          simp at ha' hd ⊢
          exact Or.inr ⟨hd, ha'⟩
        rw [if_pos h1, if_pos hd]
      · have h1 : (acc ++ D.filter fun y => !acc.contains y).contains x = false := by
          simp at ha' hd ⊢
          exact ⟨ha', fun h => absurd h hd⟩
        rw [if_neg (by rw [h1]; decide), if_neg hd, List.filter_append, List.append_assoc]
        simp at ha'
        simp [ha']

theorem addNew_nodup {acc : List Int} (h : acc.Nodup) (x : Int) : (addNew acc x).Nodup := by
  unfold addNew
  split
  · exact h
  · rename_i hc
    rw [List.nodup_append]
    refine ⟨h, by simp, fun a ha b hb => ?_⟩
    simp at hb hc
    subst hb
    intro e
    subst e
    exact hc ha
theorem foldl_nodup : ∀ (xs acc : List Int), acc.Nodup → (xs.foldl addNew acc).Nodup
  | [], acc, h => h
  | x :: xs, acc, h => foldl_nodup xs _ (addNew_nodup h x)
theorem vars_nodup (T : Tm) : T.vars.Nodup := by
  rw [Tm.vars, varsL, foldl_addV]
  exact foldl_nodup _ _ List.nodup_nil
theorem nodup_take {l : List Int} (h : l.Nodup) (i : Nat) (hi : i < l.length) : (l.take i).contains l[i] = false := by
  have e : l = l.take i ++ l[i] :: l.drop (i + 1) := by rw [← List.drop_eq_getElem_cons hi, List.take_append_drop]
  have h' := h
  rw [e, List.nodup_append] at h'
  simp only [List.contains_eq_mem, decide_eq_false_iff_not]
  intro hm
  exact h'.2.2 _ hm _ List.mem_cons_self rfl

theorem vars_two (s : ByteArray) (A B : Tm) : (Tm.mk 3 0 s [A, B]).vars = A.vars ++ B.vars.filter fun y => !A.vars.contains y := by
  have e : nums ((Tm.mk 3 0 s [A, B]).parts 1) = nums (A.parts 1) ++ nums (B.parts 1) := by
    rw [Tm.parts_mk, Tm.partss_cons, Tm.partss_cons, Tm.partss_nil, List.append_nil]
    show nums ([(1, Tm.mk 3 0 s [A, B])] ++ (A.parts 2 ++ B.parts 2)) = _
    rw [nums_append, nums_append, nums_parts A 2 1, nums_parts B 2 1]
    rfl
  rw [Tm.vars, varsL, foldl_addV, e, List.foldl_append, foldl_addNew ((nums (A.parts 1)).foldl addNew []), ← foldl_addV, ← foldl_addV]
  rfl

end Go.Proofs.Ytnaopkkdidngoaa
