/-
  A stack of terms, in memory of one's own; store.Has.
-/
import Derived.Test.YtnaopkkdidngoaaStoC
import Derived.Test.YtnaopkkdidngoaaVars
namespace Go.Proofs.Ytnaopkkdidngoaa
open Go.RowKit Go.Shelf
set_option linter.unusedVariables false

/-- The four cells of a term. -/
structure C4 where
  k : Int
  n : Int
  s : ByteArray
  a : Option Addr
  l : Nat
  c : Nat
abbrev C4.val (x : C4) : Value := .agg #[.int .i64 x.k, .int .i64 x.n, .string x.s, .slice x.a x.l x.c]
def C4.cells (x : C4) : List Value := [.int .i64 x.k, .int .i64 x.n, .string x.s, .slice x.a x.l x.c]
theorem C4.cells_length (x : C4) : x.cells.length = 4 := rfl
theorem C4.cells_one (x : C4) : ∀ u ∈ x.cells, u.oneCell' = true := by
  intro u hu
  simp only [C4.cells, List.mem_cons, List.not_mem_nil, or_false] at hu
  rcases hu with rfl | rfl | rfl | rfl <;> rfl
def flat4 : List C4 → List Value
  | [] => []
  | x :: r => x.cells ++ flat4 r
theorem flat4_length : ∀ xs, (flat4 xs).length = xs.length * 4
  | [] => rfl
  | x :: r => by rw [flat4, List.length_append, flat4_length r, C4.cells_length, List.length_cons]; omega
theorem flat4_append : ∀ xs ys, flat4 (xs ++ ys) = flat4 xs ++ flat4 ys
  | [], ys => rfl
  | x :: r, ys => by rw [List.cons_append, flat4, flat4, flat4_append r ys, List.append_assoc]
theorem flat4_one : ∀ xs, ∀ u ∈ flat4 xs, u.oneCell' = true
  | [], u, h => by cases h
  | x :: r, u, h => by
    rw [flat4] at h
    rcases List.mem_append.1 h with h | h
    · exact x.cells_one u h
    · exact flat4_one r u h
theorem flat4_top (xs : List C4) (x : C4) (j : Nat) : (flat4 (xs ++ [x]))[xs.length * 4 + j]? = x.cells[j]? := by
  rw [flat4_append, ← flat4_length xs, List.getElem?_append_right (by omega), Nat.add_sub_cancel_left, flat4, flat4, List.append_nil]
abbrev OwnC (w : World) (base : Nat) (v : Value) (xs : List C4) : Prop := w.ownsRow base 25 4 v xs.length (flat4 xs)
theorem OwnC.pop {w : World} {base : Nat} {v : Value} {xs : List C4} {x : C4} (h : OwnC w base v (xs ++ [x])) : ∃ g cap, v = .slice (some ⟨g, 0, none⟩) (xs.length + 1) cap ∧ base ≤ g ∧ g < w.heap.size ∧ xs.length + 1 ≤ cap ∧ cap ≤ maxLen ∧ OwnC w base (.slice (some ⟨g, 0, none⟩) xs.length cap) xs ∧
    ∀ j u, x.cells[j]? = some u → w.cell? ⟨g, xs.length * 4 + j, none⟩ = some u := by
  have hl : (xs ++ [x]).length = xs.length + 1 := by simp
  unfold OwnC at h
  rw [hl] at h
  obtain ⟨h1, ⟨_, h0⟩ | ⟨g, cap, cur, rfl, hg, hh, hn, hcap, hsz, htake⟩⟩ := h
  · omega
  · refine ⟨g, cap, rfl, hg, (Array.getElem?_eq_some_iff.1 hh).1, hn, hcap, ⟨by rw [flat4_length], .inr ⟨g, cap, cur, rfl, hg, hh, by omega, hcap, hsz, ?_⟩⟩, fun j u hj => ?_⟩
    · have h3 : (cur.toList.take ((xs.length + 1) * 4)).take (xs.length * 4) = (flat4 (xs ++ [x])).take (xs.length * 4) := by rw [htake]
      rw [List.take_take, Nat.min_eq_left (by omega)] at h3
      rw [h3, flat4_append, ← flat4_length xs, List.take_left']
      rfl
    · have hj8 : j < 4 := by have := (List.getElem?_eq_some_iff.1 hj).1; rw [C4.cells_length] at this; exact this
      have h4 := flat4_top xs x j
      rw [← htake, List.getElem?_take_of_lt (by omega), hj] at h4
      simp only [World.cell?, hh]
      simpa using h4
theorem OwnC.later {w w' : World} {base : Nat} {v : Value} {xs : List C4} (h : OwnC w base v xs) (k : Below w.heap.size w w') : OwnC w' base v xs := by
  obtain ⟨h1, ⟨h2, h0⟩ | ⟨g, cap, cur, rfl, hg, hh, r⟩⟩ := h
  · exact ⟨h1, .inl ⟨h2, h0⟩⟩
  · exact ⟨h1, .inr ⟨g, cap, cur, rfl, hg, (k.block g (Array.getElem?_eq_some_iff.1 hh).1).trans hh, r⟩⟩
theorem OwnC.grown {w w' : World} {base : Nat} {v : Value} {xs : List C4} {row : Option Nat} (h : OwnC w base v xs) (k : w.grownBy w' row) (hr : v.ownBlock ≠ row ∨ v.ownBlock = none) : OwnC w' base v xs := by
  obtain ⟨h1, ⟨h2, h0⟩ | ⟨g, cap, cur, rfl, hg, hh, r⟩⟩ := h
  · exact ⟨h1, .inl ⟨h2, h0⟩⟩
  · refine ⟨h1, .inr ⟨g, cap, cur, rfl, hg, (k.block g (Array.getElem?_eq_some_iff.1 hh).1 (fun e => ?_)).trans hh, r⟩⟩
    rcases hr with hr | hr
    · exact hr e
    · cases hr
theorem OwnC.form {w : World} {base : Nat} {v : Value} {xs : List C4} (h : OwnC w base v xs) : ∃ a c, v = .slice a xs.length c := by
  obtain ⟨h1, ⟨h2, h0⟩ | ⟨g, cap, cur, rfl, hg, hh, r⟩⟩ := h
  · exact ⟨none, 0, by rw [h0]; exact h2⟩
  · exact ⟨_, _, rfl⟩
theorem OwnC.lt {w : World} {base : Nat} {v : Value} {xs : List C4} (h : OwnC w base v xs) : ∀ k, v.ownBlock = some k → base ≤ k ∧ k < w.heap.size := World.ownsRow.lt h
theorem addr4 (B j : Nat) : (Addr.add ⟨B, 0, none⟩ j) = ⟨B, j, none⟩ := by
  by_cases e : j = 0
  · subst e; simp [Addr.add]
  · simp [Addr.add, e]

/-- append onto a stack of one's own, of terms that lie in a row. -/
theorem wpList_pushes {w : World} {ops : Array Oper} {rest : List Oper} {o : Oper} {a : Act} {Q : Exit → Act → World → Prop} (hgd : o.guard = none) (s x : Operand)
    (ho : o.op = .call { callee := .builtin .append, args := #[s, x], argTypes := #[23, 23] })
    (base : Nat) (v : Value) (xs : List C4) (hs : a.eval s = v) (hown : OwnC w base v xs) (ad : Option Addr) (m c : Nat) (ys : List C4) (hx : a.eval x = .slice ad m c) (hm : ys.length = m) (hnone : ad = none → c = 0 ∧ m = 0)
    (hr : ∀ b, ad = some b → ∀ j u, (flat4 ys)[j]? = some u → w.cell? (b.add j) = some u)
    (hl : xs.length + m ≤ 1000000000000) (hbase : base ≤ w.heap.size)
    (h : ∀ v' w', OwnC w' base v' (xs ++ ys) → w.grownBy w' v.ownBlock → (v'.ownBlock = v.ownBlock ∨ v'.ownBlock = some w.heap.size) → wpList Try.prog ops Q rest (a.put o.dst v') w') : wpList Try.prog ops Q (o :: rest) a w := by
  obtain ⟨i0, hi, hz0, hz1, hz2⟩ := info_parts infoTerm
  have hrun : ∃ v' w', (Builtin.append_ #[23, 23] o.type #[v, .slice ad m c]).run Try.prog w = .ok v' w' ∧ OwnC w' base v' (xs ++ ys) ∧ w.grownBy w' v.ownBlock ∧ (v'.ownBlock = v.ownBlock ∨ v'.ownBlock = some w.heap.size) := by
    cases ad with
    | none =>
      obtain ⟨rfl, rfl⟩ := hnone rfl
      have hy : ys = [] := List.eq_nil_of_length_eq_zero hm
      subst hy
      exact ⟨v, w, run_append_owned_none w base 23 o.type 25 i0 4 Try.underlying23 hi v xs.length (flat4 xs) hown, by rw [List.append_nil]; exact hown, ⟨rfl, rfl, rfl, Nat.le_refl _, fun _ _ _ => rfl⟩, Or.inl rfl⟩
    | some ad =>
      obtain ⟨v', w', hrun, ho', hg, _, hat⟩ := run_append_own_at (P := Try.prog) w base 23 o.type 25 i0 _ 4 56 Try.underlying23 hi hz0 hz1 hz2 rfl (by decide) v xs.length (flat4 xs) hown ad m c (flat4 ys) (by rw [flat4_length, hm]) (hr ad rfl) (flat4_one ys) (by unfold maxLen; omega) (by omega) hbase
      refine ⟨v', w', hrun, ?_, hg, hat⟩
      unfold OwnC
      rw [flat4_append, List.length_append, hm]
      exact ho'
  obtain ⟨v', w', hrun, h1, h2, h3⟩ := hrun
  have h2 := h v' w' h1 h2 h3
  refine wpList_plain hgd fun _ hK => ?_
  unfold Oper.wp execOp
  simp only [ho, resolve, invoke, builtin, Sem.run_bind, Sem.run_pure, Result.andThen_ok, List.map_toArray, List.map_cons, List.map_nil, hs, hx, hrun]
  exact hK _ _ h2

/-- Terms in a list. -/
theorem src_cells {p : Nat → Prop} {w : World} {v : Value} {ks : List Tm} (h : TsIn p w v ks) : ∃ a cap qs, v = .slice a ks.length cap ∧ (a = none → cap = 0 ∧ ks.length = 0) ∧ qs.length = ks.length ∧ (∀ (i : Nat) (q : C4) (t : Tm), qs[i]? = some q → ks[i]? = some t → TmIn p w q.val t) ∧ ∀ ad, a = some ad → ∀ j u, (flat4 qs)[j]? = some u → w.cell? (ad.add j) = some u := by
  obtain ⟨a, cap, qs, rfl, h1, h2, h3⟩ := src_quads h
  have hx : ∀ q : Quad, q ∈ qs → ∃ x : C4, q = (x.k, x.n, x.s, .slice x.a x.l x.c) := fun q hq => by
    obtain ⟨i, hi⟩ := List.getElem?_of_mem hq
    have hlt : i < ks.length := by rw [← h2.1]; exact (List.getElem?_eq_some_iff.1 hi).1
    obtain ⟨⟨a', l', c', e⟩, -⟩ := h2.2 i q ks[i] hi (List.getElem?_eq_getElem hlt)
    exact ⟨⟨q.1, q.2.1, q.2.2.1, a', l', c'⟩, by rw [← e]⟩
  have hy : ∃ xs : List C4, qs = xs.map fun x => ((x.k, x.n, x.s, .slice x.a x.l x.c) : Quad) := by
    clear h1 h2 h3
    induction qs with
    | nil => exact ⟨[], rfl⟩
    | cons q r ih =>
      obtain ⟨x, rfl⟩ := hx q (by simp)
      obtain ⟨xs, rfl⟩ := ih fun q hq => hx q (by simp [hq])
      exact ⟨x :: xs, rfl⟩
  obtain ⟨xs, rfl⟩ := hy
  have hf : ∀ xs : List C4, flatQ (xs.map fun x => ((x.k, x.n, x.s, .slice x.a x.l x.c) : Quad)) = flat4 xs := by
    intro xs
    induction xs with
    | nil => rfl
    | cons x r ih => rw [List.map_cons, flatQ, flat4, ih]; rfl
  refine ⟨a, cap, xs, rfl, fun e => ⟨(h1 e).1, by rw [(h1 e).2]; rfl⟩, by have := h2.1; simpa using this, fun i q t hq ht => ?_, by rw [hf] at h3; exact h3⟩
  exact (h2.2 i _ t (by rw [List.getElem?_map, hq]; rfl) ht).2

/-- A term in memory that lay there. -/
structure PT (n₀ : Nat) (w : World) where
  x : C4
  T : Tm
  h : IsTm n₀ w x.val T
def totT {n₀ : Nat} {w : World} : List (PT n₀ w) → Nat
  | [] => 0
  | z :: r => z.T.size + totT r
theorem totT_append {n₀ : Nat} {w : World} : ∀ (xs ys : List (PT n₀ w)), totT (xs ++ ys) = totT xs + totT ys
  | [], ys => by simp [totT]
  | x :: r, ys => by rw [List.cons_append, totT, totT, totT_append r ys]; omega
theorem length_totT {n₀ : Nat} {w : World} : ∀ (xs : List (PT n₀ w)), xs.length ≤ totT xs
  | [] => by simp
  | x :: r => by have := length_totT r; have := x.T.size_pos; rw [List.length_cons, totT]; omega
theorem totT_map {n₀ : Nat} {w : World} : ∀ ys : List (PT n₀ w), totT ys = Tm.sizes (ys.map PT.T)
  | [] => by simp [totT, Tm.sizes_nil]
  | y :: r => by rw [totT, totT_map r, List.map_cons, Tm.sizes_cons]
/-- A list of terms, one by one. -/
theorem list_pts {n₀ : Nat} {w : World} : ∀ (qs : List C4) (ks : List Tm), qs.length = ks.length → (∀ (i : Nat) (q : C4) (t : Tm), qs[i]? = some q → ks[i]? = some t → IsTm n₀ w q.val t) → ∃ zs : List (PT n₀ w), zs.map PT.x = qs ∧ zs.map PT.T = ks
  | [], [], _, _ => ⟨[], rfl, rfl⟩
  | q :: r, t :: ts, hl, h => by
    obtain ⟨zs, h1, h2⟩ := list_pts r ts (by simpa using hl) fun i q' t' hq ht => h (i + 1) q' t' (by simpa using hq) (by simpa using ht)
    exact ⟨⟨q, t, h 0 q t rfl rfl⟩ :: zs, by rw [List.map_cons, h1], by rw [List.map_cons, h2]⟩
  | [], _ :: _, hl, _ => by simp at hl
  | _ :: _, [], hl, _ => by simp at hl
end Go.Proofs.Ytnaopkkdidngoaa
