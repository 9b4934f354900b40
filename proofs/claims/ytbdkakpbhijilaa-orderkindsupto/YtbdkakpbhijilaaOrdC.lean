/-
  A stack of pairs of terms, in memory of one's own.
-/
import Derived.Test.YtbdkakpbhijilaaOrdB
import Derived.Test.YtbdkakpbhijilaaTail
import Derived.Deep.Heap
namespace Go.Proofs.Ytbdkakpbhijilaa
open Go.RowKit Go.Shelf
set_option linter.unusedVariables false

/-- The four cells of a term. -/
structure Q4 where
  k : Int
  n : Int
  s : ByteArray
  a : Option Addr
  l : Nat
  c : Nat
abbrev Q4.val (q : Q4) : Value := .agg #[.int .i64 q.k, .int .i64 q.n, .string q.s, .slice q.a q.l q.c]
/-- Two terms side by side: eight cells. -/
structure Q8 where
  p : Q4
  r : Q4
def Q8.cells (x : Q8) : List Value := [.int .i64 x.p.k, .int .i64 x.p.n, .string x.p.s, .slice x.p.a x.p.l x.p.c, .int .i64 x.r.k, .int .i64 x.r.n, .string x.r.s, .slice x.r.a x.r.l x.r.c]
theorem Q8.cells_length (x : Q8) : x.cells.length = 8 := rfl
theorem Q8.cells_one (x : Q8) : ∀ u ∈ x.cells, u.oneCell' = true := by
  intro u hu
  simp only [Q8.cells, List.mem_cons, List.not_mem_nil, or_false] at hu
  rcases hu with rfl | rfl | rfl | rfl | rfl | rfl | rfl | rfl <;> rfl
def flat8 : List Q8 → List Value
  | [] => []
  | x :: r => x.cells ++ flat8 r
theorem flat8_length : ∀ xs, (flat8 xs).length = xs.length * 8
  | [] => rfl
  | x :: r => by rw [flat8, List.length_append, flat8_length r, Q8.cells_length, List.length_cons]; omega
theorem flat8_append : ∀ xs ys, flat8 (xs ++ ys) = flat8 xs ++ flat8 ys
  | [], ys => rfl
  | x :: r, ys => by rw [List.cons_append, flat8, flat8, flat8_append r ys, List.append_assoc]
theorem flat8_top (xs : List Q8) (x : Q8) (j : Nat) : (flat8 (xs ++ [x]))[xs.length * 8 + j]? = x.cells[j]? := by
  rw [flat8_append, ← flat8_length xs, List.getElem?_append_right (by omega), Nat.add_sub_cancel_left, flat8, flat8, List.append_nil]
abbrev OwnP (w : World) (base : Nat) (v : Value) (xs : List Q8) : Prop := w.ownsRow base 80 8 v xs.length (flat8 xs)
theorem OwnP.pop {w : World} {base : Nat} {v : Value} {xs : List Q8} {x : Q8} (h : OwnP w base v (xs ++ [x])) : ∃ g cap, v = .slice (some ⟨g, 0, none⟩) (xs.length + 1) cap ∧ base ≤ g ∧ g < w.heap.size ∧ xs.length + 1 ≤ cap ∧ cap ≤ maxLen ∧ OwnP w base (.slice (some ⟨g, 0, none⟩) xs.length cap) xs ∧
    ∀ j u, x.cells[j]? = some u → w.cell? ⟨g, xs.length * 8 + j, none⟩ = some u := by
  have hl : (xs ++ [x]).length = xs.length + 1 := by simp
  unfold OwnP at h
  rw [hl] at h
  obtain ⟨h1, ⟨_, h0⟩ | ⟨g, cap, cur, rfl, hg, hh, hn, hcap, hsz, htake⟩⟩ := h
  · omega
  · refine ⟨g, cap, rfl, hg, (Array.getElem?_eq_some_iff.1 hh).1, hn, hcap, ⟨by rw [flat8_length], .inr ⟨g, cap, cur, rfl, hg, hh, by omega, hcap, hsz, ?_⟩⟩, fun j u hj => ?_⟩
    · have h3 : (cur.toList.take ((xs.length + 1) * 8)).take (xs.length * 8) = (flat8 (xs ++ [x])).take (xs.length * 8) := by rw [htake]
      rw [List.take_take, Nat.min_eq_left (by omega)] at h3
      rw [h3, flat8_append, ← flat8_length xs, List.take_left']
      rfl
    · have hj8 : j < 8 := by have := (List.getElem?_eq_some_iff.1 hj).1; rw [Q8.cells_length] at this; exact this
      have h4 := flat8_top xs x j
      rw [← htake, List.getElem?_take_of_lt (by omega), hj] at h4
      simp only [World.cell?, hh]
      simpa using h4
theorem OwnP.later {w w' : World} {base : Nat} {v : Value} {xs : List Q8} (h : OwnP w base v xs) (k : Below w.heap.size w w') : OwnP w' base v xs := by
  obtain ⟨h1, ⟨h2, h0⟩ | ⟨g, cap, cur, rfl, hg, hh, r⟩⟩ := h
  · exact ⟨h1, .inl ⟨h2, h0⟩⟩
  · exact ⟨h1, .inr ⟨g, cap, cur, rfl, hg, (k.block g (Array.getElem?_eq_some_iff.1 hh).1).trans hh, r⟩⟩
theorem OwnP.form {w : World} {base : Nat} {v : Value} {xs : List Q8} (h : OwnP w base v xs) : ∃ a c, v = .slice a xs.length c := by
  obtain ⟨h1, ⟨h2, h0⟩ | ⟨g, cap, cur, rfl, hg, hh, r⟩⟩ := h
  · exact ⟨none, 0, by rw [h0]; exact h2⟩
  · exact ⟨_, _, rfl⟩
theorem OwnP.lt {w : World} {base : Nat} {v : Value} {xs : List Q8} (h : OwnP w base v xs) : ∀ k, v.ownBlock = some k → base ≤ k ∧ k < w.heap.size := World.ownsRow.lt h
theorem cell8 {W : World} {B : Nat} {x : Q8} {z : Nat} (h : W.heap[B]? = some (.cells x.cells.toArray z (0, 0))) (j : Nat) : W.cell? ⟨B, j, none⟩ = x.cells[j]? := by simp [World.cell?, h]
theorem addr_off (B j : Nat) : (Addr.add ⟨B, 0, none⟩ j) = ⟨B, j, none⟩ := by
  by_cases e : j = 0
  · subst e; simp [Addr.add]
  · simp [Addr.add, e]
theorem infoPair : (Try.prog.info? 80).map (fun i => (i.zero, i.size, i.bytes)) = some (some (.agg #[.int .i64 0, .int .i64 0, .string (ByteArray.mk #[]), .slice none 0 0, .int .i64 0, .int .i64 0, .string (ByteArray.mk #[]), .slice none 0 0]), 8, 112) := by kernel_rfl
/-- append onto a stack of one's own, of one pair that lies in a block. -/
theorem wpList_push {w : World} {ops : Array Oper} {rest : List Oper} {o : Oper} {a : Act} {Q : Exit → Act → World → Prop} (hgd : o.guard = none) (s x : Operand)
    (ho : o.op = .call { callee := .builtin .append, args := #[s, x], argTypes := #[81, 81] })
    (base : Nat) (v : Value) (xs : List Q8) (hs : a.eval s = v) (hown : OwnP w base v xs) (B : Nat) (p : Q8) (hx : a.eval x = .slice (some ⟨B, 0, none⟩) 1 1)
    (hr : w.heap[B]? = some (.cells p.cells.toArray 80 (0, 0)))
    (hl : xs.length + 1 ≤ 1000000000000) (hbase : base ≤ w.heap.size)
    (h : ∀ v' w', OwnP w' base v' (xs ++ [p]) → w.grownBy w' v.ownBlock → (v'.ownBlock = v.ownBlock ∨ v'.ownBlock = some w.heap.size) → wpList Try.prog ops Q rest (a.put o.dst v') w') : wpList Try.prog ops Q (o :: rest) a w := by
  obtain ⟨i0, hi, hz0, hz1, hz2⟩ := info_parts infoPair
  obtain ⟨v', w', hrun, ho', hg, _, hat⟩ := run_append_own_at (P := Try.prog) w base 81 o.type 80 i0 _ 8 112 Try.underlying81 hi hz0 hz1 hz2 rfl (by decide) v xs.length (flat8 xs) hown ⟨B, 0, none⟩ 1 1 p.cells (by rw [Q8.cells_length]) (fun j u hj => by rw [addr_off, cell8 hr]; exact hj) p.cells_one (by unfold maxLen; omega) (by omega) hbase
  have h2 := h v' w' (by unfold OwnP; rw [flat8_append]; simpa [flat8] using ho') hg hat
  refine wpList_plain hgd fun _ hK => ?_
  unfold Oper.wp execOp
  simp only [ho, resolve, invoke, builtin, Sem.run_bind, Sem.run_pure, Result.andThen_ok, List.map_toArray, List.map_cons, List.map_nil, hs, hx, hrun]
  exact hK _ _ h2
/-- append onto a stack, at a step of a region that draws its order. -/
theorem step_push {w : World} {ops : Array Oper} {o : Oper} {a : Act} {K : Act → World → Prop} {Q : Exit → Act → World → Prop} {E : Prop} (hgd : o.guard = none) (s x : Operand)
    (ho : o.op = .call { callee := .builtin .append, args := #[s, x], argTypes := #[81, 81] })
    (base : Nat) (v : Value) (xs : List Q8) (hs : a.eval s = v) (hown : OwnP w base v xs) (B : Nat) (p : Q8) (hx : a.eval x = .slice (some ⟨B, 0, none⟩) 1 1)
    (hr : w.heap[B]? = some (.cells p.cells.toArray 80 (0, 0)))
    (hl : xs.length + 1 ≤ 1000000000000) (hbase : base ≤ w.heap.size)
    (h : ∀ v' w', OwnP w' base v' (xs ++ [p]) → w.grownBy w' v.ownBlock → (v'.ownBlock = v.ownBlock ∨ v'.ownBlock = some w.heap.size) → K (a.put o.dst v') w') :
    if Region.wanted o (yielded ops a.tmps) = true then Oper.wp Try.prog o a w K Q else E := by
  have hw : Region.wanted o (yielded ops a.tmps) = true := by simp [Region.wanted, hgd]
  rw [if_pos hw]
  obtain ⟨i0, hi, hz0, hz1, hz2⟩ := info_parts infoPair
  obtain ⟨v', w', hrun, ho', hg, _, hat⟩ := run_append_own_at (P := Try.prog) w base 81 o.type 80 i0 _ 8 112 Try.underlying81 hi hz0 hz1 hz2 rfl (by decide) v xs.length (flat8 xs) hown ⟨B, 0, none⟩ 1 1 p.cells (by rw [Q8.cells_length]) (fun j u hj => by rw [addr_off, cell8 hr]; exact hj) p.cells_one (by unfold maxLen; omega) (by omega) hbase
  have h2 := h v' w' (by unfold OwnP; rw [flat8_append]; simpa [flat8] using ho') hg hat
  unfold Oper.wp execOp
  simp only [ho, resolve, invoke, builtin, Sem.run_bind, Sem.run_pure, Result.andThen_ok, List.map_toArray, List.map_cons, List.map_nil, hs, hx, hrun]
  exact h2
end Go.Proofs.Ytbdkakpbhijilaa
