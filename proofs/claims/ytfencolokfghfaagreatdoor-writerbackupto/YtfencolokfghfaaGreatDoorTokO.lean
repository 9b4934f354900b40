/-
  Rows that are made by appending: of bytes (and the text that they are), of tokens.
-/
import Derived.Test.YtfencolokfghfaaGreatDoorTokC
import Derived.OwnWalk
import Derived.Laws.AppendOwnNone
import Derived.Maps.AppendAt
import Derived.Laws.BytesArg
import Derived.Deep.Heap
namespace Go.Proofs.YtfencolokfghfaaGreatDoor
open Go.RowKit Go.Lib
set_option linter.unusedVariables false

/-- Every cell of a block of one's own. -/
theorem add_off (b o j : Nat) : (Addr.add ⟨b, o, none⟩ j) = ⟨b, o + j, none⟩ := by
  by_cases e : j = 0
  · subst e; simp [Addr.add]
  · simp [Addr.add, e]
theorem cells_at {w : World} {g : Nat} {cur : Array Value} {t : TypeId} {z : Nat × Nat} (h : w.heap[g]? = some (.cells cur t z)) (j : Nat) : w.cell? ⟨g, j, none⟩ = cur[j]? := by simp [World.cell?, h]
theorem owns_below {w w' : World} {base : Nat} {e : TypeId} {size : Nat} {v : Value} {n : Nat} {xs : List Value} (h : w.ownsRow base e size v n xs) (k : Below w.heap.size w w') : w'.ownsRow base e size v n xs := by
  obtain ⟨hl, ⟨h0, h1⟩ | ⟨g, cap, cur, h0, hg, hh, r⟩⟩ := h
  · exact ⟨hl, Or.inl ⟨h0, h1⟩⟩
  · exact ⟨hl, Or.inr ⟨g, cap, cur, h0, hg, by rw [k.block g (Array.getElem?_eq_some_iff.1 hh).1]; exact hh, r⟩⟩

/-! ### Bytes -/
def bytesV (l : List UInt8) : List Value := l.map fun c => .int .u8 (c.toNat : Int)
def OwnB (w : World) (base : Nat) (v : Value) (l : List UInt8) : Prop := w.ownsRow base 5 1 v l.length (bytesV l)
theorem OwnB.nil (w : World) (base : Nat) : OwnB w base (.slice none 0 0) [] := World.ownsRow_nil _ _ _ _
theorem OwnB.below {w w' : World} {base : Nat} {v : Value} {l : List UInt8} (h : OwnB w base v l) (k : Below w.heap.size w w') : OwnB w' base v l := owns_below h k
theorem OwnB.alloc {w : World} {base : Nat} {v : Value} {l : List UInt8} (h : OwnB w base v l) (o : Obj) : OwnB (w.alloc o) base v l := World.ownsRow.alloc h o
theorem OwnB.lt {w : World} {base : Nat} {v : Value} {l : List UInt8} (h : OwnB w base v l) : ∀ k, v.ownBlock = some k → base ≤ k := fun k hk => (World.ownsRow.lt h k hk).1
theorem infoByte : (Tryz.prog.info? 5).map (fun i => (i.zero, i.size, i.bytes)) = some (some (.int .u8 0), 1, 1) := by kernel_rfl
/-- A new row of bytes, its cells written out. -/
theorem OwnB.made (w : World) (base : Nat) (l : List UInt8) (hb : base ≤ w.heap.size) (hl : l.length ≤ maxLen) : OwnB (w.alloc (.cells (bytesV l).toArray 5)) base (.slice (some ⟨w.heap.size, 0, none⟩) l.length l.length) l :=
  ⟨by simp [bytesV], Or.inr ⟨w.heap.size, l.length, (bytesV l).toArray, rfl, hb, alloc_new _ _, Nat.le_refl _, hl, by simp [bytesV], by rw [List.take_of_length_le (by simp [bytesV])]⟩⟩

/-- append onto bytes of one's own, of some that lie in a block. -/
theorem wpList_append_bytes {w : World} {ops : Array Oper} {rest : List Oper} {o : Oper} {a : Act} {Q : Exit → Act → World → Prop} (hgd : o.guard = none) (s x : Operand)
    (ho : o.op = .call { callee := .builtin .append, args := #[s, x], argTypes := #[48, 48] })
    (base : Nat) (v : Value) (l : List UInt8) (hs : a.eval s = v) (hown : OwnB w base v l) (B n : Nat) (r : List UInt8) (hx : a.eval x = .slice (some ⟨B, 0, none⟩) n n) (hn : n = r.length)
    (hr : ∀ j u, (bytesV r)[j]? = some u → w.cell? ⟨B, j, none⟩ = some u)
    (hl : l.length + r.length ≤ 1000000000000) (hbase : base ≤ w.heap.size)
    (h : ∀ v' w', OwnB w' base v' (l ++ r) → w.grownBy w' v.ownBlock → wpList Tryz.prog ops Q rest (a.put o.dst v') w') : wpList Tryz.prog ops Q (o :: rest) a w := by
  subst hn
  obtain ⟨i0, hi, hz0, hz1, hz2⟩ := info_parts infoByte
  refine wpList_append_own _ hgd s x 48 ho base 5 i0 (.int .u8 0) 1 1 Tryz.underlying48 hi hz0 hz1 hz2 rfl (by decide) v l.length (bytesV l) hs hown ⟨B, 0, none⟩ r.length r.length (bytesV r) hx (by simp [bytesV]) (fun j u hj => by rw [add_off, Nat.zero_add]; exact hr j u hj) (by simp [bytesV, Value.oneCell']) (by unfold maxLen; omega) (by omega) hbase ?_
  intro v' w' h1 h2 _
  exact h v' w' (by unfold OwnB bytesV; rw [List.length_append, List.map_append]; exact h1) h2
/-- .. as a text. -/
theorem OwnB.text {w : World} {base : Nat} {v : Value} {l : List UInt8} (h : OwnB w base v l) : (convert 48 9 v).run Tryz.prog w = .ok (.string (strV l)) w := by
  obtain ⟨hl, ⟨rfl, h1⟩ | ⟨g, cap, cur, rfl, hg, hh, h4, h5, h6, h7⟩⟩ := h
  · obtain rfl : l = [] := List.eq_nil_of_length_eq_zero h1
    exact run_convert_bytes_nil _ 48 5 Tryz.underlying48 Tryz.underlying5 _ _ _ Tryz.underlying9
  · refine run_convert_bytes_back w 48 9 5 ⟨g, 0, none⟩ cap l Tryz.underlying48 Tryz.underlying5 Tryz.underlying9 (fun j hj => ?_)
    rw [add_off, Nat.zero_add, cells_at hh]
    have e : (bytesV l)[j]? = some (.int .u8 (l[j].toNat : Int)) := by simp [bytesV, hj]
    rw [← e, ← h7, List.getElem?_take_of_lt (by omega)]
    simp

/-! ### Tokens -/
def cellsT (t : Tok) : List Value := [.int .i64 t.kind, .string (strV t.s), .int .i64 t.n, .bool t.q, .bool t.tight]
def flatT : List Tok → List Value
  | [] => []
  | t :: r => .int .i64 t.kind :: .string (strV t.s) :: .int .i64 t.n :: .bool t.q :: .bool t.tight :: flatT r
theorem flatT_length : ∀ ts, (flatT ts).length = ts.length * 5
  | [] => rfl
  | t :: r => by simp [flatT, flatT_length r]; omega
theorem flatT_append : ∀ ts us, flatT (ts ++ us) = flatT ts ++ flatT us
  | [], _ => rfl
  | t :: r, us => by simp [flatT, flatT_append r us]
theorem flatT_get : ∀ (ts : List Tok) (i : Nat) (t : Tok), ts[i]? = some t → (flatT ts)[i * 5]? = some (.int .i64 t.kind) ∧ (flatT ts)[i * 5 + 1]? = some (.string (strV t.s)) ∧ (flatT ts)[i * 5 + 2]? = some (.int .i64 t.n) ∧ (flatT ts)[i * 5 + 3]? = some (.bool t.q) ∧ (flatT ts)[i * 5 + 4]? = some (.bool t.tight)
  | [], i, q, h => by simp at h
  | p :: r, 0, q, h => by
    have h' : p = q := by simpa using h
    subst h'
    exact ⟨rfl, rfl, rfl, rfl, rfl⟩
  | p :: r, i + 1, q, h => by
    have := flatT_get r i q (by simpa using h)
    have e : (i + 1) * 5 = i * 5 + 5 := by omega
    rw [e]
    exact this
theorem flatT_one : ∀ (ts : List Tok), ∀ u ∈ flatT ts, u.oneCell' = true
  | [], u, h => by simp [flatT] at h
  | t :: r, u, h => by
    simp only [flatT, List.mem_cons] at h
    rcases h with rfl | rfl | rfl | rfl | rfl | h
    · rfl
    · rfl
    · rfl
    · rfl
    · rfl
    · exact flatT_one r u h
/-- A list of tokens in memory. -/
def TksAt (w : World) (v : Value) (ts : List Tok) : Prop := ∃ base, w.ownsRow base 87 5 v ts.length (flatT ts)
def OwnTk (w : World) (base : Nat) (v : Value) (ts : List Tok) : Prop := w.ownsRow base 87 5 v ts.length (flatT ts)
theorem OwnTk.nil (w : World) (base : Nat) : OwnTk w base (.slice none 0 0) [] := World.ownsRow_nil _ _ _ _
theorem OwnTk.below {w w' : World} {base : Nat} {v : Value} {l : List Tok} (h : OwnTk w base v l) (k : Below w.heap.size w w') : OwnTk w' base v l := owns_below h k
theorem OwnTk.alloc {w : World} {base : Nat} {v : Value} {l : List Tok} (h : OwnTk w base v l) (o : Obj) : OwnTk (w.alloc o) base v l := World.ownsRow.alloc h o
theorem OwnTk.lt {w : World} {base : Nat} {v : Value} {l : List Tok} (h : OwnTk w base v l) : ∀ k, v.ownBlock = some k → base ≤ k := fun k hk => (World.ownsRow.lt h k hk).1
theorem OwnTk.form {w : World} {base : Nat} {v : Value} {l : List Tok} (h : OwnTk w base v l) : ∃ a c, v = .slice a l.length c := by
  obtain ⟨hl, ⟨rfl, h1⟩ | ⟨g, cap, cur, rfl, hg, hh, h4, h5, h6, h7⟩⟩ := h
  · exact ⟨none, 0, by rw [h1]⟩
  · exact ⟨_, _, rfl⟩
theorem infoTok : (Tryz.prog.info? 87).map (fun i => (i.zero, i.size, i.bytes)) = some (some (.agg #[.int .i64 0, .string (ByteArray.mk #[]), .int .i64 0, .bool false, .bool false]), 5, 40) := by kernel_rfl
/-- append onto tokens of one's own, of some that lie in a block. -/
theorem wpList_append_toks {w : World} {ops : Array Oper} {rest : List Oper} {o : Oper} {a : Act} {Q : Exit → Act → World → Prop} (hgd : o.guard = none) (s x : Operand)
    (ho : o.op = .call { callee := .builtin .append, args := #[s, x], argTypes := #[56, 56] })
    (base : Nat) (v : Value) (l : List Tok) (hs : a.eval s = v) (hown : OwnTk w base v l) (B n c : Nat) (r : List Tok) (hx : a.eval x = .slice (some ⟨B, 0, none⟩) n c) (hn : n = r.length)
    (hr : ∀ j u, (flatT r)[j]? = some u → w.cell? ⟨B, j, none⟩ = some u)
    (hl : l.length + r.length ≤ 1000000000000) (hbase : base ≤ w.heap.size)
    (h : ∀ v' w', OwnTk w' base v' (l ++ r) → w.grownBy w' v.ownBlock → wpList Tryz.prog ops Q rest (a.put o.dst v') w') : wpList Tryz.prog ops Q (o :: rest) a w := by
  subst hn
  obtain ⟨i0, hi, hz0, hz1, hz2⟩ := info_parts infoTok
  refine wpList_append_own _ hgd s x 56 ho base 87 i0 _ 5 40 Tryz.underlying56 hi hz0 hz1 hz2 rfl (by decide) v l.length (flatT l) hs hown ⟨B, 0, none⟩ r.length c (flatT r) hx (flatT_length r) (fun j u hj => by rw [add_off, Nat.zero_add]; exact hr j u hj) (flatT_one r) (by unfold maxLen; omega) (by omega) hbase ?_
  intro v' w' h1 h2 _
  exact h v' w' (by unfold OwnTk; rw [List.length_append, flatT_append]; exact h1) h2
/-- The cells of the token at a place. -/
theorem OwnTk.cells {w : World} {base : Nat} {v : Value} {l : List Tok} (h : OwnTk w base v l) {i : Nat} {t : Tok} (ht : l[i]? = some t) : ∃ g cap, v = .slice (some ⟨g, 0, none⟩) l.length cap ∧ base ≤ g ∧ g < w.heap.size ∧
    w.cell? ⟨g, i * 5, none⟩ = some (.int .i64 t.kind) ∧ w.cell? ⟨g, i * 5 + 1, none⟩ = some (.string (strV t.s)) ∧ w.cell? ⟨g, i * 5 + 2, none⟩ = some (.int .i64 t.n) ∧ w.cell? ⟨g, i * 5 + 3, none⟩ = some (.bool t.q) ∧ w.cell? ⟨g, i * 5 + 4, none⟩ = some (.bool t.tight) := by
  have hi : i < l.length := (List.getElem?_eq_some_iff.1 ht).1
  obtain ⟨hl, ⟨rfl, h1⟩ | ⟨g, cap, cur, rfl, hg, hh, h4, h5, h6, h7⟩⟩ := h
  · omega
  · obtain ⟨g0, g1, g2, g3, g4⟩ := flatT_get l i t ht
    have cell : ∀ j, j < l.length * 5 → w.cell? ⟨g, j, none⟩ = (flatT l)[j]? := fun j hj => by
      rw [cells_at hh, ← h7, List.getElem?_take_of_lt hj]
      simp
    exact ⟨g, cap, rfl, hg, (Array.getElem?_eq_some_iff.1 hh).1, by rw [cell _ (by omega)]; exact g0, by rw [cell _ (by omega)]; exact g1, by rw [cell _ (by omega)]; exact g2, by rw [cell _ (by omega)]; exact g3, by rw [cell _ (by omega)]; exact g4⟩
end Go.Proofs.YtfencolokfghfaaGreatDoor
