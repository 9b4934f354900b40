/-
  Slices of pairs that a law makes for itself by appending.
-/
import Derived.Test.YtcicggpcmmnohaaLat
import Derived.Laws.AppendOwnNone
import Derived.Deep.Heap
namespace Go.Proofs.Ytcicggpcmmnohaa
open Go.RowKit

theorem Try.infoPair : (Try.prog.info? 37).map (fun i => (i.zero, i.size, i.bytes)) = some (some (.agg #[.int .i64 0, .int .i64 0]), 2, 16) := by kernel_rfl

/-- The cells of pairs. -/
def flat : List (Int × Int) → List Value
  | [] => []
  | p :: r => .int .i64 p.1 :: .int .i64 p.2 :: flat r

theorem flat_length : ∀ ps, (flat ps).length = ps.length * 2
  | [] => rfl
  | p :: r => by simp [flat, flat_length r]; omega
theorem flat_append : ∀ ps qs, flat (ps ++ qs) = flat ps ++ flat qs
  | [], _ => rfl
  | p :: r, qs => by simp [flat, flat_append r qs]
theorem flat_get : ∀ (ps : List (Int × Int)) (i : Nat) (h : i < ps.length), (flat ps)[i * 2]? = some (.int .i64 (ps[i]).1) ∧ (flat ps)[i * 2 + 1]? = some (.int .i64 (ps[i]).2)
  | [], i, h => by simp at h
  | p :: r, 0, _ => by simp [flat]
  | p :: r, i + 1, h => by
    have := flat_get r i (by simpa using h)
    have e : (i + 1) * 2 = i * 2 + 2 := by omega
    rw [e]; simpa [flat] using this

/-- A slice that owns pairs. -/
def OwnPairs (w : World) (base : Nat) (v : Value) (ps : List (Int × Int)) : Prop := w.ownsRow base 37 2 v ps.length (flat ps)

theorem OwnPairs.pairs {w : World} {base : Nat} {v : Value} {ps : List (Int × Int)} (h : OwnPairs w base v ps) : ∃ a cap, v = .slice a ps.length cap ∧ ps.length ≤ cap ∧ cap ≤ maxLen ∧ (a = none → cap = 0) ∧ PairsAt w a ps := by
  obtain ⟨_, ⟨rfl, h0⟩ | ⟨g, cap, cur, rfl, hg, hh, h1, h2, h3, h4⟩⟩ := h
  · refine ⟨none, 0, by rw [h0], by omega, Nat.zero_le _, fun _ => rfl, fun i hi => by omega⟩
  · refine ⟨some ⟨g, 0, none⟩, cap, rfl, h1, h2, (fun h => by cases h), fun i hi => ?_⟩
    have hlt : g < w.heap.size := (Array.getElem?_eq_some_iff.1 hh).1
    have e : ∀ j, j < ps.length * 2 → w.cell? ⟨g, 0 + j, none⟩ = (flat ps)[j]? := fun j hj => by
      rw [← h4, List.getElem?_take_of_lt hj]
      simp [World.cell?, hh]
    obtain ⟨f0, f1⟩ := flat_get ps i hi
    exact ⟨g, 0, rfl, hlt, by rw [e _ (by omega)]; exact f0, by rw [Nat.add_assoc, e _ (by omega)]; exact f1⟩

theorem OwnPairs.nil (w : World) (base : Nat) : OwnPairs w base (.slice none 0 0) [] := World.ownsRow_nil w base _ _
theorem OwnPairs.alloc {w : World} {base : Nat} {v : Value} {ps : List (Int × Int)} (h : OwnPairs w base v ps) (o : Obj) : OwnPairs (w.alloc o) base v ps := World.ownsRow.alloc h o
theorem OwnPairs.below {w w' : World} {base : Nat} {v : Value} {ps : List (Int × Int)} (h : OwnPairs w base v ps) (k : Below w.heap.size w w') : OwnPairs w' base v ps := by
  obtain ⟨hl, ⟨h0, h1⟩ | ⟨g, cap, cur, h0, hg, hh, r⟩⟩ := h
  · exact ⟨hl, Or.inl ⟨h0, h1⟩⟩
  · exact ⟨hl, Or.inr ⟨g, cap, cur, h0, hg, by rw [k.block g (Array.getElem?_eq_some_iff.1 hh).1]; exact hh, r⟩⟩
theorem OwnPairs.more {w : World} {base : Nat} {v : Value} {ps qs : List (Int × Int)} {n : Nat} {xs : List Value} (h : w.ownsRow base 37 2 v n xs) (hn : n = (ps ++ qs).length) (hx : xs = flat (ps ++ qs)) : OwnPairs w base v (ps ++ qs) := by
  subst hn hx; exact h
theorem OwnPairs.lt {w : World} {base : Nat} {v : Value} {ps : List (Int × Int)} (h : OwnPairs w base v ps) : ∀ k, v.ownBlock = some k → base ≤ k := fun k hk => (World.ownsRow.lt h k hk).1

theorem flat_cell {w : World} {a : Addr} {ps : List (Int × Int)} (h : PairsAt w (some a) ps) (j : Nat) (u : Value) (hu : (flat ps)[j]? = some u) : w.cell? (a.add j) = some u := by
  have hj : j < ps.length * 2 := by rw [← flat_length]; exact (List.getElem?_eq_some_iff.1 hu).1
  obtain ⟨pb, po, e, _, h0, h1⟩ := h (j / 2) (by omega)
  obtain ⟨f0, f1⟩ := flat_get ps (j / 2) (by omega)
  injection e with e
  subst e
  have ea : (Addr.add ⟨pb, po, none⟩ j) = ⟨pb, po + j, none⟩ := by
    by_cases e : j = 0
    · subst e; simp [Addr.add]
    · simp [Addr.add, e]
  rw [ea]
  rcases Nat.mod_two_eq_zero_or_one j with m | m
  · have ej : j / 2 * 2 = j := by omega
    rw [ej] at h0 f0
    rw [h0, ← hu, f0]
  · have ej : j / 2 * 2 + 1 = j := by omega
    rw [Nat.add_assoc, ej] at h1
    rw [ej] at f1
    rw [h1, ← hu, f1]
theorem flat_one : ∀ (ps : List (Int × Int)) (u : Value), u ∈ flat ps → u.oneCell' = true
  | [], _, h => by simp [flat] at h
  | p :: r, u, h => by
    simp only [flat, List.mem_cons] at h
    rcases h with rfl | rfl | h
    · rfl
    · rfl
    · exact flat_one r u h

/-- append onto pairs of one's own, of pairs wherever they lie. -/
theorem wpList_append_pairs {w : World} {ops : Array Oper} {rest : List Oper} {o : Oper} {a : Act} {Q : Exit → Act → World → Prop} (hgd : o.guard = none) (s x : Operand)
    (ho : o.op = .call { callee := .builtin .append, args := #[s, x], argTypes := #[36, 36] })
    (base : Nat) (v : Value) (ps : List (Int × Int)) (hs : a.eval s = v) (hown : OwnPairs w base v ps)
    (sa : Option Addr) (c : Nat) (qs : List (Int × Int)) (n : Nat) (hx : a.eval x = .slice sa n c) (hn : n = qs.length) (hq : PairsAt w sa qs) (hc : sa = none → c = 0)
    (hl : ps.length + qs.length ≤ 1000000) (hbase : base ≤ w.heap.size)
    (h : ∀ v' w', OwnPairs w' base v' (ps ++ qs) → w.grownBy w' v.ownBlock → wpList Try.prog ops Q rest (a.put o.dst v') w') : wpList Try.prog ops Q (o :: rest) a w := by
  subst hn
  obtain ⟨i0, hi, hz0, hz1, hz2⟩ := info_parts Try.infoPair
  cases sa with
  | none =>
    obtain rfl : qs = [] := by
      cases qs with
      | nil => rfl
      | cons p r => obtain ⟨_, _, e, _⟩ := hq 0 (by simp); cases e
    rw [hc rfl] at hx
    refine wpList_append_own_none hgd s x 36 ho base 37 i0 2 Try.underlying36 hi v ps.length (flat ps) hs hown hx ?_
    exact h v w (by rw [List.append_nil]; exact hown) ⟨rfl, rfl, rfl, Nat.le_refl _, fun _ _ _ => rfl⟩
  | some ad =>
    refine wpList_append_own _ hgd s x 36 ho base 37 i0 (.agg #[.int .i64 0, .int .i64 0]) 2 16 Try.underlying36 hi hz0 hz1 hz2 rfl (by decide) v ps.length (flat ps) hs hown ad qs.length c (flat qs) hx (flat_length qs) (flat_cell hq) (flat_one qs) (by unfold maxLen; omega) (by omega) hbase ?_
    intro v' w' h1 h2 _
    exact h v' w' (by unfold OwnPairs; rw [List.length_append, flat_append]; exact h1) h2

/-- A slice of pairs that is written out where it stands. -/
theorem PairsAt.lit1 (w : World) (x y : Int) : PairsAt (w.alloc (.cells #[.int .i64 x, .int .i64 y] 37)) (some ⟨w.heap.size, 0, none⟩) [(x, y)] := fun i hi => by
  have : i = 0 := by simpa using hi
  subst this
  refine ⟨w.heap.size, 0, rfl, by simp, ?_⟩
  rw [World.cell?_alloc_new, World.cell?_alloc_new]
  exact ⟨rfl, rfl⟩
theorem PairsAt.lit2 (w : World) (x y z u : Int) : PairsAt (w.alloc (.cells #[.int .i64 x, .int .i64 y, .int .i64 z, .int .i64 u] 37)) (some ⟨w.heap.size, 0, none⟩) [(x, y), (z, u)] := fun i hi => by
  have : i = 0 ∨ i = 1 := by simp at hi; omega
  rcases this with rfl | rfl
  · refine ⟨w.heap.size, 0, rfl, by simp, ?_⟩
    rw [World.cell?_alloc_new, World.cell?_alloc_new]
    exact ⟨rfl, rfl⟩
  · refine ⟨w.heap.size, 0, rfl, by simp, ?_⟩
    rw [World.cell?_alloc_new, World.cell?_alloc_new]
    exact ⟨rfl, rfl⟩
/-- An empty slice of one's own. -/
theorem OwnPairs.empty (w : World) (base : Nat) (hb : base ≤ w.heap.size) : OwnPairs (w.alloc (.cells #[] 37)) base (.slice (some ⟨w.heap.size, 0, none⟩) 0 0) [] :=
  ⟨rfl, Or.inr ⟨w.heap.size, 0, #[], rfl, hb, Go.Deep.blk_alloc_new _ _, Nat.le_refl _, Nat.zero_le _, rfl, rfl⟩⟩

end Go.Proofs.Ytcicggpcmmnohaa
