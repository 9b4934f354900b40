/-
  Slices of pairs that a law makes for itself by appending.
-/
import Derived.Test.YtgkbmdlbljjbfaaLaw1
namespace Go.Proofs.Ytgkbmdlbljjbfaa
open Go.RowKit

theorem Try.infoPair : (Try.prog.info? 42).map (fun i => (i.zero, i.size, i.bytes)) = some (some (.agg #[.int .i64 0, .int .i64 0]), 2, 16) := by kernel_rfl

/-- The cells of pairs. -/
def flat : List (Int × Int) → List Value
  | [] => []
  | p :: r => .int .i64 p.1 :: .int .i64 p.2 :: flat r

theorem flat_length : ∀ ps, (flat ps).length = ps.length * 2
  | [] => rfl
  | p :: r => by simp [flat, flat_length r]; omega
theorem flat_append : ∀ ps qs, flat (ps ++ qs) = flat ps ++ flat qs
  | [], _ => rfl
  | p :: r, qs => by simp [flat, flat_append r qs]
theorem flat_get : ∀ (ps : List (Int × Int)) (i : Nat) (h : i < ps.length), (flat ps)[i * 2]? = some (.int .i64 (ps[i]).1) ∧ (flat ps)[i * 2 + 1]? = some (.int .i64 (ps[i]).2)
  | [], i, h => by simp at h
  | p :: r, 0, _ => by simp [flat]
  | p :: r, i + 1, h => by
    have := flat_get r i (by simpa using h)
    have e : (i + 1) * 2 = i * 2 + 2 := by omega
    rw [e]; simpa [flat] using this

/-- A slice that owns pairs. -/
def OwnPairs (w : World) (base : Nat) (v : Value) (ps : List (Int × Int)) : Prop := w.ownsRow base 42 2 v ps.length (flat ps)

theorem OwnPairs.pairs {w : World} {base : Nat} {v : Value} {ps : List (Int × Int)} (h : OwnPairs w base v ps) : ∃ a cap, v = .slice a ps.length cap ∧ ps.length ≤ cap ∧ cap ≤ maxLen ∧ PairsAt w a ps := by
  obtain ⟨_, ⟨rfl, h0⟩ | ⟨g, cap, cur, rfl, hg, hh, h1, h2, h3, h4⟩⟩ := h
  · refine ⟨none, 0, by rw [h0], by omega, Nat.zero_le _, fun i hi => by omega⟩
  · refine ⟨some ⟨g, 0, none⟩, cap, rfl, h1, h2, fun i hi => ?_⟩
    have hlt : g < w.heap.size := (Array.getElem?_eq_some_iff.1 hh).1
    have e : ∀ j, j < ps.length * 2 → w.cell? ⟨g, 0 + j, none⟩ = (flat ps)[j]? := fun j hj => by
      rw [← h4, List.getElem?_take_of_lt hj]
      simp [World.cell?, hh]
    obtain ⟨f0, f1⟩ := flat_get ps i hi
    exact ⟨g, 0, rfl, hlt, by rw [e _ (by omega)]; exact f0, by rw [Nat.add_assoc, e _ (by omega)]; exact f1⟩

theorem OwnPairs.nil (w : World) (base : Nat) : OwnPairs w base (.slice none 0 0) [] := World.ownsRow_nil w base _ _
theorem OwnPairs.alloc {w : World} {base : Nat} {v : Value} {ps : List (Int × Int)} (h : OwnPairs w base v ps) (o : Obj) : OwnPairs (w.alloc o) base v ps := World.ownsRow.alloc h o
theorem OwnPairs.below {w w' : World} {base : Nat} {v : Value} {ps : List (Int × Int)} (h : OwnPairs w base v ps) (k : Below w.heap.size w w') : OwnPairs w' base v ps := by
  obtain ⟨hl, ⟨h0, h1⟩ | ⟨g, cap, cur, h0, hg, hh, r⟩⟩ := h
  · exact ⟨hl, Or.inl ⟨h0, h1⟩⟩
  · exact ⟨hl, Or.inr ⟨g, cap, cur, h0, hg, by rw [k.block g (Array.getElem?_eq_some_iff.1 hh).1]; exact hh, r⟩⟩
theorem OwnPairs.more {w : World} {base : Nat} {v : Value} {ps qs : List (Int × Int)} {n : Nat} {xs : List Value} (h : w.ownsRow base 42 2 v n xs) (hn : n = (ps ++ qs).length) (hx : xs = flat (ps ++ qs)) : OwnPairs w base v (ps ++ qs) := by
  subst hn hx; exact h
theorem OwnPairs.lt {w : World} {base : Nat} {v : Value} {ps : List (Int × Int)} (h : OwnPairs w base v ps) : ∀ k, v.ownBlock = some k → base ≤ k := fun k hk => (World.ownsRow.lt h k hk).1

end Go.Proofs.Ytgkbmdlbljjbfaa
