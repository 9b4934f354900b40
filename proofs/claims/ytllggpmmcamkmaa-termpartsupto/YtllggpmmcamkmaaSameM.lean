/-
  Small facts on boxes of terms.
-/
import Derived.Test.YtllggpmmcamkmaaShown
import Derived.Test.YtllggpmmcamkmaaOwnT
import Derived.Test.YtllggpmmcamkmaaSame
import Derived.Laws.Concat
import Derived.Test.YtllggpmmcamkmaaFam
import Derived.Deep.RegionHeld3
namespace Go.Proofs.Ytllggpmmcamkmaa
open Go.RowKit Go.Shelf
open Classical
set_option linter.unusedVariables false

theorem has_ok {w : World} {k n : Int} {s : ByteArray} {v : Value} {T : Tm} (h : Has w (.agg #[.int .i64 k, .int .i64 n, .string s, v]) T) : i64ok k ∧ i64ok n ∧ s.size ≤ maxLen := by
  obtain ⟨_, _, _, _, _, _, _, e1, _, _, hki, hni, hsi, _⟩ := h.form
  simp only [Value.agg.injEq, Array.mk.injEq, List.cons.injEq, Value.int.injEq, Value.string.injEq, true_and, and_true] at e1
  obtain ⟨rfl, rfl, rfl, _⟩ := e1
  exact ⟨hki, hni, hsi⟩

theorem set_inv {W : World} {B : Nat} {a b c v u : Value} {t : TypeId} {z : Nat × Nat} (h : (W.setCell ⟨B, 3, none⟩ u).heap[B]? = some (.cells #[a, b, c, v] t z)) : v = u := by
  have hlt : B < W.heap.size := by have := (Array.getElem?_eq_some_iff.1 h).1; simpa using this
  have hW : W.heap[B]? = some W.heap[B] := Array.getElem?_eq_getElem hlt
  have hm : (W.setCell ⟨B, 3, none⟩ u).heap[B]? = some (match W.heap[B] with | .cells c elem frozen => .cells (c.setIfInBounds 3 u) elem frozen | o => o) := by
    show (W.heap.modify B _)[B]? = _
    rw [Array.getElem?_eq_getElem (by rw [Array.size_modify]; exact hlt), Array.getElem_modify_self]
    rfl
  rw [hm] at h
  cases ho : W.heap[B] with
  | cells cur e f =>
    rw [ho] at h
    simp only [Option.some.injEq, Obj.cells.injEq] at h
    have h3 := congrArg (fun x : Array Value => x[3]?) h.1
    have hs := congrArg Array.size h.1
    simp at hs
    simp [hs] at h3
    exact h3.symm
  | _ => rw [ho] at h; simp at h

theorem cell_al {W : World} {a : Addr} {v : Value} (o : Obj) (h : W.cell? a = some v) : (W.alloc o).cell? a = some v := cell_kept h (World.grownBy_alloc W o none) (fun r e => by cases e)

end Go.Proofs.Ytllggpmmcamkmaa
