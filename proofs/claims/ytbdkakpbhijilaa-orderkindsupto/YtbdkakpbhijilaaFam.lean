/-
  A region that draws its order, all of whose calls answer one value in whatever later world: walked once.
-/
import Derived.Test.YtbdkakpbhijilaaSize
import Derived.Deep.QuietTactic
import Derived.BigQuiet
namespace Go.Proofs.Ytbdkakpbhijilaa
open Go.RowKit

/-- A region that draws its order, in a family of worlds. -/
theorem wp_region_fam {P : Program} {id : Nat} {Q : Exit → Act → World → Prop} {a : Act} {w : World} {l : List Oper} {I : Type} (F : I → World) (n0 : I) (h0 : w.drew = F n0) (hm : P.follows .mixedOrders = true) (hB : Region.lexB .any l.toArray = true)
    (h : wpQuiet P l.toArray (fun w' => ∃ n, w' = F n) (fun a' => ∀ w', (∃ n, w' = F n) → Q .normal a' w') l a) : (Code.region id l.toArray true).wp P Q a w :=
  wp_region_quiet (C := fun w' => ∃ n, w' = F n) hm hB ⟨n0, h0⟩ (by simpa using h)

/-- All worlds in which nothing that is here has turned. -/
theorem later_family (w : World) : ∃ (I : Type) (_ : Nonempty I) (F : I → World) (n0 : I), w.drew = F n0 ∧ (∀ n, Below w.heap.size w (F n)) ∧ ∀ n w', Below (F n).heap.size (F n) w' → ∃ m, w' = F m :=
  ⟨{ w' : World // Below w.heap.size w w' }, ⟨⟨w, Below.refl _ _⟩⟩, Subtype.val, ⟨w.drew, (Below.refl _ _).drew⟩, rfl, fun n => n.2, fun n w' h => ⟨⟨w', n.2.trans (h.mono n.2.size)⟩, rfl⟩⟩

/-- A contract over such a family. -/
theorem calls_fam {P : Program} {f : FuncId} {args : Array Value} {I : Type} {F : I → World} {v : Value} (hc : ∀ n w', Below (F n).heap.size (F n) w' → ∃ m, w' = F m) (n : I)
    (h : Calls P f args (F n) (Gets (F n) v)) : Calls P f args (F n) fun e w'' => e = .returned v ∧ ∃ m, w'' = F m :=
  h.mono fun _ _ hg => ⟨hg.1, hc n _ hg.2⟩

end Go.Proofs.Ytbdkakpbhijilaa
