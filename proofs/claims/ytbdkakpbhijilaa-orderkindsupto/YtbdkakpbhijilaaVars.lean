/-
  term.Vars: the numbers of a term's variables, each once, as they first occur.
-/
import Derived.Test.YtbdkakpbhijilaaGround
import Derived.Maps.OwnSet
namespace Go.Proofs.Ytbdkakpbhijilaa
open Go.RowKit Go.Shelf
set_option linter.unusedVariables false
attribute [local go_sem] Oper.semAt_some

def addNew (acc : List Int) (x : Int) : List Int := if acc.contains x then acc else acc ++ [x]
def addV (acc : List Int) (x : Nat × Tm) : List Int := if x.2.kind = 1 then addNew acc x.2.num else acc
/-- The variables of the parts that have come. -/
def varsL (l : List (Nat × Tm)) : List Int := l.foldl addV []
def Tm.vars (T : Tm) : List Int := varsL (T.parts 1)
theorem varsL_snoc (l : List (Nat × Tm)) (x : Nat × Tm) : varsL (l ++ [x]) = addV (varsL l) x := by simp [varsL]
theorem varsL_length (l : List (Nat × Tm)) : (varsL l).length ≤ l.length := by
  suffices h : ∀ acc : List Int, (l.foldl addV acc).length ≤ acc.length + l.length by simpa [varsL] using h []
  induction l with
  | nil => intro acc; simp
  | cons x l ih =>
    intro acc
    have h := ih (addV acc x)
    have h2 : (addV acc x).length ≤ acc.length + 1 := by
      unfold addV addNew
      split
      · split <;> simp
      · omega
    rw [List.foldl_cons, List.length_cons]
    omega

/-- A list of numbers in memory. -/
def IntsAt (w : World) (v : Value) (l : List Int) : Prop :=
  ∃ a cap, v = .slice a l.length cap ∧ l.length ≤ cap ∧ cap ≤ maxLen ∧ (a = none → cap = 0) ∧ ∀ i (h : i < l.length), ∃ b o, a = some ⟨b, o, none⟩ ∧ b < w.heap.size ∧ w.cell? ⟨b, o + i, none⟩ = some (.int .i64 l[i])

theorem IntsAt.below {w w' : World} {v : Value} {l : List Int} (h : IntsAt w v l) (k : Below w.heap.size w w') : IntsAt w' v l := by
  obtain ⟨a, cap, e, h1, h2, h3, h4⟩ := h
  refine ⟨a, cap, e, h1, h2, h3, fun i hi => ?_⟩
  obtain ⟨b, o, e2, hb, hc⟩ := h4 i hi
  exact ⟨b, o, e2, Nat.lt_of_lt_of_le hb k.size, (k.cell (p := ⟨b, _, none⟩) hb).trans hc⟩

theorem ints_of_row {w : World} {base : Nat} {t : TypeId} {v : Value} {l : List Int} (h : w.ownsRow base t 1 v l.length (l.map (Value.int .i64))) : IntsAt w v l := by
  obtain ⟨_, ⟨rfl, h0⟩ | ⟨g, cap, cur, rfl, hg, hh, h1, h2, h3, h4⟩⟩ := h
  · exact ⟨none, 0, by rw [h0], by omega, Nat.zero_le _, fun _ => rfl, fun i hi => by omega⟩
  · refine ⟨some ⟨g, 0, none⟩, cap, rfl, h1, h2, (fun h => by cases h), fun i hi => ⟨g, 0, rfl, (Array.getElem?_eq_some_iff.1 hh).1, ?_⟩⟩
    have e : (cur.toList.take (l.length * 1))[i]? = some (.int .i64 l[i]) := by rw [h4]; simp [hi]
    rw [List.getElem?_take_of_lt (by omega)] at e
    simpa [World.cell?, hh] using e

end Go.Proofs.Ytbdkakpbhijilaa
