/-
  The walk of the reference's table (torchereref01): the rows of bools that it makes, and what they hold at the end.
-/
import Derived.Test.YtgkbmdlbljjbfaaRef1
import Derived.StillTailTactics
import Derived.Deep.QuietTactic
import Derived.BigQuiet
import Derived.Deep.AppendLies
import Derived.Deep.Heap
namespace Go.Proofs.Ytgkbmdlbljjbfaa
open Go.RowKit

theorem Try.infoBool : (Try.prog.info? 4).map (fun i => (i.zero, i.size, i.bytes)) = some (some (.bool false), 1, 1) := by kernel_rfl
theorem Try.infoRow : (Try.prog.info? 55).map (fun i => (i.zero, i.size, i.bytes)) = some (some (.slice none 0 0), 1, 24) := by kernel_rfl

/-- What is quiet in one world alone is still in it. -/
theorem quiet_still {P : Program} {ops : Array Oper} {w : World} {Q : Act → Prop} : ∀ (l : List Oper) (a : Act), wpQuiet P ops (fun w' => w' = w) Q l a → wpStill P ops w Q l a
  | [], _, h => h
  | o :: rest, a, h => by
    unfold wpQuiet at h
    unfold wpStill
    split at h
    · rename_i hw
      rw [if_pos hw]
      obtain ⟨v, h1, h2⟩ := h
      have h3 := h1 w rfl
      have h4 := quiet_still rest _ h2
      unfold Oper.quietAt at h3
      unfold Oper.still
      generalize (execOp a.eval o).run P w = res at h3
      cases res with
      | ok nx w' =>
        cases nx with
        | value u => obtain ⟨e1, e2⟩ := h3; subst e2; exact ⟨e1, h4⟩
        | skip => obtain ⟨e1, e2⟩ := h3; subst e2; exact ⟨e1, h4⟩
        | enter f args => exact ⟨h3.1, v, h3.2, h4⟩
        | _ => exact h3.elim
      | _ => exact h3.elim
    · rename_i hw
      rw [if_neg hw]
      exact quiet_still rest _ h

/-- A region that draws its order: its first n operations quiet, the rest in one order. -/
theorem wp_region_quiet_tail {P : Program} {id : Nat} {Q : Exit → Act → World → Prop} {a : Act} {w : World} {l : List Oper} (n : Nat) (hm : P.follows .mixedOrders = true) (hB : Region.lexTailB .any l.toArray n = true) (w1 : World) (hw : w.drew = w1)
    (h : wpQuiet P l.toArray (fun w' => w' = w1) (fun a' => wpList P l.toArray Q (l.drop n) a' w1) (l.take n) a) : (Code.region id l.toArray true).wp P Q a w := by
  subst hw
  exact wp_region_still_tail n hm hB (quiet_still _ _ h)

/-- A row of bools in memory. -/
structure RowAt (w : World) (b n : Nat) (f : Nat → Bool) : Prop where
  lt : b < w.heap.size
  cell : ∀ j, j < n → w.cell? ⟨b, j, none⟩ = some (.bool (f j))
  nf : ∀ o, w.frozen? ⟨b, o, none⟩ = false

theorem RowAt.far {w w' : World} {b n : Nat} {f : Nat → Bool} (h : RowAt w b n f) (hb : w'.heap[b]? = w.heap[b]?) (hs : w.heap.size ≤ w'.heap.size) : RowAt w' b n f :=
  ⟨Nat.lt_of_lt_of_le h.lt hs, fun j hj => by rw [World.cell?_of_block (w := w) hb]; exact h.cell j hj, fun o => by rw [World.frozen?_of_block (w := w) hb]; exact h.nf o⟩
theorem RowAt.set {w : World} {b n : Nat} {f : Nat → Bool} (h : RowAt w b n f) (j : Nat) (hj : j < n) (v : Bool) : RowAt (w.setCell ⟨b, j, none⟩ (.bool v)) b n (fun x => if x = j then v else f x) := by
  refine ⟨by rw [Go.Deep.nblk_setCell]; exact h.lt, fun x hx => ?_, fun o => by rw [World.frozen?_setCell]; exact h.nf o⟩
  by_cases e : x = j
  · subst e; rw [World.cell?_setCell_same _ _ _ (h.cell x hx)]; simp
  · rw [cell_other _ _ _ _ _ (fun h => e h.symm), h.cell x hx]; simp [e]
theorem RowAt.congr {w : World} {b n : Nat} {f f' : Nat → Bool} (h : RowAt w b n f) (e : ∀ j, j < n → f j = f' j) : RowAt w b n f' := ⟨h.lt, fun j hj => by rw [h.cell j hj, e j hj], h.nf⟩
theorem Only.far {b : Nat} {w w' : World} (k : Only b w w') {c n : Nat} {f : Nat → Bool} (hc : c ≠ b) (h : RowAt w c n f) : RowAt w' c n f := h.far (k.block c hc) (by rw [k.size]; exact Nat.le_refl _)

/-- The value of a row. -/
def rowVal (r : Nat → Nat) (n i : Nat) : Value := .slice (some ⟨r i, 0, none⟩) n n

/-- The first k rows, and the slice that holds them. -/
structure Tab1 (w : World) (B : Nat) (v : Value) (n k : Nat) (r : Nat → Nat) (F : Nat → Nat → Bool) : Prop where
  own : w.ownsRow B 55 1 v k ((List.range k).map (rowVal r n))
  rows : ∀ i, i < k → RowAt w (r i) n (F i)
  ge : ∀ i, i < k → B ≤ r i
  ne : ∀ i, i < k → v.ownBlock ≠ some (r i)
  inj : ∀ i j, i < k → j < k → r i = r j → i = j

theorem Tab1.start (w : World) (B n : Nat) (r : Nat → Nat) (F : Nat → Nat → Bool) : Tab1 w B (.slice none 0 0) n 0 r F :=
  ⟨World.ownsRow_nil _ _ _ _, fun i hi => by omega, fun i hi => by omega, fun i hi => by omega, fun i j hi => by omega⟩

/-- Nothing of it has turned. -/
theorem Tab1.kept {w w' : World} {B : Nat} {v : Value} {n k : Nat} {r : Nat → Nat} {F : Nat → Nat → Bool} (h : Tab1 w B v n k r F) (p : Nat) (hs : w.heap.size ≤ w'.heap.size)
    (hb : ∀ q, q < w.heap.size → q ≠ p → w'.heap[q]? = w.heap[q]?) (hp : ∀ i, i < k → r i ≠ p) (hv : v.ownBlock ≠ some p) : Tab1 w' B v n k r F := by
  refine ⟨?_, fun i hi => (h.rows i hi).far (hb _ (h.rows i hi).lt (hp i hi)) hs, h.ge, h.ne, h.inj⟩
  obtain ⟨h1, ⟨h2, h3⟩ | ⟨g, cap, cur, h2, h3, h4, h5⟩⟩ := h.own
  · exact ⟨h1, Or.inl ⟨h2, h3⟩⟩
  · refine ⟨h1, Or.inr ⟨g, cap, cur, h2, h3, ?_, h5⟩⟩
    rw [hb g (Array.getElem?_eq_some_iff.1 h4).1 (fun e => hv (by rw [h2]; simp [Value.ownBlock, e])), h4]

/-- A row more. -/
theorem Tab1.more {w wa w' : World} {B : Nat} {v : Value} {n k : Nat} {r : Nat → Nat} {F : Nat → Nat → Bool} {p gg cp : Nat} {o : Obj} (h : Tab1 w B v n k r F) (R : RowAt w p n (F k)) (hpB : B ≤ p) (hpr : ∀ i, i < k → r i ≠ p) (hpv : v.ownBlock ≠ some p)
    (ha : wa = w.alloc o) (hown : w'.ownsRow B 55 1 (.slice (some ⟨gg, 0, none⟩) (k + 1) cp) (k + 1) ((List.range k).map (rowVal r n) ++ [.slice (some ⟨p, 0, none⟩) n n])) (hg : wa.grownBy w' v.ownBlock) (hat : v.ownBlock = some gg ∨ gg = wa.heap.size) :
    Tab1 w' B (.slice (some ⟨gg, 0, none⟩) (k + 1) cp) n (k + 1) (fun i => if i = k then p else r i) F := by
  have hsz : wa.heap.size = w.heap.size + 1 := by rw [ha]; simp
  have hs : w.heap.size ≤ w'.heap.size := Nat.le_trans (by omega) hg.size
  have hb : ∀ q, q < w.heap.size → v.ownBlock ≠ some q → w'.heap[q]? = w.heap[q]? := fun q hq hne => by
    rw [hg.block q (by omega) (fun e => hne e.symm), ha, Below.heap_alloc w o q hq]
  refine ⟨?_, fun i hi => ?_, fun i hi => ?_, fun i hi => ?_, fun i j hi hj e => ?_⟩
  · have e : (List.range (k + 1)).map (rowVal (fun i => if i = k then p else r i) n) = (List.range k).map (rowVal r n) ++ [.slice (some ⟨p, 0, none⟩) n n] := by
      rw [List.range_succ, List.map_append]
      congr 1
      · exact List.map_congr_left fun i hi => by
          have : i ≠ k := by have := List.mem_range.1 hi; omega
          simp [rowVal, this]
      · simp [rowVal]
    rw [e]; exact hown
  · by_cases e : i = k
    · subst e; simp; exact R.far (hb p R.lt hpv) hs
    · simp [e]; exact (h.rows i (by omega)).far (hb _ (h.rows i (by omega)).lt (h.ne i (by omega))) hs
  · by_cases e : i = k
    · simp [e]; exact hpB
    · simp [e]; exact h.ge i (by omega)
  · intro e1
    simp only [Value.ownBlock, Option.some.injEq] at e1
    by_cases e : i = k
    · simp [e] at e1
      rcases hat with h1 | h1
      · exact hpv (by rw [h1, e1])
      · have := R.lt; omega
    · simp [e] at e1
      rcases hat with h1 | h1
      · exact h.ne i (by omega) (by rw [h1, e1])
      · have := (h.rows i (by omega)).lt; omega
  · by_cases e1 : i = k
    · by_cases e2 : j = k
      · omega
      · simp [e1, e2] at e; exact absurd e.symm (hpr j (by omega))
    · by_cases e2 : j = k
      · simp [e1, e2] at e; exact absurd e (hpr i (by omega))
      · simp [e1, e2] at e; exact h.inj i j (by omega) (by omega) e

/-- What the rows hold at first. -/
def baseTab (ps : List (Int × Int)) : Nat → Nat → Bool := fun i j => decide (i = j) || tab ps i j

end Go.Proofs.Ytgkbmdlbljjbfaa
