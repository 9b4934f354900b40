/-
  The operators, apart from memory: the rows of the table, what a name is between two operands and ahead of one.
-/
import Derived.WalkKit
namespace Go.Proofs.YtfencolokfghfaaGreatDoor
open Go.RowKit
set_option linter.unusedVariables false

/-- A row of the table: priority, type, name. -/
structure Op3 where
  pri : Nat
  ty : List UInt8
  nm : List UInt8
  deriving DecidableEq

def table : List Op3 := [
  ⟨1200, [120, 102, 120], [58, 45]⟩, ⟨1200, [102, 120], [58, 45]⟩, ⟨1150, [120, 102, 120], [58, 58]⟩, ⟨1100, [120, 102, 121], [59]⟩,
  ⟨1050, [120, 102, 121], [45, 62]⟩, ⟨1000, [120, 102, 121], [44]⟩, ⟨900, [102, 121], [92, 43]⟩, ⟨700, [120, 102, 120], [61]⟩,
  ⟨700, [120, 102, 120], [92, 61]⟩, ⟨700, [120, 102, 120], [61, 61]⟩, ⟨700, [120, 102, 120], [92, 61, 61]⟩, ⟨700, [120, 102, 120], [64, 60]⟩,
  ⟨700, [120, 102, 120], [105, 115]⟩, ⟨700, [120, 102, 120], [61, 58, 61]⟩, ⟨700, [120, 102, 120], [61, 92, 61]⟩, ⟨700, [120, 102, 120], [60]⟩,
  ⟨700, [120, 102, 120], [62]⟩, ⟨700, [120, 102, 120], [61, 60]⟩, ⟨700, [120, 102, 120], [62, 61]⟩, ⟨500, [121, 102, 120], [43]⟩,
  ⟨500, [121, 102, 120], [45]⟩, ⟨400, [121, 102, 120], [42]⟩, ⟨400, [121, 102, 120], [47, 47]⟩, ⟨400, [121, 102, 120], [109, 111, 100]⟩,
  ⟨200, [102, 121], [45]⟩, ⟨190, [120, 102, 120], [64]⟩]

def rowAt (j : Nat) : Op3 := table.getD j ⟨0, [], []⟩
def priN (j : Nat) : Int := (rowAt j).pri
def tyN (j : Nat) : ByteArray := ⟨(rowAt j).ty.toArray⟩
def nmN (j : Nat) : ByteArray := ⟨(rowAt j).nm.toArray⟩
def tyC (j p : Nat) : UInt8 := (rowAt j).ty.getD p 0

/-- The cells of the table. -/
def tabCells : Array Value := (table.flatMap fun o => [.int .i64 o.pri, .string ⟨o.ty.toArray⟩, .string ⟨o.nm.toArray⟩]).toArray

/-- Is it the row of that name whose type has its f at that place? -/
def hit (p : Nat) (l : List UInt8) (j : Nat) : Bool := decide ((rowAt j).nm = l) && decide (tyC j p = 102)

/-- What a name is between two operands. -/
def infR (l : List UInt8) : Option (Nat × Nat × Nat) :=
  if l = [58, 45] then some (1199, 1200, 1199)
  else if l = [58, 58] then some (1149, 1150, 1149)
  else if l = [59] then some (1099, 1100, 1100)
  else if l = [45, 62] then some (1049, 1050, 1050)
  else if l = [44] then some (999, 1000, 1000)
  else if l ∈ ([[61], [92, 61], [61, 61], [92, 61, 61], [64, 60], [105, 115], [61, 58, 61], [61, 92, 61], [60], [62], [61, 60], [62, 61]] : List (List UInt8)) then some (699, 700, 699)
  else if l = [43] ∨ l = [45] then some (500, 500, 499)
  else if l = [42] ∨ l = [47, 47] ∨ l = [109, 111, 100] then some (400, 400, 399)
  else if l = [64] then some (189, 190, 189)
  else none
/-- What a name is ahead of one operand. -/
def preR (l : List UInt8) : Option (Nat × Nat) :=
  if l = [58, 45] then some (1200, 1199)
  else if l = [92, 43] then some (900, 900)
  else if l = [45] then some (200, 200)
  else none

theorem lt26 {j : Nat} (h : j < 26) : j = 0 ∨ j = 1 ∨ j = 2 ∨ j = 3 ∨ j = 4 ∨ j = 5 ∨ j = 6 ∨ j = 7 ∨ j = 8 ∨ j = 9 ∨ j = 10 ∨ j = 11 ∨ j = 12 ∨ j = 13 ∨ j = 14 ∨ j = 15 ∨ j = 16 ∨ j = 17 ∨ j = 18 ∨ j = 19 ∨ j = 20 ∨ j = 21 ∨ j = 22 ∨ j = 23 ∨ j = 24 ∨ j = 25 := by omega

/-- The greatest priority of the operand at a place. -/
def grt (j p : Nat) : Int := if tyC j p = 120 then priN j - 1 else priN j

theorem row_facts : ∀ j, j < 26 → 1 ≤ (rowAt j).pri ∧ (rowAt j).pri ≤ 1200 ∧ 2 ≤ (rowAt j).ty.length ∧ (rowAt j).ty.length ≤ 3 ∧ 1 ≤ (rowAt j).nm.length ∧ (rowAt j).nm.length ≤ 3 := by decide +kernel
theorem inf_row : ∀ j, j < 26 → tyC j 1 = 102 → (rowAt j).ty.length = 3 ∧ infR (rowAt j).nm = some ((grt j 0).toNat, (rowAt j).pri, (grt j 2).toNat) := by decide +kernel
theorem pre_row : ∀ j, j < 26 → tyC j 0 = 102 → (rowAt j).ty.length = 2 ∧ preR (rowAt j).nm = some ((rowAt j).pri, (grt j 1).toNat) := by decide +kernel
theorem inf_none {l : List UInt8} (h : ∀ i, i < 26 → hit 1 l i = false) : infR l = none := by
  have k : ∀ i, i < 26 → tyC i 1 = 102 → (rowAt i).nm ≠ l := fun i hi ht e => by
    have := h i hi
    simp [hit, e, ht] at this
  have k' : ∀ i, i < 26 → tyC i 1 = 102 → l ≠ (rowAt i).nm := fun i hi ht e => k i hi ht e.symm
  have a0 : l ≠ [58, 45] := k' 0 (by decide) (by decide)
  have a2 : l ≠ [58, 58] := k' 2 (by decide) (by decide)
  have a3 : l ≠ [59] := k' 3 (by decide) (by decide)
  have a4 : l ≠ [45, 62] := k' 4 (by decide) (by decide)
  have a5 : l ≠ [44] := k' 5 (by decide) (by decide)
  have a7 : l ≠ [61] := k' 7 (by decide) (by decide)
  have a8 : l ≠ [92, 61] := k' 8 (by decide) (by decide)
  have a9 : l ≠ [61, 61] := k' 9 (by decide) (by decide)
  have a10 : l ≠ [92, 61, 61] := k' 10 (by decide) (by decide)
  have a11 : l ≠ [64, 60] := k' 11 (by decide) (by decide)
  have a12 : l ≠ [105, 115] := k' 12 (by decide) (by decide)
  have a13 : l ≠ [61, 58, 61] := k' 13 (by decide) (by decide)
  have a14 : l ≠ [61, 92, 61] := k' 14 (by decide) (by decide)
  have a15 : l ≠ [60] := k' 15 (by decide) (by decide)
  have a16 : l ≠ [62] := k' 16 (by decide) (by decide)
  have a17 : l ≠ [61, 60] := k' 17 (by decide) (by decide)
  have a18 : l ≠ [62, 61] := k' 18 (by decide) (by decide)
  have a19 : l ≠ [43] := k' 19 (by decide) (by decide)
  have a20 : l ≠ [45] := k' 20 (by decide) (by decide)
  have a21 : l ≠ [42] := k' 21 (by decide) (by decide)
  have a22 : l ≠ [47, 47] := k' 22 (by decide) (by decide)
  have a23 : l ≠ [109, 111, 100] := k' 23 (by decide) (by decide)
  have a25 : l ≠ [64] := k' 25 (by decide) (by decide)
  unfold infR
  simp [a0, a2, a3, a4, a5, a7, a8, a9, a10, a11, a12, a13, a14, a15, a16, a17, a18, a19, a20, a21, a22, a23, a25]
theorem pre_none {l : List UInt8} (h : ∀ i, i < 26 → hit 0 l i = false) : preR l = none := by
  have k' : ∀ i, i < 26 → tyC i 0 = 102 → l ≠ (rowAt i).nm := fun i hi ht e => by
    have := h i hi
    simp [hit, e.symm, ht] at this
  have a1 : l ≠ [58, 45] := k' 1 (by decide) (by decide)
  have a6 : l ≠ [92, 43] := k' 6 (by decide) (by decide)
  have a24 : l ≠ [45] := k' 24 (by decide) (by decide)
  unfold preR
  simp [a1, a6, a24]
end Go.Proofs.YtfencolokfghfaaGreatDoor
