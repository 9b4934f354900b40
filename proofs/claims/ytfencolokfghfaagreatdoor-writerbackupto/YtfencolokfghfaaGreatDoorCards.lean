/-
  DERIVED. GIVEN WITH THE SEED: THE CARDS: each row of YtfencolokfghfaaGreatDoorRows.lean that lists a variable, with what it lists TIED to the program's text (the seventh form; the later family's looks); each row that meets fmt, with fmt's text TOLD by the authors' own Lean function (tested against real Go, not proved from fmt's source: count such statements apart). THE CARD IS WHAT COUNTS. Prove the row's statement (the work); the ties are given (YtfencolokfghfaaGreatDoorTie.lean); close each card by the builder's one call (the guide's Derived/Test/ToyasCard.lean, 'card_holds'). Laid BY PROGRAM, IN A SANDBOX (cutbox-door.mjs). By AI agents, Wed Nov 11 2026. No macro, syntax, notation, axiom, sorry.
-/
import Derived.Test.YtfencolokfghfaaGreatDoorRows
import GoSem.ClaimSeven
namespace Go.Proofs.YtfencolokfghfaaGreatDoor
namespace Rows

/-- THE TIED CARD OF 'torcherelaw08.WriterBack'. -/
def writerBackCard : Claim7 := { stood := { row := writerBackRow, standIns := [], harness := (true, "3c96b140ff9434f411387d2e586e0e58e10f0272f6e2d0e1f9c5f87c5266d2e3"), looks := true }, kinds := [], alts := [], laidByText := true, laidKinds := [.data, .data, .data, .data, .handle, .sentinel, .sentinel], laidTests := true, laidLooks := .later }
def WriterBackCardSaid : Prop := Claim7.holds Tryz.pinned (.plain (OpenSpec.ofChange writerBackSpec)) writerBackCard

/-- THE SECOND FORM's CARD OF 'torcherelaw08.WriterBack'. -/
def writerBackUptoCard : Claim7 := { stood := { row := writerBackUptoRow, standIns := [], harness := (true, "3c96b140ff9434f411387d2e586e0e58e10f0272f6e2d0e1f9c5f87c5266d2e3"), looks := true }, kinds := [], alts := [], laidByText := true, laidKinds := [.data, .data, .data, .data, .handle, .sentinel, .sentinel], laidTests := true, laidLooks := .later }
def WriterBackUptoCardSaid : Prop := Claim7.holds Tryz.pinned (.plain (OpenSpec.upto writerBackSpec)) writerBackUptoCard
end Rows
end Go.Proofs.YtfencolokfghfaaGreatDoor
