/-
  DERIVED. GIVEN WITH THE SEED: THE CARDS: each row of YtfencolokfghfaaDoorRows.lean that lists a variable, with what it lists TIED to the program's text (the seventh form; the later family's looks); each row that meets fmt, with fmt's text TOLD by the authors' own Lean function (tested against real Go, not proved from fmt's source: count such statements apart). THE CARD IS WHAT COUNTS. Prove the row's statement (the work); the ties are given (YtfencolokfghfaaDoorTie.lean); close each card by the builder's one call (the guide's Derived/Test/ToyasCard.lean, 'card_holds'). Laid BY PROGRAM, IN A SANDBOX (cutbox-door.mjs). By AI agents, Wed Nov 11 2026. No macro, syntax, notation, axiom, sorry.
-/
import Derived.Test.YtfencolokfghfaaDoorRows
import GoSem.ClaimSeven
namespace Go.Proofs.YtfencolokfghfaaDoor
namespace Rows

/-- THE TIED CARD OF 'torcherelaw08.WriterTexts'. -/
def writerTextsCard : Claim7 := { stood := { row := writerTextsRow, standIns := [], harness := (true, "80b3f8e7a4337b115bfccb24e6843855b0bd3a6d12ca44720ead4d3f9b9c14e8"), looks := false }, kinds := [], alts := [], laidByText := true, laidKinds := [.data, .data, .data], laidTests := true, laidLooks := .later }
def WriterTextsCardSaid : Prop := Claim7.holds Tryd.pinned (.plain (OpenSpec.ofChange writerTextsSpec)) writerTextsCard

/-- THE TIED CARD OF 'torcherelaw08.WriterOnes'. -/
def writerOnesCard : Claim7 := { stood := { row := writerOnesRow, standIns := [], harness := (true, "80b3f8e7a4337b115bfccb24e6843855b0bd3a6d12ca44720ead4d3f9b9c14e8"), looks := false }, kinds := [], alts := [], laidByText := true, laidKinds := [.data, .data, .data], laidTests := true, laidLooks := .later }
def WriterOnesCardSaid : Prop := Claim7.holds Tryd.pinned (.plain (OpenSpec.ofChange writerOnesSpec)) writerOnesCard

/-- THE SECOND FORM's CARD OF 'torcherelaw08.WriterTexts'. -/
def writerTextsUptoCard : Claim7 := { stood := { row := writerTextsUptoRow, standIns := [], harness := (true, "80b3f8e7a4337b115bfccb24e6843855b0bd3a6d12ca44720ead4d3f9b9c14e8"), looks := false }, kinds := [], alts := [], laidByText := true, laidKinds := [.data, .data, .data], laidTests := true, laidLooks := .later }
def WriterTextsUptoCardSaid : Prop := Claim7.holds Tryd.pinned (.plain (OpenSpec.upto writerTextsSpec)) writerTextsUptoCard

/-- THE SECOND FORM's CARD OF 'torcherelaw08.WriterOnes'. -/
def writerOnesUptoCard : Claim7 := { stood := { row := writerOnesUptoRow, standIns := [], harness := (true, "80b3f8e7a4337b115bfccb24e6843855b0bd3a6d12ca44720ead4d3f9b9c14e8"), looks := false }, kinds := [], alts := [], laidByText := true, laidKinds := [.data, .data, .data], laidTests := true, laidLooks := .later }
def WriterOnesUptoCardSaid : Prop := Claim7.holds Tryd.pinned (.plain (OpenSpec.upto writerOnesSpec)) writerOnesUptoCard
end Rows
end Go.Proofs.YtfencolokfghfaaDoor
