/-
  DERIVED. GIVEN WITH THE SEED: THE CARDS: each row of YtgodbmmhkmockaaGreatDoorRows.lean that lists a variable, with what it lists TIED to the program's text (the seventh form; the later family's looks); each row that meets fmt, with fmt's text TOLD by the authors' own Lean function (tested against real Go, not proved from fmt's source: count such statements apart). THE CARD IS WHAT COUNTS. Prove the row's statement (the work); the ties are given (YtgodbmmhkmockaaGreatDoorTie.lean); close each card by the builder's one call (the guide's Derived/Test/ToyasCard.lean, 'card_holds'). Laid BY PROGRAM, IN A SANDBOX (cutbox-door.mjs). By AI agents, Wed Nov 11 2026. No macro, syntax, notation, axiom, sorry.
-/
import Derived.Test.YtgodbmmhkmockaaGreatDoorRows
import GoSem.ClaimSeven
namespace Go.Proofs.YtgodbmmhkmockaaGreatDoor
namespace Rows

/-- THE TIED CARD OF 'torcherelaw07.ReaderBrackets'. -/
def readerBracketsCard : Claim7 := { stood := { row := readerBracketsRow, standIns := [], harness := (true, "d8c3bcd541bd26f2d638658231c7b567897dfa5916dc427d9ee7401474c2d542"), looks := true }, kinds := [], alts := [], laidByText := true, laidKinds := [.data, .data, .data, .data, .handle, .sentinel, .sentinel], laidTests := true, laidLooks := .later }
def ReaderBracketsCardSaid : Prop := Claim7.holds Tryz.pinned (.plain (OpenSpec.ofChange readerBracketsSpec)) readerBracketsCard

/-- THE TIED CARD OF 'torcherelaw07.ReaderSums'. -/
def readerSumsCard : Claim7 := { stood := { row := readerSumsRow, standIns := [], harness := (true, "d8c3bcd541bd26f2d638658231c7b567897dfa5916dc427d9ee7401474c2d542"), looks := true }, kinds := [], alts := [], laidByText := true, laidKinds := [.data, .data, .data, .data, .handle, .sentinel, .sentinel], laidTests := true, laidLooks := .later }
def ReaderSumsCardSaid : Prop := Claim7.holds Tryz.pinned (.plain (OpenSpec.ofChange readerSumsSpec)) readerSumsCard

/-- THE TIED CARD OF 'torcherelaw07.ReaderLists'. -/
def readerListsCard : Claim7 := { stood := { row := readerListsRow, standIns := [], harness := (true, "d8c3bcd541bd26f2d638658231c7b567897dfa5916dc427d9ee7401474c2d542"), looks := true }, kinds := [], alts := [], laidByText := true, laidKinds := [.data, .data, .data, .data, .handle, .sentinel, .sentinel], laidTests := true, laidLooks := .later }
def ReaderListsCardSaid : Prop := Claim7.holds Tryz.pinned (.plain (OpenSpec.ofChange readerListsSpec)) readerListsCard

/-- THE TIED CARD OF 'torcherelaw07.ReaderCuts'. -/
def readerCutsCard : Claim7 := { stood := { row := readerCutsRow, standIns := [], harness := (true, "d8c3bcd541bd26f2d638658231c7b567897dfa5916dc427d9ee7401474c2d542"), looks := true }, kinds := [], alts := [], laidByText := true, laidKinds := [.data, .data, .data, .data, .handle, .sentinel, .sentinel], laidTests := true, laidLooks := .later }
def ReaderCutsCardSaid : Prop := Claim7.holds Tryz.pinned (.plain (OpenSpec.ofChange readerCutsSpec)) readerCutsCard

/-- THE TIED CARD OF 'torcherelaw08.WriterBack'. -/
def writerBackCard : Claim7 := { stood := { row := writerBackRow, standIns := [], harness := (true, "d8c3bcd541bd26f2d638658231c7b567897dfa5916dc427d9ee7401474c2d542"), looks := true }, kinds := [], alts := [], laidByText := true, laidKinds := [.data, .data, .data, .data, .handle, .sentinel, .sentinel], laidTests := true, laidLooks := .later }
def WriterBackCardSaid : Prop := Claim7.holds Tryz.pinned (.plain (OpenSpec.ofChange writerBackSpec)) writerBackCard

/-- THE SECOND FORM's CARD OF 'torcherelaw07.ReaderBrackets'. -/
def readerBracketsUptoCard : Claim7 := { stood := { row := readerBracketsUptoRow, standIns := [], harness := (true, "d8c3bcd541bd26f2d638658231c7b567897dfa5916dc427d9ee7401474c2d542"), looks := true }, kinds := [], alts := [], laidByText := true, laidKinds := [.data, .data, .data, .data, .handle, .sentinel, .sentinel], laidTests := true, laidLooks := .later }
def ReaderBracketsUptoCardSaid : Prop := Claim7.holds Tryz.pinned (.plain (OpenSpec.upto readerBracketsSpec)) readerBracketsUptoCard

/-- THE SECOND FORM's CARD OF 'torcherelaw07.ReaderSums'. -/
def readerSumsUptoCard : Claim7 := { stood := { row := readerSumsUptoRow, standIns := [], harness := (true, "d8c3bcd541bd26f2d638658231c7b567897dfa5916dc427d9ee7401474c2d542"), looks := true }, kinds := [], alts := [], laidByText := true, laidKinds := [.data, .data, .data, .data, .handle, .sentinel, .sentinel], laidTests := true, laidLooks := .later }
def ReaderSumsUptoCardSaid : Prop := Claim7.holds Tryz.pinned (.plain (OpenSpec.upto readerSumsSpec)) readerSumsUptoCard

/-- THE SECOND FORM's CARD OF 'torcherelaw07.ReaderLists'. -/
def readerListsUptoCard : Claim7 := { stood := { row := readerListsUptoRow, standIns := [], harness := (true, "d8c3bcd541bd26f2d638658231c7b567897dfa5916dc427d9ee7401474c2d542"), looks := true }, kinds := [], alts := [], laidByText := true, laidKinds := [.data, .data, .data, .data, .handle, .sentinel, .sentinel], laidTests := true, laidLooks := .later }
def ReaderListsUptoCardSaid : Prop := Claim7.holds Tryz.pinned (.plain (OpenSpec.upto readerListsSpec)) readerListsUptoCard

/-- THE SECOND FORM's CARD OF 'torcherelaw07.ReaderCuts'. -/
def readerCutsUptoCard : Claim7 := { stood := { row := readerCutsUptoRow, standIns := [], harness := (true, "d8c3bcd541bd26f2d638658231c7b567897dfa5916dc427d9ee7401474c2d542"), looks := true }, kinds := [], alts := [], laidByText := true, laidKinds := [.data, .data, .data, .data, .handle, .sentinel, .sentinel], laidTests := true, laidLooks := .later }
def ReaderCutsUptoCardSaid : Prop := Claim7.holds Tryz.pinned (.plain (OpenSpec.upto readerCutsSpec)) readerCutsUptoCard

/-- THE SECOND FORM's CARD OF 'torcherelaw08.WriterBack'. -/
def writerBackUptoCard : Claim7 := { stood := { row := writerBackUptoRow, standIns := [], harness := (true, "d8c3bcd541bd26f2d638658231c7b567897dfa5916dc427d9ee7401474c2d542"), looks := true }, kinds := [], alts := [], laidByText := true, laidKinds := [.data, .data, .data, .data, .handle, .sentinel, .sentinel], laidTests := true, laidLooks := .later }
def WriterBackUptoCardSaid : Prop := Claim7.holds Tryz.pinned (.plain (OpenSpec.upto writerBackSpec)) writerBackUptoCard
end Rows
end Go.Proofs.YtgodbmmhkmockaaGreatDoor
