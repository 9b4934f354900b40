/-
  DERIVED. GIVEN WITH THE SEED: THE CARDS: each row of YtcjefmalgpbajaaDoorRows.lean that lists a variable, with what it lists TIED to the program's text (the seventh form; the later family's looks); each row that meets fmt, with fmt's text TOLD by the authors' own Lean function (tested against real Go, not proved from fmt's source: count such statements apart). THE CARD IS WHAT COUNTS. Prove the row's statement (the work); the ties are given (YtcjefmalgpbajaaDoorTie.lean); close each card by the builder's one call (the guide's Derived/Test/ToyasCard.lean, 'card_holds'). Laid BY PROGRAM, IN A SANDBOX (cutbox-door.mjs). By AI agents, Wed Nov 11 2026. No macro, syntax, notation, axiom, sorry.
-/
import Derived.Test.YtcjefmalgpbajaaDoorRows
import GoSem.ClaimSeven
namespace Go.Proofs.YtcjefmalgpbajaaDoor
namespace Rows

/-- THE TIED CARD OF 'torcherelaw06.OpsNames'. -/
def opsNamesCard : Claim7 := { stood := { row := opsNamesRow, standIns := [], harness := (true, "31aa35657a08ddd07e626aa9b691cff71d288aab077d8c23e4bdb607f58fa671"), looks := false }, kinds := [], alts := [], laidByText := true, laidKinds := [.data], laidTests := true, laidLooks := .later }
def OpsNamesCardSaid : Prop := Claim7.holds Tryd.pinned (.plain (OpenSpec.ofChange opsNamesSpec)) opsNamesCard

/-- THE TIED CARD OF 'torcherelaw06.OpsAll'. -/
def opsAllCard : Claim7 := { stood := { row := opsAllRow, standIns := [], harness := (true, "31aa35657a08ddd07e626aa9b691cff71d288aab077d8c23e4bdb607f58fa671"), looks := false }, kinds := [], alts := [], laidByText := true, laidKinds := [.data], laidTests := true, laidLooks := .later }
def OpsAllCardSaid : Prop := Claim7.holds Tryd.pinned (.plain (OpenSpec.ofChange opsAllSpec)) opsAllCard

/-- THE TIED CARD OF 'torcherelaw06.OpsRooms'. -/
def opsRoomsCard : Claim7 := { stood := { row := opsRoomsRow, standIns := [], harness := (true, "31aa35657a08ddd07e626aa9b691cff71d288aab077d8c23e4bdb607f58fa671"), looks := false }, kinds := [], alts := [], laidByText := true, laidKinds := [.data], laidTests := true, laidLooks := .later }
def OpsRoomsCardSaid : Prop := Claim7.holds Tryd.pinned (.plain (OpenSpec.ofChange opsRoomsSpec)) opsRoomsCard

/-- THE TIED CARD OF 'torcherelaw06.OpsReads'. -/
def opsReadsCard : Claim7 := { stood := { row := opsReadsRow, standIns := [], harness := (true, "31aa35657a08ddd07e626aa9b691cff71d288aab077d8c23e4bdb607f58fa671"), looks := false }, kinds := [], alts := [], laidByText := true, laidKinds := [.data], laidTests := true, laidLooks := .later }
def OpsReadsCardSaid : Prop := Claim7.holds Tryd.pinned (.plain (OpenSpec.ofChange opsReadsSpec)) opsReadsCard

/-- THE TIED CARD OF 'torcherelaw06.OpsMany'. -/
def opsManyCard : Claim7 := { stood := { row := opsManyRow, standIns := [], harness := (true, "31aa35657a08ddd07e626aa9b691cff71d288aab077d8c23e4bdb607f58fa671"), looks := false }, kinds := [], alts := [], laidByText := true, laidKinds := [.data], laidTests := true, laidLooks := .later }
def OpsManyCardSaid : Prop := Claim7.holds Tryd.pinned (.plain (OpenSpec.ofChange opsManySpec)) opsManyCard

/-- THE SECOND FORM's CARD OF 'torcherelaw06.OpsNames'. -/
def opsNamesUptoCard : Claim7 := { stood := { row := opsNamesUptoRow, standIns := [], harness := (true, "31aa35657a08ddd07e626aa9b691cff71d288aab077d8c23e4bdb607f58fa671"), looks := false }, kinds := [], alts := [], laidByText := true, laidKinds := [.data], laidTests := true, laidLooks := .later }
def OpsNamesUptoCardSaid : Prop := Claim7.holds Tryd.pinned (.plain (OpenSpec.upto opsNamesSpec)) opsNamesUptoCard

/-- THE SECOND FORM's CARD OF 'torcherelaw06.OpsAll'. -/
def opsAllUptoCard : Claim7 := { stood := { row := opsAllUptoRow, standIns := [], harness := (true, "31aa35657a08ddd07e626aa9b691cff71d288aab077d8c23e4bdb607f58fa671"), looks := false }, kinds := [], alts := [], laidByText := true, laidKinds := [.data], laidTests := true, laidLooks := .later }
def OpsAllUptoCardSaid : Prop := Claim7.holds Tryd.pinned (.plain (OpenSpec.upto opsAllSpec)) opsAllUptoCard

/-- THE SECOND FORM's CARD OF 'torcherelaw06.OpsRooms'. -/
def opsRoomsUptoCard : Claim7 := { stood := { row := opsRoomsUptoRow, standIns := [], harness := (true, "31aa35657a08ddd07e626aa9b691cff71d288aab077d8c23e4bdb607f58fa671"), looks := false }, kinds := [], alts := [], laidByText := true, laidKinds := [.data], laidTests := true, laidLooks := .later }
def OpsRoomsUptoCardSaid : Prop := Claim7.holds Tryd.pinned (.plain (OpenSpec.upto opsRoomsSpec)) opsRoomsUptoCard

/-- THE SECOND FORM's CARD OF 'torcherelaw06.OpsReads'. -/
def opsReadsUptoCard : Claim7 := { stood := { row := opsReadsUptoRow, standIns := [], harness := (true, "31aa35657a08ddd07e626aa9b691cff71d288aab077d8c23e4bdb607f58fa671"), looks := false }, kinds := [], alts := [], laidByText := true, laidKinds := [.data], laidTests := true, laidLooks := .later }
def OpsReadsUptoCardSaid : Prop := Claim7.holds Tryd.pinned (.plain (OpenSpec.upto opsReadsSpec)) opsReadsUptoCard

/-- THE SECOND FORM's CARD OF 'torcherelaw06.OpsMany'. -/
def opsManyUptoCard : Claim7 := { stood := { row := opsManyUptoRow, standIns := [], harness := (true, "31aa35657a08ddd07e626aa9b691cff71d288aab077d8c23e4bdb607f58fa671"), looks := false }, kinds := [], alts := [], laidByText := true, laidKinds := [.data], laidTests := true, laidLooks := .later }
def OpsManyUptoCardSaid : Prop := Claim7.holds Tryd.pinned (.plain (OpenSpec.upto opsManySpec)) opsManyUptoCard
end Rows
end Go.Proofs.YtcjefmalgpbajaaDoor
