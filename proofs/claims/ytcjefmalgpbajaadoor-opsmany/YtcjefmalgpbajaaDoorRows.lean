/-
  NARROWER THAN 'FOR EVERY INPUT', by the rows' own cells (each row's printed sentence says how): OpsNames: laid · OpsAll: laid · OpsRooms: laid · OpsReads: laid · OpsMany: laid.
  DERIVED. THE GIVEN ROWS OF THIS SEAT. 5 by the template 'for every input the law returns true; each argument reads behind the call as it read before'; 0 by the template 'total and deterministic' (their statements: YtcjefmalgpbajaaDoorTotals.lean).
  GIVEN WITH THE SEED: the statements are not yours to turn. If you find one false, say at which input.
  Laid BY PROGRAM, IN A SANDBOX (cutbox-rows.mjs): the forced cells as the released guide's own fill.sh prints them over the translation 24c06b4cc5fadb0a… (all of the seat's roots in one cut). By AI agents, Wed Nov 11 2026. No macro, syntax, notation, axiom, sorry.
-/
import Derived.Test.YtcjefmalgpbajaaDoorChecked
import GoSem.Claim
import GoSem.ClaimJoined
import GoSem.ClaimMapViews
import Derived.JoinedTies
import Derived.KernelRfl
namespace Go.Proofs.YtcjefmalgpbajaaDoor
/- THE CELL 'sum', in the pinned program and in every row, IS THE sha256 OF THE DUMP (.gsa) THAT YtcjefmalgpbajaaDoorProg.lean LOADS. Nothing in Lean hashes anything: it is a label: what it is worth is what the hold of that sum in a sandbox is worth. -/
noncomputable def Tryd.pinned : Pinned := { name := "ytcjefmalgpbajaadoor", sum := "24c06b4cc5fadb0ab5ff50c1f7049ff9de2f38be9f7f3fdd48de0a493960814c", checked := Tryd.checked }
namespace Rows
def none {H : Type} : Left H := { results := [], args := [] }

/- WHAT THE LISTED PACKAGE-LEVEL VARIABLES READ AS WHEN THE CALL BEGINS. Each datum BY PROGRAM (the guide's laid-datum.mjs) off the statement by which the dump's own 'gosem.cut.vars' lays the variable. In a bare row this is a premise. The card (YtcjefmalgpbajaaDoorCards.lean) ties it to the program's text. -/
def laid_torchere_ops_operators {H : Type} : DataW H := .agg [.agg [.lit (.int .i64 1200), .lit (.string [120, 102, 120]), .lit (.string [58, 45])], .agg [.lit (.int .i64 1200), .lit (.string [102, 120]), .lit (.string [58, 45])], .agg [.lit (.int .i64 1150), .lit (.string [120, 102, 120]), .lit (.string [58, 58])], .agg [.lit (.int .i64 1100), .lit (.string [120, 102, 121]), .lit (.string [59])], .agg [.lit (.int .i64 1050), .lit (.string [120, 102, 121]), .lit (.string [45, 62])], .agg [.lit (.int .i64 1000), .lit (.string [120, 102, 121]), .lit (.string [44])], .agg [.lit (.int .i64 900), .lit (.string [102, 121]), .lit (.string [92, 43])], .agg [.lit (.int .i64 700), .lit (.string [120, 102, 120]), .lit (.string [61])], .agg [.lit (.int .i64 700), .lit (.string [120, 102, 120]), .lit (.string [92, 61])], .agg [.lit (.int .i64 700), .lit (.string [120, 102, 120]), .lit (.string [61, 61])], .agg [.lit (.int .i64 700), .lit (.string [120, 102, 120]), .lit (.string [92, 61, 61])], .agg [.lit (.int .i64 700), .lit (.string [120, 102, 120]), .lit (.string [64, 60])], .agg [.lit (.int .i64 700), .lit (.string [120, 102, 120]), .lit (.string [105, 115])], .agg [.lit (.int .i64 700), .lit (.string [120, 102, 120]), .lit (.string [61, 58, 61])], .agg [.lit (.int .i64 700), .lit (.string [120, 102, 120]), .lit (.string [61, 92, 61])], .agg [.lit (.int .i64 700), .lit (.string [120, 102, 120]), .lit (.string [60])], .agg [.lit (.int .i64 700), .lit (.string [120, 102, 120]), .lit (.string [62])], .agg [.lit (.int .i64 700), .lit (.string [120, 102, 120]), .lit (.string [61, 60])], .agg [.lit (.int .i64 700), .lit (.string [120, 102, 120]), .lit (.string [62, 61])], .agg [.lit (.int .i64 500), .lit (.string [121, 102, 120]), .lit (.string [43])], .agg [.lit (.int .i64 500), .lit (.string [121, 102, 120]), .lit (.string [45])], .agg [.lit (.int .i64 400), .lit (.string [121, 102, 120]), .lit (.string [42])], .agg [.lit (.int .i64 400), .lit (.string [121, 102, 120]), .lit (.string [47, 47])], .agg [.lit (.int .i64 400), .lit (.string [121, 102, 120]), .lit (.string [109, 111, 100])], .agg [.lit (.int .i64 200), .lit (.string [102, 121]), .lit (.string [45])], .agg [.lit (.int .i64 190), .lit (.string [120, 102, 120]), .lit (.string [64])]]

/-- 'torcherelaw06.OpsNames': WHATEVER THE INPUT: true; the input reads as it did. -/
def opsNamesSpec : ChangeSpec := { name := "opsNames", fn := fun _ => fun
  | [d] => { results := [.lit (.bool true)], args := [d] }
  | _ => none }
def opsNamesRow : OpenClaim := { program := "ytcjefmalgpbajaadoor", sum := "24c06b4cc5fadb0ab5ff50c1f7049ff9de2f38be9f7f3fdd48de0a493960814c", func := "torchere/torcherelaw06.OpsNames", spec := "opsNames", named := ["torchere/ops.operators"], apart := false, laid := [("torchere/ops.operators", laid_torchere_ops_operators)] }
def OpsNamesSaid : Prop := opsNamesRow.holds Tryd.pinned (OpenSpec.ofChange opsNamesSpec)

/-- ITS FALSE NEIGHBOUR: 'it returns false'. Refute it at one input. -/
def opsNamesWrong : ChangeSpec := { name := "opsNames", fn := fun _ => fun
  | [d] => { results := [.lit (.bool false)], args := [d] }
  | _ => none }
def OpsNamesWrongFalsely : Prop := opsNamesRow.holds Tryd.pinned (OpenSpec.ofChange opsNamesWrong)

/-- 'torcherelaw06.OpsAll': WHATEVER THE INPUT: true; the input reads as it did. -/
def opsAllSpec : ChangeSpec := { name := "opsAll", fn := fun _ => fun
  | [d1, d2] => { results := [.lit (.bool true)], args := [d1, d2] }
  | _ => none }
def opsAllRow : OpenClaim := { program := "ytcjefmalgpbajaadoor", sum := "24c06b4cc5fadb0ab5ff50c1f7049ff9de2f38be9f7f3fdd48de0a493960814c", func := "torchere/torcherelaw06.OpsAll", spec := "opsAll", named := ["torchere/ops.operators"], apart := false, laid := [("torchere/ops.operators", laid_torchere_ops_operators)] }
def OpsAllSaid : Prop := opsAllRow.holds Tryd.pinned (OpenSpec.ofChange opsAllSpec)

/-- ITS FALSE NEIGHBOUR: 'it returns false'. Refute it at one input. -/
def opsAllWrong : ChangeSpec := { name := "opsAll", fn := fun _ => fun
  | [d1, d2] => { results := [.lit (.bool false)], args := [d1, d2] }
  | _ => none }
def OpsAllWrongFalsely : Prop := opsAllRow.holds Tryd.pinned (OpenSpec.ofChange opsAllWrong)

/-- 'torcherelaw06.OpsRooms': WHATEVER THE INPUT: true; the input reads as it did. -/
def opsRoomsSpec : ChangeSpec := { name := "opsRooms", fn := fun _ => fun
  | [d] => { results := [.lit (.bool true)], args := [d] }
  | _ => none }
def opsRoomsRow : OpenClaim := { program := "ytcjefmalgpbajaadoor", sum := "24c06b4cc5fadb0ab5ff50c1f7049ff9de2f38be9f7f3fdd48de0a493960814c", func := "torchere/torcherelaw06.OpsRooms", spec := "opsRooms", named := ["torchere/ops.operators"], apart := false, laid := [("torchere/ops.operators", laid_torchere_ops_operators)] }
def OpsRoomsSaid : Prop := opsRoomsRow.holds Tryd.pinned (OpenSpec.ofChange opsRoomsSpec)

/-- ITS FALSE NEIGHBOUR: 'it returns false'. Refute it at one input. -/
def opsRoomsWrong : ChangeSpec := { name := "opsRooms", fn := fun _ => fun
  | [d] => { results := [.lit (.bool false)], args := [d] }
  | _ => none }
def OpsRoomsWrongFalsely : Prop := opsRoomsRow.holds Tryd.pinned (OpenSpec.ofChange opsRoomsWrong)

/-- 'torcherelaw06.OpsReads': WHATEVER THE INPUT: true; the input reads as it did. -/
def opsReadsSpec : ChangeSpec := { name := "opsReads", fn := fun _ => fun
  | [d] => { results := [.lit (.bool true)], args := [d] }
  | _ => none }
def opsReadsRow : OpenClaim := { program := "ytcjefmalgpbajaadoor", sum := "24c06b4cc5fadb0ab5ff50c1f7049ff9de2f38be9f7f3fdd48de0a493960814c", func := "torchere/torcherelaw06.OpsReads", spec := "opsReads", named := ["torchere/ops.operators"], apart := false, laid := [("torchere/ops.operators", laid_torchere_ops_operators)] }
def OpsReadsSaid : Prop := opsReadsRow.holds Tryd.pinned (OpenSpec.ofChange opsReadsSpec)

/-- ITS FALSE NEIGHBOUR: 'it returns false'. Refute it at one input. -/
def opsReadsWrong : ChangeSpec := { name := "opsReads", fn := fun _ => fun
  | [d] => { results := [.lit (.bool false)], args := [d] }
  | _ => none }
def OpsReadsWrongFalsely : Prop := opsReadsRow.holds Tryd.pinned (OpenSpec.ofChange opsReadsWrong)

/-- 'torcherelaw06.OpsMany': WHATEVER THE INPUT: true; the input reads as it did. -/
def opsManySpec : ChangeSpec := { name := "opsMany", fn := fun _ => fun
  | [d] => { results := [.lit (.bool true)], args := [d] }
  | _ => none }
def opsManyRow : OpenClaim := { program := "ytcjefmalgpbajaadoor", sum := "24c06b4cc5fadb0ab5ff50c1f7049ff9de2f38be9f7f3fdd48de0a493960814c", func := "torchere/torcherelaw06.OpsMany", spec := "opsMany", named := ["torchere/ops.operators"], apart := false, laid := [("torchere/ops.operators", laid_torchere_ops_operators)] }
def OpsManySaid : Prop := opsManyRow.holds Tryd.pinned (OpenSpec.ofChange opsManySpec)

/-- ITS FALSE NEIGHBOUR: 'it returns false'. Refute it at one input. -/
def opsManyWrong : ChangeSpec := { name := "opsMany", fn := fun _ => fun
  | [d] => { results := [.lit (.bool false)], args := [d] }
  | _ => none }
def OpsManyWrongFalsely : Prop := opsManyRow.holds Tryd.pinned (OpenSpec.ofChange opsManyWrong)

/- THE SECOND FORM. 'bulk': how many values and letters a reading holds, each counted each time it is reached (what is shared counts as often as it is met; a slice's spare places count too). A statement '..UptoSaid' is the law's where the arguments, and the package variables that the reading takes, are together of bulk at most 1048576: NARROWER than '..Said'. Prove '..Said' where nothing that the law and all that it calls make is longer than what came in: it says more and counts as full. Else prove '..UptoSaid'. A law counts once. -/
mutual
def uptoBulk {H : Type} : DataW H → Nat
  | .lit (.string bytes) => bytes.length + 1
  | .lit _ => 1
  | .nil => 1
  | .ptr d => uptoBulk d + 1
  | .slice elems spare => uptoBulkAll elems + uptoBulkAll spare + 1
  | .agg parts => uptoBulkAll parts + 1
  | .iface _ d => uptoBulk d + 1
  | .map entries => uptoBulkEntries entries + 1
  | .held _ => 1
def uptoBulkAll {H : Type} : List (DataW H) → Nat
  | [] => 0
  | d :: r => uptoBulk d + uptoBulkAll r
def uptoBulkEntries {H : Type} : List (Lit × DataW H) → Nat
  | [] => 0
  | x :: r => uptoBulkEntry x + uptoBulkEntries r
def uptoBulkEntry {H : Type} : Lit × DataW H → Nat
  | (.string bytes, d) => bytes.length + uptoBulk d + 1
  | (_, d) => uptoBulk d + 1
 end
def uptoSmall : (H : Type) → List (DataW H) → Bool := fun _ ds => decide (uptoBulkAll ds ≤ 1048576)
def OpenSpec.upto (s : _root_.Go.ChangeSpec) : _root_.Go.OpenSpec := { _root_.Go.OpenSpec.ofChange s with cond := some uptoSmall }

/-- 'torcherelaw06.OpsNames', WHERE WHAT IT READS IS OF BULK AT MOST 1048576: true; the input reads as it did. -/
def opsNamesUptoRow : OpenClaim := { program := "ytcjefmalgpbajaadoor", sum := "24c06b4cc5fadb0ab5ff50c1f7049ff9de2f38be9f7f3fdd48de0a493960814c", func := "torchere/torcherelaw06.OpsNames", spec := "opsNames", named := ["torchere/ops.operators"], apart := false, laid := [("torchere/ops.operators", laid_torchere_ops_operators)], narrowed := true }
def OpsNamesUptoSaid : Prop := opsNamesUptoRow.holds Tryd.pinned (OpenSpec.upto opsNamesSpec)

/-- 'torcherelaw06.OpsAll', WHERE WHAT IT READS IS OF BULK AT MOST 1048576: true; the input reads as it did. -/
def opsAllUptoRow : OpenClaim := { program := "ytcjefmalgpbajaadoor", sum := "24c06b4cc5fadb0ab5ff50c1f7049ff9de2f38be9f7f3fdd48de0a493960814c", func := "torchere/torcherelaw06.OpsAll", spec := "opsAll", named := ["torchere/ops.operators"], apart := false, laid := [("torchere/ops.operators", laid_torchere_ops_operators)], narrowed := true }
def OpsAllUptoSaid : Prop := opsAllUptoRow.holds Tryd.pinned (OpenSpec.upto opsAllSpec)

/-- 'torcherelaw06.OpsRooms', WHERE WHAT IT READS IS OF BULK AT MOST 1048576: true; the input reads as it did. -/
def opsRoomsUptoRow : OpenClaim := { program := "ytcjefmalgpbajaadoor", sum := "24c06b4cc5fadb0ab5ff50c1f7049ff9de2f38be9f7f3fdd48de0a493960814c", func := "torchere/torcherelaw06.OpsRooms", spec := "opsRooms", named := ["torchere/ops.operators"], apart := false, laid := [("torchere/ops.operators", laid_torchere_ops_operators)], narrowed := true }
def OpsRoomsUptoSaid : Prop := opsRoomsUptoRow.holds Tryd.pinned (OpenSpec.upto opsRoomsSpec)

/-- 'torcherelaw06.OpsReads', WHERE WHAT IT READS IS OF BULK AT MOST 1048576: true; the input reads as it did. -/
def opsReadsUptoRow : OpenClaim := { program := "ytcjefmalgpbajaadoor", sum := "24c06b4cc5fadb0ab5ff50c1f7049ff9de2f38be9f7f3fdd48de0a493960814c", func := "torchere/torcherelaw06.OpsReads", spec := "opsReads", named := ["torchere/ops.operators"], apart := false, laid := [("torchere/ops.operators", laid_torchere_ops_operators)], narrowed := true }
def OpsReadsUptoSaid : Prop := opsReadsUptoRow.holds Tryd.pinned (OpenSpec.upto opsReadsSpec)

/-- 'torcherelaw06.OpsMany', WHERE WHAT IT READS IS OF BULK AT MOST 1048576: true; the input reads as it did. -/
def opsManyUptoRow : OpenClaim := { program := "ytcjefmalgpbajaadoor", sum := "24c06b4cc5fadb0ab5ff50c1f7049ff9de2f38be9f7f3fdd48de0a493960814c", func := "torchere/torcherelaw06.OpsMany", spec := "opsMany", named := ["torchere/ops.operators"], apart := false, laid := [("torchere/ops.operators", laid_torchere_ops_operators)], narrowed := true }
def OpsManyUptoSaid : Prop := opsManyUptoRow.holds Tryd.pinned (OpenSpec.upto opsManySpec)

end Rows
end Go.Proofs.YtcjefmalgpbajaaDoor
