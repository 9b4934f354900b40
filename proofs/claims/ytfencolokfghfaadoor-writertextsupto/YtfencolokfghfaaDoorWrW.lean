/-
  What the rows of layer 8 share: the listed variable; a world that holds it.
-/
import Derived.Test.YtfencolokfghfaaDoorCards
import Derived.Test.YtfencolokfghfaaDoorTie
import Derived.Test.YtfencolokfghfaaDoorWrC
import Derived.WalkKit
import Derived.ProofKit
import Derived.OpenShut
import Derived.ShutString
import Derived.Deep.DeepHandedRow
import Derived.Deep.DeepWitnessRowRef
import Derived.Lib.LaidTab
import Derived.Stop.LaidErr
import Derived.LaidHandle
import Derived.LaidMore
namespace Go.Proofs.YtfencolokfghfaaDoor
set_option maxRecDepth 100000
open Go.ChangeShapes Go.WideShapes Go.ChangeAt Go.RowKit

theorem own : ownKnob Tryd.prog.godebug = none := by kernel_rfl
theorem gTab : Tryd.prog.globalNamed "internal/strconv.uint64pow10" = some 1 := by kernel_rfl
theorem gTabType : (Tryd.prog.globals[1]?).map (·.type) = some 87 := by kernel_rfl
theorem cellsTab : Tryd.prog.cellsOf 87 = 20 := by kernel_rfl
theorem cellsU64 : Tryd.prog.cellsOf 76 = 1 := by kernel_rfl
/-- WHAT THE LIST GIVES. -/
theorem laid_of8 {W : World} (h : laidMetH Tryd.prog Rows.writerOnesUptoRow.laid W) : TabP W := by
  have h' : laidMet Tryd.prog Rows.writerOnesUptoRow.laid W := h
  have h3 : laidMet Tryd.prog [("internal/strconv.uint64pow10", Lib.tabData .u64 Lib.pow10Tab)] W := h'.tail.tail
  exact Lib.tabIs_of_head gTab gTabType Tryd.underlying87 Tryd.underlying76 cellsU64 cellsTab h3
theorem door_met8 (os : Os) (args : Array Value) : laidMetH Tryd.prog Rows.writerOnesUptoRow.laid ((World.doorLaid Tryd.prog 24 os).forCall (fun _ _ => 0) ⟨#[], args, []⟩).memory :=
  laidMetH_of_parts3 (fuel := 8) (laidMet_of_run' 8 (by kernel_rfl) (by kernel_rfl)) (by kernel_rfl) (by kernel_rfl)
end Go.Proofs.YtfencolokfghfaaDoor
