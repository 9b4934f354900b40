/-
  What the rows of layer 5 share: the listed variables; a world that holds them; strings that came in.
-/
import Derived.Test.YtnkadfbdmffhcaaDoorCards
import Derived.Test.YtnkadfbdmffhcaaDoorTie
import Derived.Test.YtnkadfbdmffhcaaDoorTokL
import Derived.WalkKit
import Derived.ProofKit
import Derived.OpenShut
import Derived.ShutString
import Derived.Deep.DeepHandedRow
import Derived.Deep.DeepWitnessRowRef
import Derived.Lib.LaidTab
import Derived.Stop.LaidErr
import Derived.LaidHandle
import Derived.LaidMore
namespace Go.Proofs.YtnkadfbdmffhcaaDoor
set_option maxRecDepth 100000
open Go.ChangeShapes Go.WideShapes Go.ChangeAt Go.RowKit

theorem own : ownKnob Tryd.prog.godebug = none := by kernel_rfl
theorem gTab : Tryd.prog.globalNamed "internal/strconv.uint64pow10" = some 1 := by kernel_rfl
theorem gTabType : (Tryd.prog.globals[1]?).map (·.type) = some 106 := by kernel_rfl
theorem cellsTab : Tryd.prog.cellsOf 106 = 20 := by kernel_rfl
theorem cellsU64 : Tryd.prog.cellsOf 38 = 1 := by kernel_rfl
theorem gErr : Tryd.prog.globalNamed "strconv.ErrRange" = some 4 := by kernel_rfl
theorem gErrType : (Tryd.prog.globals[4]?).map (·.type) = some 27 := by kernel_rfl
theorem rowErr (u : TypeId) (h : Tryd.prog.typeName? 3 u = some "*errors.errorString") : u = 124 :=
  typeName_ptr_named (nm := "errors.errorString") (by kernel_rfl) (by kernel_rfl) (by decide) u h
theorem cellsErr : Tryd.prog.cellsOf 126 = 1 := by kernel_rfl
theorem cellsStr : Tryd.prog.cellsOf 9 = 1 := by kernel_rfl

/-- WHAT THE LIST GIVES. -/
theorem laid_of {W : World} (h : laidMetH Tryd.prog Rows.tokenQuotesUptoRow.laid W) : Laid W := by
  have h' : laidMet Tryd.prog Rows.tokenQuotesUptoRow.laid W := h
  have h3 : laidMet Tryd.prog (("internal/strconv.uint64pow10", Lib.tabData .u64 Lib.pow10Tab) :: [("strconv.ErrRange", Rows.laid_strconv_ErrRange), ("strconv.ErrSyntax", Rows.laid_strconv_ErrSyntax)]) W := h'.tail.tail
  refine ⟨Lib.tabIs_of_head gTab gTabType Tryd.underlying106 Tryd.underlying38 cellsU64 cellsTab h3, ?_⟩
  obtain ⟨a, s, hv, _⟩ := laid_sentinel h3.tail gErr gErrType Tryd.underlying27 rowErr Tryd.underlying124 Tryd.underlying126 rfl rfl Tryd.underlying9 cellsErr cellsStr
  exact ⟨_, _, hv⟩

theorem door_met (os : Os) (args : Array Value) : laidMetH Tryd.prog Rows.tokenQuotesUptoRow.laid ((World.doorLaid Tryd.prog 69 os).forCall (fun _ _ => 0) ⟨#[], args, []⟩).memory :=
  laidMetH_of_parts3 (fuel := 8) (laidMet_of_run' 8 (by kernel_rfl) (by kernel_rfl)) (by kernel_rfl) (by kernel_rfl)
end Go.Proofs.YtnkadfbdmffhcaaDoor
