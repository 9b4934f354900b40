/-
  What the statements of layer 5 share: the document's example; two lists of tokens that are the same.
-/
import Derived.Test.YtfencolokfghfaaGreatDoorTokS
namespace Go.Proofs.YtfencolokfghfaaGreatDoor
open Go.RowKit Go.Lib
set_option linter.unusedVariables false

def exText : List UInt8 := [102, 111, 111, 40, 88, 44, 49, 50, 41, 46, 32, 37, 32, 120]
def exToks : List Tok := [⟨1, [102, 111, 111], 0, false, false⟩, ⟨4, [40], 0, false, true⟩, ⟨2, [88], 0, false, true⟩, ⟨4, [44], 0, false, true⟩, ⟨3, [], 12, false, true⟩, ⟨4, [41], 0, false, true⟩, ⟨5, [46], 0, false, true⟩]
theorem ex_full : full exText = .ok exToks := by decide +kernel

/-- What Scan answers where all is well, cell by cell. -/
theorem ScanPost.ok {w : World} {ts : List Tok} {e : Ending} {w' : World} (h : ScanPost w (.ok ts) e w') : ∃ a c, e = .returned (.tuple #[.slice a ts.length c, .int .i64 0, .nilIface]) ∧ OwnTk w' w.heap.size (.slice a ts.length c) ts ∧ Below w.heap.size w w' := by
  obtain ⟨hb, v, he, ho⟩ := h
  obtain ⟨a, c, rfl⟩ := ho.form
  exact ⟨a, c, he, ho, hb⟩
theorem ScanPost.bad {w : World} {p : Nat} {c : Int} {e : Ending} {w' : World} (h : ScanPost w (.bad p c) e w') : ∃ x, e = .returned (.tuple #[.slice none 0 0, .int .i64 p, .iface 80 (.agg #[.string x, .iface 27 (.int .i64 c)])]) ∧ Below w.heap.size w w' := by
  obtain ⟨hb, x, he⟩ := h
  exact ⟨x, he, hb⟩

end Go.Proofs.YtfencolokfghfaaGreatDoor
