/-
  What the statements of layer 5 share: the document's example; two lists of tokens that are the same.
-/
import Derived.Test.YtnkadfbdmffhcaaDoorTokS
import Derived.Test.YtnkadfbdmffhcaaDoorTokQ
namespace Go.Proofs.YtnkadfbdmffhcaaDoor
open Go.RowKit Go.Lib
set_option linter.unusedVariables false

def exText : List UInt8 := [102, 111, 111, 40, 88, 44, 49, 50, 41, 46, 32, 37, 32, 120]
def exToks : List Tok := [⟨1, [102, 111, 111], 0, false, false⟩, ⟨4, [40], 0, false, true⟩, ⟨2, [88], 0, false, true⟩, ⟨4, [44], 0, false, true⟩, ⟨3, [], 12, false, true⟩, ⟨4, [41], 0, false, true⟩, ⟨5, [46], 0, false, true⟩]
theorem ex_full : full exText = .ok exToks := by decide +kernel
theorem ex_quote : quoteL [65, 39] = [39, 65, 39, 39, 39] := by decide +kernel

/-- What Scan answers where all is well, cell by cell. -/
theorem ScanPost.ok {w : World} {ts : List Tok} {e : Ending} {w' : World} (h : ScanPost w (.ok ts) e w') : ∃ a c, e = .returned (.tuple #[.slice a ts.length c, .int .i64 0, .nilIface]) ∧ OwnTk w' w.heap.size (.slice a ts.length c) ts ∧ Below w.heap.size w w' := by
  obtain ⟨hb, v, he, ho⟩ := h
  obtain ⟨a, c, rfl⟩ := ho.form
  exact ⟨a, c, he, ho, hb⟩
theorem ScanPost.bad {w : World} {p : Nat} {c : Int} {e : Ending} {w' : World} (h : ScanPost w (.bad p c) e w') : ∃ x, e = .returned (.tuple #[.slice none 0 0, .int .i64 p, .iface 49 (.agg #[.string x, .iface 33 (.int .i64 c)])]) ∧ Below w.heap.size w w' := by
  obtain ⟨hb, x, he⟩ := h
  exact ⟨x, he, hb⟩

set_option maxRecDepth 100000 in
set_option maxHeartbeats 4000000 in
theorem shown_at (w : World) (L : Laid w) : Calls Tryd.prog 10 #[] w (Ans w (.bool true)) := by
  have hS := (scan_at (ByteArray.mk #[102, 111, 111, 40, 88, 44, 49, 50, 41, 46, 32, 37, 32, 120]) exText rfl w L (by decide)).mono (R' := fun e w' => ∃ g cap, e = .returned (.tuple #[.slice (some ⟨g, 0, none⟩) 7 cap, .int .i64 0, .nilIface]) ∧ 7 ≤ cap ∧
      w'.cell? ⟨g, 1, none⟩ = some (.string ⟨#[102, 111, 111]⟩) ∧ w'.cell? ⟨g, 9, none⟩ = some (.bool true) ∧ w'.cell? ⟨g, 22, none⟩ = some (.int .i64 12) ∧ w'.cell? ⟨g, 30, none⟩ = some (.int .i64 5) ∧ Below w.heap.size w w') (fun e w' h => by
    rw [ex_full] at h
    obtain ⟨a, c, rfl, ho, hb⟩ := h.ok
    obtain ⟨g, cap, hv, -, -, -, c1, -, -, -⟩ := ho.cells (i := 0) (t := ⟨1, [102, 111, 111], 0, false, false⟩) rfl
    obtain ⟨g1, cap1, hv1, -, -, -, -, -, -, c2⟩ := ho.cells (i := 1) (t := ⟨4, [40], 0, false, true⟩) rfl
    obtain ⟨g2, cap2, hv2, -, -, -, -, c3, -, -⟩ := ho.cells (i := 4) (t := ⟨3, [], 12, false, true⟩) rfl
    obtain ⟨g3, cap3, hv3, -, -, c4, -, -, -, -⟩ := ho.cells (i := 6) (t := ⟨5, [46], 0, false, true⟩) rfl
    cases hv; cases hv1; cases hv2; cases hv3
    refine ⟨g, _, rfl, ?_, c1, c2, c3, c4, hb⟩
    obtain ⟨_, ⟨h0, _⟩ | ⟨g', cap', cur, h0, _, _, h4, _⟩⟩ := ho
    · cases h0
    · cases h0; exact h4)
  have hQ := fun W => quote_at (ByteArray.mk #[65, 39]) [65, 39] rfl W (by decide)
  rw [ex_quote] at hQ
  have hT : ((strV [39, 65, 39, 39, 39]).toList == [39, 65, 39, 39, 39]) = true := by rw [toList_beq (strV_list _)]; simp
  go_enter Tryd.func10, Tryd.ntmps10
  go_wp2_with (first | (go_at_call 16; refine hS.mono ?_; rintro e w1 ⟨g, cap, rfl, hcap, c1, c2, c3, c4, hb1⟩) | (go_at_call 13; refine (hQ _).mono ?_; rintro e w2 ⟨rfl, hb2⟩))
  go_ret
  exact ⟨rfl, bel hb1 hb2⟩

end Go.Proofs.YtnkadfbdmffhcaaDoor
