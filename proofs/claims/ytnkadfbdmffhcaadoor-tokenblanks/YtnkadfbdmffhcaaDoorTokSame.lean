/-
  Two lists of tokens that are the same.
-/
import Derived.Test.YtnkadfbdmffhcaaDoorTokL
namespace Go.Proofs.YtnkadfbdmffhcaaDoor
open Go.RowKit Go.Lib
set_option linter.unusedVariables false

set_option maxRecDepth 100000 in
set_option maxHeartbeats 16000000 in
theorem same_tight (w : World) (m1 m2 : Nat) (v u : Value) (ts : List Tok) (hv : OwnTk w m1 v ts) (hu : OwnTk w m2 u ts) (hl : ts.length ≤ 1000000) :
    Calls Tryd.prog 18 #[v, u, .bool true] w fun e w' => e = .returned (.bool true) ∧ Below w.heap.size w w' := by
  obtain ⟨a1, c1, rfl⟩ := hv.form
  obtain ⟨a2, c2, rfl⟩ := hu.form
  have HV := Lib.hid hv
  have HU := Lib.hid hu
  clear hv hu
  go_enter Tryd.func18, Tryd.ntmps18
  go_wp2_with fail
  go_loopw [7] (fun i wr => ∃ k : Nat, i = .int .i64 k ∧ k ≤ ts.length ∧ ∃ m, wr = w.drewN m) (fun i _ => ts.length - (intOf i).toNat)
  case atStart => exact ⟨0, rfl, Nat.zero_le _, 0, rfl⟩
  case round =>
    obtain ⟨k, rfl, hk, m, rfl⟩ := hrel
    by_cases hlt : k < ts.length
    · obtain ⟨g, cp, e1, -, -, x0, x1, x2, x3, x4⟩ := HV.out.cells (List.getElem?_eq_getElem hlt)
      obtain ⟨g', cp', e2, -, -, y0, y1, y2, y3, y4⟩ := HU.out.cells (List.getElem?_eq_getElem hlt)
      cases e1
      cases e2
      generalize ts[k] = t at *
      obtain ⟨tk, tss, tn, tq, tt⟩ := t
      dsimp only at x0 x1 x2 x3 x4 y0 y1 y2 y3 y4
      generalize strV tss = S at *
      have n0 : (tk != tk) = false := by simp
      have n1 : (S.toList != S.toList) = false := by simp
      have n2 : (tn != tn) = false := by simp
      have n3 : (tq != tq) = false := by simp
      have n4 : (tt != tt) = false := by simp
      have hk0 : (0 : Int) ≤ (k : Int) := by omega
      have hk1 : (k : Int) < (ts.length : Int) := by omega
      go_wp2_with fail
      go_quiet (fail)
      go_wp2_with fail
      go_roundw
      case rel => exact ⟨k + 1, by go_num, hlt, _, rfl⟩
      case measure => simp [intOf]; omega
    · go_wp2_with fail
      go_ret
      exact ⟨rfl, below_drewN' (Below.refl _ _) _⟩
end Go.Proofs.YtnkadfbdmffhcaaDoor
