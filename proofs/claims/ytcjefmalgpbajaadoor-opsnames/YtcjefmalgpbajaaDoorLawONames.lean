/-
  The walks of OpsNames and OpsRooms.
-/
import Derived.Test.YtcjefmalgpbajaaDoorOpsC
namespace Go.Proofs.YtcjefmalgpbajaaDoor
open Go.RowKit Go.Lib
set_option linter.unusedVariables false

/-- What two calls answer of a name: all that may be. -/
theorem name_cases (l : List UInt8) (R : Option (Nat × Nat × Nat) → Option (Nat × Nat) → Prop)
    (h0 : R none none) (h1 : R (some (1199, 1200, 1199)) (some (1200, 1199))) (h2 : R (some (1149, 1150, 1149)) none) (h3 : R (some (1099, 1100, 1100)) none) (h4 : R (some (1049, 1050, 1050)) none)
    (h5 : R (some (999, 1000, 1000)) none) (h6 : R none (some (900, 900))) (h7 : R (some (699, 700, 699)) none) (h8 : R (some (500, 500, 499)) none) (h9 : R (some (500, 500, 499)) (some (200, 200)))
    (h10 : R (some (400, 400, 399)) none) (h11 : R (some (189, 190, 189)) none) : R (infR l) (preR l) := by
  by_cases ha : ∃ j, j < 26 ∧ (rowAt j).nm = l
  · obtain ⟨j, hj, rfl⟩ := ha
    rcases lt26 hj with rfl | rfl | rfl | rfl | rfl | rfl | rfl | rfl | rfl | rfl | rfl | rfl | rfl | rfl | rfl | rfl | rfl | rfl | rfl | rfl | rfl | rfl | rfl | rfl | rfl | rfl <;> assumption
  · have hn : ∀ p i, i < 26 → hit p l i = false := fun p i hi => by
      have : (rowAt i).nm ≠ l := fun e => ha ⟨i, hi, e⟩
      simp [hit, this]
    rw [inf_none (hn 1), pre_none (hn 0)]
    exact h0

set_option maxRecDepth 100000 in
set_option maxHeartbeats 4000000 in
theorem opsNames_at (s : ByteArray) (w : World) (T : Tab w) : Calls Tryd.prog 3 #[.string s] w (Gives w (.bool true)) := by
  obtain ⟨l, hs⟩ : ∃ l, s.data.toList = l := ⟨_, rfl⟩
  have hS := shown_at w T
  have hI := fun W hb => infix_at s l hs W (T.later hb)
  have hP := fun W hb => prefix_at s l hs W (T.later hb)
  have gI := fun W => rinfix_at s l hs W
  have gP := fun W => rprefix_at s l hs W
  clear T hs
  generalize infR l = ri at *
  generalize preR l = rp at *
  have tr : ∀ {a b : World}, Below w.heap.size w a → Below a.heap.size a b → Below w.heap.size w b := fun h k => h.trans (k.mono h.size)
  rcases ri with _ | ⟨a, b, c⟩ <;> rcases rp with _ | ⟨x, y⟩ <;> dsimp only [infV, preV] at hI hP gI gP
  all_goals
    go_enter Tryd.func3, Tryd.ntmps3
    go_wp2_with (first
      | (go_at_call 12; refine (gP _).mono ?_; rintro e w5 ⟨rfl, hb5⟩; have b5 := tr b4 hb5)
      | (go_at_call 11; refine (hP _ b3).mono ?_; rintro e w4 ⟨rfl, hb4⟩; have b4 := tr b3 hb4)
      | (go_at_call 10; refine (gI _).mono ?_; rintro e w3 ⟨rfl, hb3⟩; have b3 := tr b2 hb3)
      | (go_at_call 9; refine (hI _ b1).mono ?_; rintro e w2 ⟨rfl, hb2⟩; have b2 := tr b1 hb2)
      | (go_at_call 8; refine hS.mono ?_; rintro e w1 ⟨rfl, b1⟩))
    go_ret
    exact ⟨rfl, b5⟩

set_option maxRecDepth 100000 in
set_option maxHeartbeats 4000000 in
theorem opsRooms_at (s : ByteArray) (w : World) (T : Tab w) : Calls Tryd.prog 5 #[.string s] w (Gives w (.bool true)) := by
  obtain ⟨l, hs⟩ : ∃ l, s.data.toList = l := ⟨_, rfl⟩
  have hS := shown_at w T
  have hI := fun W hb => infix_at s l hs W (T.later hb)
  have hP := fun W hb => prefix_at s l hs W (T.later hb)
  clear T hs
  have tr : ∀ {a b : World}, Below w.heap.size w a → Below a.heap.size a b → Below w.heap.size w b := fun h k => h.trans (k.mono h.size)
  revert hI hP
  refine name_cases l (fun ri rp => (∀ W, Below w.heap.size w W → Calls Tryd.prog 9 #[.string s] W (Gives W (infV ri))) → (∀ W, Below w.heap.size w W → Calls Tryd.prog 11 #[.string s] W (Gives W (preV rp))) → _) ?_ ?_ ?_ ?_ ?_ ?_ ?_ ?_ ?_ ?_ ?_ ?_
  all_goals
    intro hI hP
    dsimp only [infV, preV] at hI hP
    go_enter Tryd.func5, Tryd.ntmps5
    go_wp2_with (first
      | (go_at_call 11; refine (hP _ b2).mono ?_; rintro e w3 ⟨rfl, hb3⟩; have b3 := tr b2 hb3)
      | (go_at_call 9; refine (hI _ b1).mono ?_; rintro e w2 ⟨rfl, hb2⟩; have b2 := tr b1 hb2)
      | (go_at_call 8; refine hS.mono ?_; rintro e w1 ⟨rfl, b1⟩))
    go_ret
    exact ⟨rfl, b3⟩
end Go.Proofs.YtcjefmalgpbajaaDoor
