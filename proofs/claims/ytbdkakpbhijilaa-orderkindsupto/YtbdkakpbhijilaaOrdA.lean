/-
  order.compareOwn and what it calls: cmp.Compare, strings.Compare, order.isNumbered.
-/
import Derived.Test.YtbdkakpbhijilaaOrdG
import Derived.Test.YtbdkakpbhijilaaMake
namespace Go.Proofs.Ytbdkakpbhijilaa
open Go.RowKit Go.Shelf
set_option linter.unusedVariables false

theorem nan_at (x : Int) (w : World) : Calls Try.prog 78 #[.int .i64 x] w fun e w' => e = .returned (.bool false) ∧ w' = w := by
  go_enter Try.func78, Try.ntmps78
  go_wp2
  go_ret
  exact ⟨rfl, rfl⟩
theorem nan64_at (x : Int) (w : World) : Calls Try.prog 79 #[.int .i64 x] w fun e w' => e = .returned (.bool false) ∧ w' = w := by
  go_enter Try.func79, Try.ntmps79
  go_wp2
  go_ret
  exact ⟨rfl, rfl⟩

set_option maxRecDepth 100000 in
theorem cmp_at (x y : Int) (w : World) : Calls Try.prog 70 #[.int .i64 x, .int .i64 y] w fun e w' => e = .returned (.int .i64 (c3 x y)) ∧ w' = w := by
  by_cases h : x < y
  · have e : c3 x y = -1 := by unfold c3; rw [if_pos h]
    rw [e]; clear e
    go_enter Try.func70, Try.ntmps70
    go_wp2_with (go_at_call 78; refine (nan_at _ _).mono ?_; rintro e w' ⟨rfl, rfl⟩)
    go_ret
    exact ⟨rfl, rfl⟩
  · by_cases g : y < x
    · have e : c3 x y = 1 := by unfold c3; rw [if_neg h, if_pos g]
      rw [e]; clear e
      go_enter Try.func70, Try.ntmps70
      go_wp2_with (go_at_call 78; refine (nan_at _ _).mono ?_; rintro e w' ⟨rfl, rfl⟩)
      go_ret
      exact ⟨rfl, rfl⟩
    · have e : c3 x y = 0 := by unfold c3; rw [if_neg h, if_neg g]
      rw [e]; clear e
      go_enter Try.func70, Try.ntmps70
      go_wp2_with (go_at_call 78; refine (nan_at _ _).mono ?_; rintro e w' ⟨rfl, rfl⟩)
      go_ret
      exact ⟨rfl, rfl⟩
set_option maxRecDepth 100000 in
theorem cmp64_at (x y : Int) (w : World) : Calls Try.prog 71 #[.int .i64 x, .int .i64 y] w fun e w' => e = .returned (.int .i64 (c3 x y)) ∧ w' = w := by
  by_cases h : x < y
  · have e : c3 x y = -1 := by unfold c3; rw [if_pos h]
    rw [e]; clear e
    go_enter Try.func71, Try.ntmps71
    go_wp2_with (go_at_call 79; refine (nan64_at _ _).mono ?_; rintro e w' ⟨rfl, rfl⟩)
    go_ret
    exact ⟨rfl, rfl⟩
  · by_cases g : y < x
    · have e : c3 x y = 1 := by unfold c3; rw [if_neg h, if_pos g]
      rw [e]; clear e
      go_enter Try.func71, Try.ntmps71
      go_wp2_with (go_at_call 79; refine (nan64_at _ _).mono ?_; rintro e w' ⟨rfl, rfl⟩)
      go_ret
      exact ⟨rfl, rfl⟩
    · have e : c3 x y = 0 := by unfold c3; rw [if_neg h, if_neg g]
      rw [e]; clear e
      go_enter Try.func71, Try.ntmps71
      go_wp2_with (go_at_call 79; refine (nan64_at _ _).mono ?_; rintro e w' ⟨rfl, rfl⟩)
      go_ret
      exact ⟨rfl, rfl⟩

set_option maxRecDepth 100000 in
theorem cmpStr_at (s t : ByteArray) (w : World) : Calls Try.prog 80 #[.string s, .string t] w fun e w' => e = .returned (.int .i64 (cB s t)) ∧ w' = w := by
  go_enter Try.func80, Try.ntmps80
  go_wp2
  rw [run_callFunc_extern Try.func82 (by kernel_rfl) (by kernel_rfl) (by kernel_rfl) (e := Extern.BytealgCompare.compare) (by kernel_rfl), Lib.run_compareString]
  simp only [Result.andThen]
  rw [Oper.upon_value]
  go_wp2
  go_ret
  exact ⟨rfl, rfl⟩
set_option maxRecDepth 100000 in
theorem scmp_at (s t : ByteArray) (w : World) : Calls Try.prog 72 #[.string s, .string t] w fun e w' => e = .returned (.int .i64 (cB s t)) ∧ w' = w := by
  go_enter Try.func72, Try.ntmps72
  go_wp2_with (go_at_call 80; refine (cmpStr_at _ _ _).mono ?_; rintro e w' ⟨rfl, rfl⟩)
  go_ret
  exact ⟨rfl, rfl⟩

set_option maxRecDepth 100000 in
theorem numbered_at (v : Value) (T : Tm) (w : World) (hv : Has w v T) : Calls Try.prog 60 #[v] w (Gets w (.bool (decide (isN T.kind)))) := by
  obtain ⟨k, n, s, a, len, cap, ks, rfl, rfl, rfl, -⟩ := hv.form
  show Calls _ _ _ _ (Gets w (.bool (decide (isN k))))
  obtain ⟨w2, hw2⟩ : ∃ w2, w2 = w.alloc (.cells #[.int .i64 k, .int .i64 n, .string s, .slice a ks.length cap] 24) := ⟨_, rfl⟩
  have hB2 : Below w.heap.size w w2 := by rw [hw2]; exact (Below.refl _ w).alloc (Nat.le_refl _) _
  clear hv
  by_cases h1 : k = 1
  · have e : decide (isN k) = true := decide_eq_true (Or.inl h1)
    rw [e]; clear e
    have h1' : (k == 1) = true := by simpa using h1
    clear h1
    subst hw2
    go_enter Try.func60, Try.ntmps60
    go_wp2
    go_ret
    exact ⟨rfl, hB2⟩
  · have h1' : (k == 1) = false := by simpa using h1
    by_cases h2 : k = 2
    · have e : decide (isN k) = true := decide_eq_true (Or.inr h2)
      rw [e]; clear e
      have h2' : (k == 2) = true := by simpa using h2
      clear h1 h2
      subst hw2
      go_enter Try.func60, Try.ntmps60
      go_wp2
      go_ret
      exact ⟨rfl, hB2⟩
    · have e : decide (isN k) = false := decide_eq_false (fun h => h.elim h1 h2)
      rw [e]; clear e
      have h2' : (k == 2) = false := by simpa using h2
      clear h1 h2
      subst hw2
      go_enter Try.func60, Try.ntmps60
      go_wp2
      go_ret
      exact ⟨rfl, hB2⟩
end Go.Proofs.Ytbdkakpbhijilaa
