/-
  The law ArithRules, walked.
-/
import Derived.Test.YtfjnajngelemkaaZArHn2
namespace Go.Proofs.Ytfjnajngelemkaa
open Go.RowKit Go.Shelf
open Classical
set_option linter.unusedVariables false
set_option linter.unusedSimpArgs false

theorem remI_facts {a b : Int} (hb : b ≠ 0) : (b > 0 → 0 ≤ remI a b ∧ remI a b < b) ∧ (b < 0 → b < remI a b ∧ remI a b ≤ 0) ∧ (a - remI a b).tmod b = 0 := by
  have h : (a.tmod b).natAbs = a.natAbs % b.natAbs := Int.natAbs_tmod a b
  have h3 : a.natAbs % b.natAbs < b.natAbs := Nat.mod_lt _ (by omega)
  have h2 := Int.mul_tdiv_add_tmod a b
  have e1 : (a - a.tmod b).tmod b = 0 := by
    rw [show a - a.tmod b = b * a.tdiv b by omega]
    exact Int.mul_tmod_right _ _
  have e2 : (a - (a.tmod b + b)).tmod b = 0 := by
    rw [show a - (a.tmod b + b) = b * (a.tdiv b - 1) by rw [Int.mul_sub, Int.mul_one]; omega]
    exact Int.mul_tmod_right _ _
  clear h2
  unfold remI
  generalize a.natAbs % b.natAbs = r at *
  generalize a.tmod b = m at *
  by_cases hc : m ≠ 0 ∧ (m < 0 ↔ 0 ≤ b)
  · rw [if_pos hc]
    refine ⟨fun h0 => ?_, fun h0 => ?_, e2⟩
    · have := hc.2.2 (by omega); omega
    · have : ¬ m < 0 := fun h => by have := hc.2.1 h; omega
      omega
  · rw [if_neg hc]
    refine ⟨fun h0 => ?_, fun h0 => ?_, e1⟩
    · by_cases hm : m < 0
      · exact absurd ⟨by omega, ⟨fun _ => by omega, fun _ => hm⟩⟩ hc
      · omega
    · by_cases hm : m ≤ 0
      · omega
      · exact absurd ⟨by omega, ⟨fun h => by omega, fun h => by omega⟩⟩ hc

theorem tdiv_ok' {a b : Int} (ha : -2147483648 ≤ a ∧ a ≤ 2147483647) : i64ok (a.tdiv b) := by
  have h : (a.tdiv b).natAbs = a.natAbs / b.natAbs := Int.natAbs_tdiv a b
  have h3 : a.natAbs / b.natAbs ≤ a.natAbs := Nat.div_le_self _ _
  exact ⟨by omega, by omega⟩
set_option maxRecDepth 100000 in
set_option maxHeartbeats 16000000 in
theorem arithRules_at (a b : Int) (ha : -2147483648 ≤ a ∧ a ≤ 2147483647) (hb : -2147483648 ≤ b ∧ b ≤ 2147483647) (w : World) : Calls Try.prog 7 #[.int .i32 a, .int .i32 b] w (Gets w (.bool true)) := by
  have ka : i64ok a := ⟨by omega, by omega⟩
  have kb : i64ok b := ⟨by omega, by omega⟩
  have t1 := fun w => ev_of a2_add a b (by decide) ka kb w
  have t2 := fun w => ev_of a2_mul a b (by decide) ka kb w
  have t3 := fun w => ev_of a2_sub a b (by decide) ka kb w
  have t4 := fun w => ev_of a2_rem a b (by decide) ka kb w
  have t5 := fun w => ev_of a2_quo a b (by decide) ka kb w
  have hmul : i64ok (a * b) := by
    have h1 : (a * b).natAbs = a.natAbs * b.natAbs := Int.natAbs_mul a b
    have h2 : a.natAbs * b.natAbs ≤ 2147483648 * 2147483648 := Nat.mul_le_mul (by omega) (by omega)
    exact ⟨by omega, by omega⟩
  simp only [show A2.add.run a b = some (a + b) from fit_in ⟨by omega, by omega⟩, vnum, verr] at t1
  simp only [show A2.mul.run a b = some (a * b) from fit_in hmul, vnum, verr] at t2
  simp only [show A2.sub.run a b = some (a - b) from fit_in ⟨by omega, by omega⟩, vnum, verr] at t3
  have wa : wrap64 a = a := wrap_in ka
  have wb : wrap64 b = b := wrap_in kb
  have w1 : wrap64 (a + b) = a + b := wrap_in ⟨by omega, by omega⟩
  have w2 : wrap64 (a * b) = a * b := wrap_in hmul
  have w3 : wrap64 (a - b) = a - b := wrap_in ⟨by omega, by omega⟩
  obtain ⟨S, hS⟩ : ∃ S, a + b = S := ⟨_, rfl⟩
  obtain ⟨P, hP⟩ : ∃ P, a * b = P := ⟨_, rfl⟩
  obtain ⟨D, hD⟩ : ∃ D, a - b = D := ⟨_, rfl⟩
  rw [hS] at t1
  rw [hP] at t2
  rw [hD] at t3
  have w1 : wrap64 (a + b) = S := w1.trans hS
  have w2 : wrap64 (a * b) = P := w2.trans hP
  have w3 : wrap64 (a - b) = D := w3.trans hD
  clear hmul hS hP hD
  by_cases h0 : b = 0
  · simp only [show A2.rem.run a b = none from if_pos h0, vnum, verr] at t4
    simp only [show A2.quo.run a b = none from if_pos h0, vnum, verr] at t5
    have d0 : (b == 0) = true := by simpa using h0
    have HT := Lib.hid (And.intro t1 (And.intro t2 (And.intro t3 (And.intro t4 (And.intro t5 h0)))))
    clear t1 t2 t3 t4 t5 ka kb ha hb h0
    go_enter Try.func7, Try.ntmps7
    go_wp2_with fail
    refine (shown12_at w).mono ?_
    rintro e v1 ⟨rfl, hb1⟩
    go_wp2_with fail
    refine (HT.out.1 v1).mono ?_
    rintro e v2 ⟨rfl, hb2⟩
    go_wp2_with fail
    refine (HT.out.2.1 v2).mono ?_
    rintro e v3 ⟨rfl, hb3⟩
    go_wp2_with fail
    refine (HT.out.2.2.1 v3).mono ?_
    rintro e v4 ⟨rfl, hb4⟩
    go_wp2_with fail
    refine (HT.out.2.2.2.1 v4).mono ?_
    rintro e v5 ⟨rfl, hb5⟩
    go_wp2_with fail
    refine (HT.out.2.2.2.2.1 v5).mono ?_
    rintro e v6 ⟨rfl, hb6⟩
    have HB := Lib.hid (And.intro hb1 (And.intro hb2 (And.intro hb3 (And.intro hb4 (And.intro hb5 hb6)))))
    clear hb1 hb2 hb3 hb4 hb5 hb6
    go_wp2_with fail
    go_ret
    obtain ⟨hb1, hb2, hb3, hb4, hb5, hb6⟩ := HB.out
    exact ⟨rfl, hb1.trans ((hb2.trans ((hb3.trans ((hb4.trans ((hb5.trans (hb6.mono hb5.size)).mono hb4.size)).mono hb3.size)).mono hb2.size)).mono hb1.size)⟩
  obtain ⟨f1, f2, f3⟩ := remI_facts (a := a) h0
  have hq := tdiv_ok' ha (b := b)
  simp only [show A2.rem.run a b = some (remI a b) from if_neg h0, vnum, verr] at t4
  simp only [show A2.quo.run a b = some (a.tdiv b) from (if_neg h0).trans (fit_in hq), vnum, verr] at t5
  have w4 : wrap64 (a.tdiv b) = a.tdiv b := wrap_in hq
  obtain ⟨Q, hQ⟩ : ∃ Q, a.tdiv b = Q := ⟨_, rfl⟩
  rw [hQ] at t5
  have w4 : wrap64 (a.tdiv b) = Q := w4.trans hQ
  have HQ := Lib.hid hQ
  clear hQ hq
  have hm : -2147483648 ≤ remI a b ∧ remI a b ≤ 2147483648 := by
    by_cases hb0 : b > 0
    · have := f1 hb0; omega
    · have := f2 (by omega); omega
  generalize remI a b = M at *
  have w5 : wrap64 (-M) = -M := wrap_in ⟨by omega, by omega⟩
  have w6 : wrap64 (-b) = -b := wrap_in ⟨by omega, by omega⟩
  have w7 : wrap64 (a - M) = a - M := wrap_in ⟨by omega, by omega⟩
  have d0 : (b == 0) = false := by simpa using h0
  have HT := Lib.hid (And.intro t1 (And.intro t2 (And.intro t3 (And.intro t4 (And.intro t5 h0)))))
  clear t1 t2 t3 t4 t5 ka kb
  by_cases hb0 : b > 0
  · have hg := f1 hb0
    by_cases hmz : M = 0
    · clear f1 f2 hm ha hb
      have e1 : decide (b > 0) = true := decide_eq_true hb0
      have e2 : -b ≤ b := by omega
      subst hmz
      simp only [Int.sub_zero] at f3 w7
      have e3 : (0 : Int) < b := by omega
      have e3' : decide ((0 : Int) < b) = true := decide_eq_true e3
      clear hg
      go_enter Try.func7, Try.ntmps7
      go_wp2_with fail
      refine (shown12_at w).mono ?_
      rintro e v1 ⟨rfl, hb1⟩
      go_wp2_with fail
      refine (HT.out.1 v1).mono ?_
      rintro e v2 ⟨rfl, hb2⟩
      go_wp2_with fail
      refine (HT.out.2.1 v2).mono ?_
      rintro e v3 ⟨rfl, hb3⟩
      go_wp2_with fail
      refine (HT.out.2.2.1 v3).mono ?_
      rintro e v4 ⟨rfl, hb4⟩
      go_wp2_with fail
      refine (HT.out.2.2.2.1 v4).mono ?_
      rintro e v5 ⟨rfl, hb5⟩
      go_wp2_with fail
      refine (HT.out.2.2.2.2.1 v5).mono ?_
      rintro e v6 ⟨rfl, hb6⟩
      have HB := Lib.hid (And.intro hb1 (And.intro hb2 (And.intro hb3 (And.intro hb4 (And.intro hb5 hb6)))))
      clear hb1 hb2 hb3 hb4 hb5 hb6
      go_wp2_with fail
      go_ret
      obtain ⟨hb1, hb2, hb3, hb4, hb5, hb6⟩ := HB.out
      exact ⟨show Ending.returned (Value.bool (Q == a.tdiv b)) = _ by rw [show (Q == a.tdiv b) = true by simpa using HQ.out.symm], hb1.trans ((hb2.trans ((hb3.trans ((hb4.trans ((hb5.trans (hb6.mono hb5.size)).mono hb4.size)).mono hb3.size)).mono hb2.size)).mono hb1.size)⟩
    · clear f1 f2 hm ha hb
      have e1 : decide (b > 0) = true := decide_eq_true hb0
      have e2 : -b ≤ b := by omega
      have e4 : (M == 0) = false := by simpa using hmz
      have e5 : decide (M > 0) = true := decide_eq_true (by omega)
      have e6 : -M ≤ M := by omega
      have e7 : decide (M < b) = true := decide_eq_true (by omega)
      clear hg hmz
      go_enter Try.func7, Try.ntmps7
      go_wp2_with fail
      refine (shown12_at w).mono ?_
      rintro e v1 ⟨rfl, hb1⟩
      go_wp2_with fail
      refine (HT.out.1 v1).mono ?_
      rintro e v2 ⟨rfl, hb2⟩
      go_wp2_with fail
      refine (HT.out.2.1 v2).mono ?_
      rintro e v3 ⟨rfl, hb3⟩
      go_wp2_with fail
      refine (HT.out.2.2.1 v3).mono ?_
      rintro e v4 ⟨rfl, hb4⟩
      go_wp2_with fail
      refine (HT.out.2.2.2.1 v4).mono ?_
      rintro e v5 ⟨rfl, hb5⟩
      go_wp2_with fail
      refine (HT.out.2.2.2.2.1 v5).mono ?_
      rintro e v6 ⟨rfl, hb6⟩
      have HB := Lib.hid (And.intro hb1 (And.intro hb2 (And.intro hb3 (And.intro hb4 (And.intro hb5 hb6)))))
      clear hb1 hb2 hb3 hb4 hb5 hb6
      go_wp2_with fail
      go_ret
      obtain ⟨hb1, hb2, hb3, hb4, hb5, hb6⟩ := HB.out
      exact ⟨show Ending.returned (Value.bool (Q == a.tdiv b)) = _ by rw [show (Q == a.tdiv b) = true by simpa using HQ.out.symm], hb1.trans ((hb2.trans ((hb3.trans ((hb4.trans ((hb5.trans (hb6.mono hb5.size)).mono hb4.size)).mono hb3.size)).mono hb2.size)).mono hb1.size)⟩
  · have hg := f2 (by omega)
    by_cases hmz : M = 0
    · clear f1 f2 hm ha hb
      have e1 : decide (b > 0) = false := decide_eq_false hb0
      have e2 : ¬ (-b ≤ b) := by omega
      have e2' : b ≤ -b := by omega
      subst hmz
      simp only [Int.sub_zero] at f3 w7
      have e3 : (0 : Int) < -b := by omega
      have e3' : decide ((0 : Int) < -b) = true := decide_eq_true e3
      clear hg
      go_enter Try.func7, Try.ntmps7
      go_wp2_with fail
      refine (shown12_at w).mono ?_
      rintro e v1 ⟨rfl, hb1⟩
      go_wp2_with fail
      refine (HT.out.1 v1).mono ?_
      rintro e v2 ⟨rfl, hb2⟩
      go_wp2_with fail
      refine (HT.out.2.1 v2).mono ?_
      rintro e v3 ⟨rfl, hb3⟩
      go_wp2_with fail
      refine (HT.out.2.2.1 v3).mono ?_
      rintro e v4 ⟨rfl, hb4⟩
      go_wp2_with fail
      refine (HT.out.2.2.2.1 v4).mono ?_
      rintro e v5 ⟨rfl, hb5⟩
      go_wp2_with fail
      refine (HT.out.2.2.2.2.1 v5).mono ?_
      rintro e v6 ⟨rfl, hb6⟩
      have HB := Lib.hid (And.intro hb1 (And.intro hb2 (And.intro hb3 (And.intro hb4 (And.intro hb5 hb6)))))
      clear hb1 hb2 hb3 hb4 hb5 hb6
      go_wp2_with fail
      go_ret
      obtain ⟨hb1, hb2, hb3, hb4, hb5, hb6⟩ := HB.out
      exact ⟨show Ending.returned (Value.bool (Q == a.tdiv b)) = _ by rw [show (Q == a.tdiv b) = true by simpa using HQ.out.symm], hb1.trans ((hb2.trans ((hb3.trans ((hb4.trans ((hb5.trans (hb6.mono hb5.size)).mono hb4.size)).mono hb3.size)).mono hb2.size)).mono hb1.size)⟩
    · clear f1 f2 hm ha hb
      have e1 : decide (b > 0) = false := decide_eq_false hb0
      have e2 : ¬ (-b ≤ b) := by omega
      have e2' : b ≤ -b := by omega
      have e4 : (M == 0) = false := by simpa using hmz
      have e5 : decide (M > 0) = false := decide_eq_false (by omega)
      have e6 : ¬ (-M ≤ M) := by omega
      have e6' : M ≤ -M := by omega
      have e7 : decide (-M < -b) = true := decide_eq_true (by omega)
      have e8 : b < M := by omega
      have e9 : ¬ M ≤ b := by omega
      clear hg hmz
      go_enter Try.func7, Try.ntmps7
      go_wp2_with fail
      refine (shown12_at w).mono ?_
      rintro e v1 ⟨rfl, hb1⟩
      go_wp2_with fail
      refine (HT.out.1 v1).mono ?_
      rintro e v2 ⟨rfl, hb2⟩
      go_wp2_with fail
      refine (HT.out.2.1 v2).mono ?_
      rintro e v3 ⟨rfl, hb3⟩
      go_wp2_with fail
      refine (HT.out.2.2.1 v3).mono ?_
      rintro e v4 ⟨rfl, hb4⟩
      go_wp2_with fail
      refine (HT.out.2.2.2.1 v4).mono ?_
      rintro e v5 ⟨rfl, hb5⟩
      go_wp2_with fail
      refine (HT.out.2.2.2.2.1 v5).mono ?_
      rintro e v6 ⟨rfl, hb6⟩
      have HB := Lib.hid (And.intro hb1 (And.intro hb2 (And.intro hb3 (And.intro hb4 (And.intro hb5 hb6)))))
      clear hb1 hb2 hb3 hb4 hb5 hb6
      go_wp2_with fail
      go_ret
      obtain ⟨hb1, hb2, hb3, hb4, hb5, hb6⟩ := HB.out
      exact ⟨show Ending.returned (Value.bool (Q == a.tdiv b)) = _ by rw [show (Q == a.tdiv b) = true by simpa using HQ.out.symm], hb1.trans ((hb2.trans ((hb3.trans ((hb4.trans ((hb5.trans (hb6.mono hb5.size)).mono hb4.size)).mono hb3.size)).mono hb2.size)).mono hb1.size)⟩
end Go.Proofs.Ytfjnajngelemkaa
