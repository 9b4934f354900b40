/-
  The law ArithEdges, walked.
-/
import Derived.Test.YtfjnajngelemkaaZArHn2
namespace Go.Proofs.Ytfjnajngelemkaa
open Go.RowKit Go.Shelf
open Classical
set_option linter.unusedVariables false
set_option linter.unusedSimpArgs false

set_option maxRecDepth 100000 in
set_option maxHeartbeats 8000000 in
theorem arithEdges_at (a : Int) (ha : i64ok a) (w : World) : Calls Try.prog 8 #[.int .i64 a] w (Gets w (.bool true)) := by
  have t1 := fun w => ev_of a2_add a a (by decide) ha ha w
  have t2 := fun w => ev_of a2_mul a 2 (by decide) ha (by decide) w
  have t3 := fun w => ev_of a2_sub a a (by decide) ha ha w
  have t4 := fun w => ev_of a2_mul a (-1) (by decide) ha (by decide) w
  have t5 := fun w => ev_of a2_sub 0 a (by decide) (by decide) ha w
  have r2 : A2.mul.run a 2 = A2.add.run a a := by show fit (a * 2) = fit (a + a); rw [show a * 2 = a + a by omega]
  have r3 : A2.sub.run a a = some 0 := by show fit (a - a) = some 0; rw [Int.sub_self]; exact fit_in (by decide)
  have r4 : A2.mul.run a (-1) = fit (-a) := by show fit (a * -1) = fit (-a); rw [show a * -1 = -a by omega]
  have r5 : A2.sub.run 0 a = fit (-a) := by show fit (0 - a) = fit (-a); rw [Int.zero_sub]
  simp only [r2] at t2
  simp only [r3] at t3
  simp only [r4] at t4
  simp only [r5] at t5
  have r1 : A2.add.run a a = fit (a + a) := rfl
  simp only [r1] at t1 t2
  clear r1 r2 r3 r4 r5
  obtain ⟨ha1, ha2⟩ := ha
  by_cases h1 : a = -9223372036854775808
  · rw [show fit (a + a) = none from fit_out (fun h => by have := h.1; have := h.2; omega)] at t1 t2
    simp only [vnum, verr] at t1 t2
    simp only [vnum, verr] at t3
    rw [show fit (-a) = none from fit_out (fun h => by have := h.1; have := h.2; omega)] at t4 t5
    simp only [vnum, verr] at t4 t5
    have d1 : decide (a ≥ -4611686018427387904) = false := decide_eq_false (by omega)
    subst h1
    clear d1
    have HT := Lib.hid (And.intro t1 (And.intro t2 (And.intro t3 (And.intro t4 t5))))
    clear t1 t2 t3 t4 t5 ha1 ha2
    go_enter Try.func8, Try.ntmps8
    go_wp2_with fail
    refine (shown12_at w).mono ?_
    rintro e w1 ⟨rfl, hb1⟩
    go_wp2_with fail
    refine (HT.out.1 w1).mono ?_
    rintro e w2 ⟨rfl, hb2⟩
    go_wp2_with fail
    refine (HT.out.2.1 w2).mono ?_
    rintro e w3 ⟨rfl, hb3⟩
    go_wp2_with fail
    refine (HT.out.2.2.1 w3).mono ?_
    rintro e w4 ⟨rfl, hb4⟩
    go_wp2_with fail
    refine (HT.out.2.2.2.1 w4).mono ?_
    rintro e w5 ⟨rfl, hb5⟩
    go_wp2_with fail
    refine (HT.out.2.2.2.2 w5).mono ?_
    rintro e w6 ⟨rfl, hb6⟩
    have HB := Lib.hid (And.intro hb1 (And.intro hb2 (And.intro hb3 (And.intro hb4 (And.intro hb5 hb6)))))
    clear hb1 hb2 hb3 hb4 hb5 hb6 HT
    go_wp2_with fail
    go_ret
    obtain ⟨hb1, hb2, hb3, hb4, hb5, hb6⟩ := HB.out
    exact ⟨rfl, hb1.trans ((hb2.trans ((hb3.trans ((hb4.trans ((hb5.trans (hb6.mono hb5.size)).mono hb4.size)).mono hb3.size)).mono hb2.size)).mono hb1.size)⟩
  by_cases h2 : a ≥ -4611686018427387904
  · by_cases h3 : a ≤ 4611686018427387903
    · rw [show fit (a + a) = some (a + a) from fit_in ⟨by omega, by omega⟩] at t1 t2
      simp only [vnum, verr] at t1 t2
      obtain ⟨P, hP⟩ : ∃ P, a + a = P := ⟨_, rfl⟩
      rw [hP] at t1 t2
      clear hP
      simp only [vnum, verr] at t3
      rw [show fit (-a) = some (-a) from fit_in ⟨by omega, by omega⟩] at t4 t5
      simp only [vnum, verr] at t4 t5
      obtain ⟨M, hM⟩ : ∃ M, -a = M := ⟨_, rfl⟩
      rw [hM] at t4 t5
      clear hM
      have d1 : decide (a ≥ -4611686018427387904) = true := decide_eq_true (by omega)
      have d2 : decide (a ≤ 4611686018427387903) = true := decide_eq_true (by omega)
      have d3 : (a == -9223372036854775808) = false := by simpa using (by omega : ¬ a = -9223372036854775808)
      have HT := Lib.hid (And.intro t1 (And.intro t2 (And.intro t3 (And.intro t4 t5))))
      clear h1 t1 t2 t3 t4 t5 ha1 ha2
      go_enter Try.func8, Try.ntmps8
      go_wp2_with fail
      refine (shown12_at w).mono ?_
      rintro e w1 ⟨rfl, hb1⟩
      go_wp2_with fail
      refine (HT.out.1 w1).mono ?_
      rintro e w2 ⟨rfl, hb2⟩
      go_wp2_with fail
      refine (HT.out.2.1 w2).mono ?_
      rintro e w3 ⟨rfl, hb3⟩
      go_wp2_with fail
      refine (HT.out.2.2.1 w3).mono ?_
      rintro e w4 ⟨rfl, hb4⟩
      go_wp2_with fail
      refine (HT.out.2.2.2.1 w4).mono ?_
      rintro e w5 ⟨rfl, hb5⟩
      go_wp2_with fail
      refine (HT.out.2.2.2.2 w5).mono ?_
      rintro e w6 ⟨rfl, hb6⟩
      have HB := Lib.hid (And.intro hb1 (And.intro hb2 (And.intro hb3 (And.intro hb4 (And.intro hb5 hb6)))))
      clear hb1 hb2 hb3 hb4 hb5 hb6 HT
      go_wp2_with fail
      go_ret
      obtain ⟨hb1, hb2, hb3, hb4, hb5, hb6⟩ := HB.out
      exact ⟨rfl, hb1.trans ((hb2.trans ((hb3.trans ((hb4.trans ((hb5.trans (hb6.mono hb5.size)).mono hb4.size)).mono hb3.size)).mono hb2.size)).mono hb1.size)⟩
    · rw [show fit (a + a) = none from fit_out (fun h => by have := h.1; have := h.2; omega)] at t1 t2
      simp only [vnum, verr] at t1 t2
      simp only [vnum, verr] at t3
      rw [show fit (-a) = some (-a) from fit_in ⟨by omega, by omega⟩] at t4 t5
      simp only [vnum, verr] at t4 t5
      obtain ⟨M, hM⟩ : ∃ M, -a = M := ⟨_, rfl⟩
      rw [hM] at t4 t5
      clear hM
      have d1 : decide (a ≥ -4611686018427387904) = true := decide_eq_true (by omega)
      have d2 : decide (a ≤ 4611686018427387903) = false := decide_eq_false (by omega)
      have d3 : (a == -9223372036854775808) = false := by simpa using (by omega : ¬ a = -9223372036854775808)
      have HT := Lib.hid (And.intro t1 (And.intro t2 (And.intro t3 (And.intro t4 t5))))
      clear h1 t1 t2 t3 t4 t5 ha1 ha2
      go_enter Try.func8, Try.ntmps8
      go_wp2_with fail
      refine (shown12_at w).mono ?_
      rintro e w1 ⟨rfl, hb1⟩
      go_wp2_with fail
      refine (HT.out.1 w1).mono ?_
      rintro e w2 ⟨rfl, hb2⟩
      go_wp2_with fail
      refine (HT.out.2.1 w2).mono ?_
      rintro e w3 ⟨rfl, hb3⟩
      go_wp2_with fail
      refine (HT.out.2.2.1 w3).mono ?_
      rintro e w4 ⟨rfl, hb4⟩
      go_wp2_with fail
      refine (HT.out.2.2.2.1 w4).mono ?_
      rintro e w5 ⟨rfl, hb5⟩
      go_wp2_with fail
      refine (HT.out.2.2.2.2 w5).mono ?_
      rintro e w6 ⟨rfl, hb6⟩
      have HB := Lib.hid (And.intro hb1 (And.intro hb2 (And.intro hb3 (And.intro hb4 (And.intro hb5 hb6)))))
      clear hb1 hb2 hb3 hb4 hb5 hb6 HT
      go_wp2_with fail
      go_ret
      obtain ⟨hb1, hb2, hb3, hb4, hb5, hb6⟩ := HB.out
      exact ⟨rfl, hb1.trans ((hb2.trans ((hb3.trans ((hb4.trans ((hb5.trans (hb6.mono hb5.size)).mono hb4.size)).mono hb3.size)).mono hb2.size)).mono hb1.size)⟩
  · rw [show fit (a + a) = none from fit_out (fun h => by have := h.1; have := h.2; omega)] at t1 t2
    simp only [vnum, verr] at t1 t2
    simp only [vnum, verr] at t3
    rw [show fit (-a) = some (-a) from fit_in ⟨by omega, by omega⟩] at t4 t5
    simp only [vnum, verr] at t4 t5
    obtain ⟨M, hM⟩ : ∃ M, -a = M := ⟨_, rfl⟩
    rw [hM] at t4 t5
    clear hM
    have d1 : decide (a ≥ -4611686018427387904) = false := decide_eq_false (by omega)
    have d3 : (a == -9223372036854775808) = false := by simpa using (by omega : ¬ a = -9223372036854775808)
    have HT := Lib.hid (And.intro t1 (And.intro t2 (And.intro t3 (And.intro t4 t5))))
    clear h1 t1 t2 t3 t4 t5 ha1 ha2
    go_enter Try.func8, Try.ntmps8
    go_wp2_with fail
    refine (shown12_at w).mono ?_
    rintro e w1 ⟨rfl, hb1⟩
    go_wp2_with fail
    refine (HT.out.1 w1).mono ?_
    rintro e w2 ⟨rfl, hb2⟩
    go_wp2_with fail
    refine (HT.out.2.1 w2).mono ?_
    rintro e w3 ⟨rfl, hb3⟩
    go_wp2_with fail
    refine (HT.out.2.2.1 w3).mono ?_
    rintro e w4 ⟨rfl, hb4⟩
    go_wp2_with fail
    refine (HT.out.2.2.2.1 w4).mono ?_
    rintro e w5 ⟨rfl, hb5⟩
    go_wp2_with fail
    refine (HT.out.2.2.2.2 w5).mono ?_
    rintro e w6 ⟨rfl, hb6⟩
    have HB := Lib.hid (And.intro hb1 (And.intro hb2 (And.intro hb3 (And.intro hb4 (And.intro hb5 hb6)))))
    clear hb1 hb2 hb3 hb4 hb5 hb6 HT
    go_wp2_with fail
    go_ret
    obtain ⟨hb1, hb2, hb3, hb4, hb5, hb6⟩ := HB.out
    exact ⟨rfl, hb1.trans ((hb2.trans ((hb3.trans ((hb4.trans ((hb5.trans (hb6.mono hb5.size)).mono hb4.size)).mono hb3.size)).mono hb2.size)).mono hb1.size)⟩
end Go.Proofs.Ytfjnajngelemkaa
