/-
  arith.fail, and what works on numbers: negative, absolute, sum, difference, product, quotient, remainder.
-/
import Derived.Test.YtfjnajngelemkaaZArM
import Derived.BigQuiet
import Derived.Deep.DeepCutAuto
namespace Go.Proofs.Ytfjnajngelemkaa
open Go.RowKit Go.Shelf
open Classical
set_option linter.unusedVariables false
set_option linter.unusedSimpArgs false

def afault (code : Int) : Ending := .panicked [{ v := .iface 104 (.agg #[.int .i64 code]), recovered := false }]
/-- A number, or the error of a number that there is not. -/
def APost (w : World) : Option Int → Ending → World → Prop
  | some m, e, w' => e = .returned (.int .i64 m) ∧ w' = w
  | none, e, w' => e = afault 10 ∧ w' = w
theorem afail_at (code : Int) (w : World) : Calls Try.prog 81 #[.int .i64 code] w fun e w' => e = afault code ∧ w' = w := by
  go_enter Try.func81, Try.ntmps81
  go_wp2
  exact ⟨rfl, rfl, rfl⟩
/-- A sum that is wrapped round goes the wrong way. -/
theorem wrap_over {x : Int} (h1 : 9223372036854775807 < x) (h2 : x ≤ 18446744073709551615) : wrap64 x = x - 18446744073709551616 := by unfold wrap64; omega
theorem wrap_under {x : Int} (h1 : x < -9223372036854775808) (h2 : -18446744073709551616 ≤ x) : wrap64 x = x + 18446744073709551616 := by unfold wrap64; omega
theorem wrap_in {x : Int} (h : i64ok x) : wrap64 x = x := by obtain ⟨h1, h2⟩ := h; unfold wrap64; omega

set_option maxRecDepth 100000 in
set_option maxHeartbeats 1000000 in
theorem sum_at (a b : Int) (ha : i64ok a) (hb : i64ok b) (w : World) : Calls Try.prog 100 #[.int .i64 a, .int .i64 b] w (APost w (fit (a + b))) := by
  obtain ⟨ha1, ha2⟩ := ha
  obtain ⟨hb1, hb2⟩ := hb
  have hf := afail_at 10 w
  obtain ⟨n, hn⟩ : ∃ n, wrap64 (a + b) = n := ⟨_, rfl⟩
  have hw : n = a + b ∧ i64ok (a + b) ∨ n = a + b - 18446744073709551616 ∧ 9223372036854775807 < a + b ∨ n = a + b + 18446744073709551616 ∧ a + b < -9223372036854775808 := by
    rw [← hn]
    by_cases h1 : 9223372036854775807 < a + b
    · exact .inr (.inl ⟨wrap_over h1 (by omega), h1⟩)
    · by_cases h2 : a + b < -9223372036854775808
      · exact .inr (.inr ⟨wrap_under h2 (by omega), h2⟩)
      · exact .inl ⟨wrap_in ⟨by omega, by omega⟩, by omega, by omega⟩
  by_cases h1 : b < 0
  · have d1 : decide (b < 0) = true := decide_eq_true (by omega)
    have d3 : decide (b > 0) = false := decide_eq_false (by omega)
    have d3' : ¬ b > 0 := by omega
    by_cases h2 : n > a
    · have hv : fit (a + b) = none := fit_out (by unfold i64ok at *; omega)
      rw [hv]
      have HV := Lib.hid hv
      clear hw hv
      have d2 : decide (n > a) = true := decide_eq_true (by omega)
      go_enter Try.func100, Try.ntmps100
      go_upto_region 2 with fail
      try rw [hn]
      clear hn ha1 ha2 hb1 hb2 HV
      go_wp2_with (go_at_call 81; refine hf.mono ?_; rintro e w1 ⟨he, rfl⟩; unfold afault at he; subst he)
      exact ⟨rfl, rfl, rfl⟩
    · have hv : fit (a + b) = some n := by
        have : i64ok (a + b) ∧ n = a + b := by unfold i64ok at *; omega
        rw [fit_in this.1, this.2]
      rw [hv]
      have HV := Lib.hid hv
      clear hw hv
      have d2 : decide (n > a) = false := decide_eq_false (by omega)
      go_enter Try.func100, Try.ntmps100
      go_upto_region 2 with fail
      try rw [hn]
      clear hn ha1 ha2 hb1 hb2 HV
      go_wp2_with fail
      go_ret
      exact ⟨rfl, rfl⟩
  · by_cases h3 : b > 0
    · have d1 : decide (b < 0) = false := decide_eq_false (by omega)
      have d3 : decide (b > 0) = true := decide_eq_true (by omega)
      by_cases h2 : n < a
      · have hv : fit (a + b) = none := fit_out (by unfold i64ok at *; omega)
        rw [hv]
        have HV := Lib.hid hv
        clear hw hv
        have d2 : decide (n < a) = true := decide_eq_true (by omega)
        go_enter Try.func100, Try.ntmps100
        go_upto_region 2 with fail
        try rw [hn]
        clear hn ha1 ha2 hb1 hb2 HV
        go_wp2_with (go_at_call 81; refine hf.mono ?_; rintro e w1 ⟨he, rfl⟩; unfold afault at he; subst he)
        exact ⟨rfl, rfl, rfl⟩
      · have hv : fit (a + b) = some n := by
          have : i64ok (a + b) ∧ n = a + b := by unfold i64ok at *; omega
          rw [fit_in this.1, this.2]
        rw [hv]
        have HV := Lib.hid hv
        clear hw hv
        have d2 : decide (n < a) = false := decide_eq_false (by omega)
        go_enter Try.func100, Try.ntmps100
        go_upto_region 2 with fail
        try rw [hn]
        clear hn ha1 ha2 hb1 hb2 HV
        go_wp2_with fail
        go_ret
        exact ⟨rfl, rfl⟩
    · have d1 : decide (b < 0) = false := decide_eq_false (by omega)
      have d3 : decide (b > 0) = false := decide_eq_false (by omega)
      have hv : fit (a + b) = some (a + b) := fit_in (by unfold i64ok; omega)
      rw [hv]
      clear hv hw
      go_enter Try.func100, Try.ntmps100
      go_upto_region 2 with fail
      go_wp2_with fail
      go_ret
      exact ⟨rfl, rfl⟩
set_option maxRecDepth 100000 in
set_option maxHeartbeats 1000000 in
theorem difference_at (a b : Int) (ha : i64ok a) (hb : i64ok b) (w : World) : Calls Try.prog 101 #[.int .i64 a, .int .i64 b] w (APost w (fit (a - b))) := by
  obtain ⟨ha1, ha2⟩ := ha
  obtain ⟨hb1, hb2⟩ := hb
  have hf := afail_at 10 w
  obtain ⟨n, hn⟩ : ∃ n, wrap64 (a - b) = n := ⟨_, rfl⟩
  have hw : n = a - b ∧ i64ok (a - b) ∨ n = a - b - 18446744073709551616 ∧ 9223372036854775807 < a - b ∨ n = a - b + 18446744073709551616 ∧ a - b < -9223372036854775808 := by
    rw [← hn]
    by_cases h1 : 9223372036854775807 < a - b
    · exact .inr (.inl ⟨wrap_over h1 (by omega), h1⟩)
    · by_cases h2 : a - b < -9223372036854775808
      · exact .inr (.inr ⟨wrap_under h2 (by omega), h2⟩)
      · exact .inl ⟨wrap_in ⟨by omega, by omega⟩, by omega, by omega⟩
  by_cases h1 : b < 0
  · have d1 : decide (b < 0) = true := decide_eq_true (by omega)
    have d3 : decide (b > 0) = false := decide_eq_false (by omega)
    have d3' : ¬ b > 0 := by omega
    by_cases h2 : n < a
    · have hv : fit (a - b) = none := fit_out (by unfold i64ok at *; omega)
      rw [hv]
      have HV := Lib.hid hv
      clear hw hv
      have d2 : decide (n < a) = true := decide_eq_true (by omega)
      go_enter Try.func101, Try.ntmps101
      go_upto_region 2 with fail
      try rw [hn]
      clear hn ha1 ha2 hb1 hb2 HV
      go_wp2_with (go_at_call 81; refine hf.mono ?_; rintro e w1 ⟨he, rfl⟩; unfold afault at he; subst he)
      exact ⟨rfl, rfl, rfl⟩
    · have hv : fit (a - b) = some n := by
        have : i64ok (a - b) ∧ n = a - b := by unfold i64ok at *; omega
        rw [fit_in this.1, this.2]
      rw [hv]
      have HV := Lib.hid hv
      clear hw hv
      have d2 : decide (n < a) = false := decide_eq_false (by omega)
      go_enter Try.func101, Try.ntmps101
      go_upto_region 2 with fail
      try rw [hn]
      clear hn ha1 ha2 hb1 hb2 HV
      go_wp2_with fail
      go_ret
      exact ⟨rfl, rfl⟩
  · by_cases h3 : b > 0
    · have d1 : decide (b < 0) = false := decide_eq_false (by omega)
      have d3 : decide (b > 0) = true := decide_eq_true (by omega)
      by_cases h2 : n > a
      · have hv : fit (a - b) = none := fit_out (by unfold i64ok at *; omega)
        rw [hv]
        have HV := Lib.hid hv
        clear hw hv
        have d2 : decide (n > a) = true := decide_eq_true (by omega)
        go_enter Try.func101, Try.ntmps101
        go_upto_region 2 with fail
        try rw [hn]
        clear hn ha1 ha2 hb1 hb2 HV
        go_wp2_with (go_at_call 81; refine hf.mono ?_; rintro e w1 ⟨he, rfl⟩; unfold afault at he; subst he)
        exact ⟨rfl, rfl, rfl⟩
      · have hv : fit (a - b) = some n := by
          have : i64ok (a - b) ∧ n = a - b := by unfold i64ok at *; omega
          rw [fit_in this.1, this.2]
        rw [hv]
        have HV := Lib.hid hv
        clear hw hv
        have d2 : decide (n > a) = false := decide_eq_false (by omega)
        go_enter Try.func101, Try.ntmps101
        go_upto_region 2 with fail
        try rw [hn]
        clear hn ha1 ha2 hb1 hb2 HV
        go_wp2_with fail
        go_ret
        exact ⟨rfl, rfl⟩
    · have d1 : decide (b < 0) = false := decide_eq_false (by omega)
      have d3 : decide (b > 0) = false := decide_eq_false (by omega)
      have hv : fit (a - b) = some (a - b) := fit_in (by unfold i64ok; omega)
      rw [hv]
      clear hv hw
      go_enter Try.func101, Try.ntmps101
      go_upto_region 2 with fail
      go_wp2_with fail
      go_ret
      exact ⟨rfl, rfl⟩
theorem apost_bind {w w' : World} {o : Option Int} {e : Ending} (h : APost w o e w') : (∃ m, o = some m ∧ e = .returned (.int .i64 m) ∧ w' = w) ∨ (o = none ∧ e = afault 10 ∧ w' = w) := by
  cases o with
  | none => exact .inr ⟨rfl, h.1, h.2⟩
  | some m => exact .inl ⟨m, rfl, h.1, h.2⟩
set_option maxRecDepth 100000 in
theorem negative_at (a : Int) (ha : i64ok a) (w : World) : Calls Try.prog 98 #[.int .i64 a] w (APost w (fit (-a))) := by
  have hd := difference_at 0 a (by decide) ha w
  rw [Int.zero_sub] at hd
  cases ho : fit (-a) with
  | none =>
    rw [ho] at hd
    clear ho
    go_enter Try.func98, Try.ntmps98
    go_wp2_with (go_at_call 101; refine hd.mono ?_; rintro e w1 ⟨he, rfl⟩; unfold afault at he; subst he)
    exact ⟨rfl, rfl, rfl⟩
  | some m =>
    rw [ho] at hd
    clear ho
    go_enter Try.func98, Try.ntmps98
    go_wp2_with (go_at_call 101; refine hd.mono ?_; rintro e w1 ⟨rfl, rfl⟩)
    go_ret
    exact ⟨rfl, rfl⟩
set_option maxRecDepth 100000 in
theorem absolute_at (a : Int) (ha : i64ok a) (w : World) : Calls Try.prog 99 #[.int .i64 a] w (APost w (fit (if a < 0 then -a else a))) := by
  have hd := negative_at a ha w
  by_cases h0 : a < 0
  · rw [if_pos h0]
    have d1 : decide (a < 0) = true := decide_eq_true h0
    cases ho : fit (-a) with
    | none =>
      rw [ho] at hd
      clear ho ha
      go_enter Try.func99, Try.ntmps99
      go_wp2_with (go_at_call 98; refine hd.mono ?_; rintro e w1 ⟨he, rfl⟩; unfold afault at he; subst he)
      exact ⟨rfl, rfl, rfl⟩
    | some m =>
      rw [ho] at hd
      clear ho ha
      go_enter Try.func99, Try.ntmps99
      go_wp2_with (go_at_call 98; refine hd.mono ?_; rintro e w1 ⟨rfl, rfl⟩)
      go_ret
      exact ⟨rfl, rfl⟩
  · rw [if_neg h0, fit_in ha]
    have d1 : decide (a < 0) = false := decide_eq_false h0
    clear hd ha
    go_enter Try.func99, Try.ntmps99
    go_wp2_with fail
    go_ret
    exact ⟨rfl, rfl⟩
theorem tdiv_ok {n a : Int} (hn : i64ok n) (ha : a ≠ -1) : i64ok (n.tdiv a) := by
  obtain ⟨h1, h2⟩ := hn
  have h : (n.tdiv a).natAbs = n.natAbs / a.natAbs := Int.natAbs_tdiv n a
  have h3 : n.natAbs / a.natAbs ≤ n.natAbs := Nat.div_le_self _ _
  by_cases h4 : n = -9223372036854775808
  · subst h4
    by_cases h5 : 0 ≤ a
    · have : (-9223372036854775808 : Int).tdiv a ≤ 0 := by rw [show (-9223372036854775808 : Int) = -(9223372036854775808 : Int) from rfl, Int.neg_tdiv]; have := Int.tdiv_nonneg (a := 9223372036854775808) (b := a) (by decide) h5; omega
      exact ⟨by omega, by omega⟩
    · have h6 : 2 ≤ a.natAbs := by omega
      have h7 : (-9223372036854775808 : Int).natAbs / a.natAbs ≤ 9223372036854775808 / 2 := Nat.div_le_div_left h6 (by decide)
      exact ⟨by omega, by omega⟩
  · exact ⟨by omega, by omega⟩
theorem wrap_mul (x : Int) : ∃ k : Int, wrap64 x = x + k * 18446744073709551616 ∧ i64ok (wrap64 x) := by
  refine ⟨-((x + 9223372036854775808) / 18446744073709551616), ?_, ?_⟩
  · unfold wrap64; omega
  · unfold wrap64 i64ok; omega
/-- A product that is wrapped round doesn't lead back. -/
theorem mul_back {a b : Int} (ha : i64ok a) (h0 : a ≠ 0) (h1 : a ≠ -1) (h : (wrap64 (a * b)).tdiv a = b) : wrap64 (a * b) = a * b := by
  obtain ⟨k, hk, hn⟩ := wrap_mul (a * b)
  have h2 := Int.mul_tdiv_add_tmod (wrap64 (a * b)) a
  rw [h] at h2
  have h3 : ((wrap64 (a * b)).tmod a).natAbs < a.natAbs := by rw [Int.natAbs_tmod]; exact Nat.mod_lt _ (by omega)
  obtain ⟨ha1, ha2⟩ := ha
  generalize (wrap64 (a * b)).tmod a = m at *
  generalize a * b = p at *
  omega
theorem mul_fwd {a b : Int} (h0 : a ≠ 0) (h : i64ok (a * b)) : (wrap64 (a * b)).tdiv a = b := by
  rw [wrap_in h]; exact Int.mul_tdiv_cancel_left _ h0
set_option maxRecDepth 100000 in
set_option maxHeartbeats 1000000 in
theorem product_at (a b : Int) (ha : i64ok a) (hb : i64ok b) (w : World) : Calls Try.prog 102 #[.int .i64 a, .int .i64 b] w (APost w (fit (a * b))) := by
  have hf := afail_at 10 w
  by_cases h0 : a = 0
  · subst h0
    rw [Int.zero_mul, fit_in (x := 0) (by decide)]
    go_enter Try.func102, Try.ntmps102
    go_wp2_with fail
    go_ret
    exact ⟨rfl, rfl⟩
  have d0 : (a == 0) = false := by simpa using h0
  by_cases h0' : b = 0
  · subst h0'
    rw [Int.mul_zero, fit_in (x := 0) (by decide)]
    clear ha hb h0
    go_enter Try.func102, Try.ntmps102
    go_wp2_with fail
    go_ret
    exact ⟨rfl, rfl⟩
  have d0' : (b == 0) = false := by simpa using h0'
  by_cases h1 : a = -1
  · subst h1
    have hd := negative_at b hb w
    rw [Int.neg_mul, Int.one_mul]
    cases ho : fit (-b) with
    | none =>
      rw [ho] at hd
      clear ho ha hb h0' h0
      go_enter Try.func102, Try.ntmps102
      go_wp2_with (go_at_call 98; refine hd.mono ?_; rintro e w1 ⟨he, rfl⟩; unfold afault at he; subst he)
      exact ⟨rfl, rfl, rfl⟩
    | some m =>
      rw [ho] at hd
      clear ho ha hb h0' h0
      go_enter Try.func102, Try.ntmps102
      go_wp2_with (go_at_call 98; refine hd.mono ?_; rintro e w1 ⟨rfl, rfl⟩)
      go_ret
      exact ⟨rfl, rfl⟩
  have d1 : (a == -1) = false := by simpa using h1
  obtain ⟨n, hn⟩ : ∃ n, wrap64 (a * b) = n := ⟨_, rfl⟩
  obtain ⟨q, hq⟩ : ∃ q, n.tdiv a = q := ⟨_, rfl⟩
  have hnok : i64ok n := by rw [← hn]; exact (wrap_mul (a * b)).choose_spec.2
  have hqw : wrap64 q = q := wrap_in (by rw [← hq]; exact tdiv_ok hnok h1)
  by_cases h2 : q = b
  · have hv : fit (a * b) = some n := by
      have : n = a * b := by rw [← hn]; exact mul_back ha h0 h1 (by rw [hn, hq, h2])
      rw [this] at hnok ⊢
      exact fit_in hnok
    rw [hv]
    have d2 : (wrap64 (n.tdiv a) != b) = false := by rw [hq, hqw]; simpa using h2
    have HN := Lib.hid hn
    have HB := Lib.hid h2
    have HA := Lib.hid h0
    clear hv hn hq hqw h2 hnok ha hb h1 h0'
    go_enter Try.func102, Try.ntmps102
    go_upto_region 6 with fail
    try rw [HN.out]
    go_upto_region 7 with fail
    go_wp2_with fail
    go_ret
    exact ⟨rfl, rfl⟩
  · have hv : fit (a * b) = none := fit_out (fun h => h2 (by rw [← hq, ← hn]; exact mul_fwd h0 h))
    rw [hv]
    have d2 : (wrap64 (n.tdiv a) != b) = true := by rw [hq, hqw]; simpa using h2
    have HN := Lib.hid hn
    clear hv hn hq hqw h2 hnok ha hb h1 h0'
    go_enter Try.func102, Try.ntmps102
    go_upto_region 6 with fail
    try rw [HN.out]
    go_upto_region 7 with fail
    go_wp2_with (go_at_call 81; refine hf.mono ?_; rintro e w1 ⟨he, rfl⟩; unfold afault at he; subst he)
    exact ⟨rfl, rfl, rfl⟩

theorem rem_ok {a b : Int} (hb : i64ok b) (h0 : b ≠ 0) : i64ok (a.tmod b) ∧ i64ok (remI a b) ∧ ((a.tmod b < 0 ↔ 0 ≤ b) → i64ok (a.tmod b + b)) := by
  have h : (a.tmod b).natAbs = a.natAbs % b.natAbs := Int.natAbs_tmod a b
  have h3 : a.natAbs % b.natAbs < b.natAbs := Nat.mod_lt _ (by omega)
  unfold remI
  obtain ⟨hb1, hb2⟩ := hb
  generalize a.natAbs % b.natAbs = r at *
  generalize a.tmod b = m at *
  have k1 : i64ok m := ⟨by omega, by omega⟩
  refine ⟨k1, ?_, fun h => ⟨by omega, by omega⟩⟩
  split
  · exact ⟨by omega, by omega⟩
  · exact k1
theorem tdiv_neg1 (a : Int) : a.tdiv (-1) = -a := by rw [Int.tdiv_neg, Int.tdiv_one]
set_option maxRecDepth 100000 in
set_option maxHeartbeats 1000000 in
theorem quotient_at (a b : Int) (ha : i64ok a) (hb : i64ok b) (w : World) : Calls Try.prog 103 #[.int .i64 a, .int .i64 b] w (APost w (A2.quo.run a b)) := by
  have hf := afail_at 10 w
  rw [show A2.quo.run a b = if b = 0 then none else fit (a.tdiv b) from rfl]
  by_cases h0 : b = 0
  · subst h0
    rw [if_pos rfl]
    go_enter Try.func103, Try.ntmps103
    go_wp2_with (go_at_call 81; refine hf.mono ?_; rintro e w1 ⟨he, rfl⟩; unfold afault at he; subst he)
    exact ⟨rfl, rfl, rfl⟩
  rw [if_neg h0]
  have d0 : (b == 0) = false := by simpa using h0
  by_cases h1 : b = -1
  · subst h1
    have hd := negative_at a ha w
    rw [tdiv_neg1]
    cases ho : fit (-a) with
    | none =>
      rw [ho] at hd
      clear ho ha hb h0
      go_enter Try.func103, Try.ntmps103
      go_wp2_with (go_at_call 98; refine hd.mono ?_; rintro e w1 ⟨he, rfl⟩; unfold afault at he; subst he)
      exact ⟨rfl, rfl, rfl⟩
    | some m =>
      rw [ho] at hd
      clear ho ha hb h0
      go_enter Try.func103, Try.ntmps103
      go_wp2_with (go_at_call 98; refine hd.mono ?_; rintro e w1 ⟨rfl, rfl⟩)
      go_ret
      exact ⟨rfl, rfl⟩
  have d1 : (b == -1) = false := by simpa using h1
  have hq := tdiv_ok ha h1
  rw [fit_in hq]
  have hw := Lib.hid (wrap_in hq)
  have HA := Lib.hid (And.intro ha hb)
  clear hf hq ha hb h1
  go_enter Try.func103, Try.ntmps103
  go_wp2_with fail
  go_ret
  exact ⟨congrArg (fun x => Ending.returned (Value.int .i64 x)) hw.out, rfl⟩
set_option maxRecDepth 100000 in
set_option maxHeartbeats 1000000 in
theorem remainder_at (a b : Int) (ha : i64ok a) (hb : i64ok b) (w : World) : Calls Try.prog 104 #[.int .i64 a, .int .i64 b] w (APost w (A2.rem.run a b)) := by
  have hf := afail_at 10 w
  rw [show A2.rem.run a b = if b = 0 then none else some (remI a b) from rfl]
  by_cases h0 : b = 0
  · subst h0
    rw [if_pos rfl]
    go_enter Try.func104, Try.ntmps104
    go_wp2_with (go_at_call 81; refine hf.mono ?_; rintro e w1 ⟨he, rfl⟩; unfold afault at he; subst he)
    exact ⟨rfl, rfl, rfl⟩
  rw [if_neg h0]
  have d0 : (b == 0) = false := by simpa using h0
  obtain ⟨hr1, hr2, hr3⟩ := rem_ok (a := a) hb h0
  unfold remI at hr2 ⊢
  have hwm := wrap_in hr1
  obtain ⟨m, hm⟩ : ∃ m, a.tmod b = m := ⟨_, rfl⟩
  rw [hm] at hr1 hr2 hr3 hwm ⊢
  have HM := Lib.hid hm
  have HH := Lib.hid (And.intro ha (And.intro hb (And.intro hr1 hr2)))
  clear hm hf ha hb hr1 hr2
  by_cases h1 : m = 0
  · rw [if_neg (fun e => e.1 h1)]
    have d1 : (m != 0) = false := by simpa using h1
    clear h1 hr3
    go_enter Try.func104, Try.ntmps104
    go_upto_region 4 with fail
    try rw [HM.out]
    go_wp2_with fail
    go_ret
    exact ⟨rfl, rfl⟩
  have d1 : (m != 0) = true := by simpa using h1
  by_cases h2 : m < 0
  · have d2 : decide (m < 0) = true := decide_eq_true h2
    by_cases h3 : b < 0
    · have d3 : decide (b < 0) = true := decide_eq_true h3
      rw [if_neg (fun e => by have := e.2.1 h2; omega)]
      clear h1 hr3
      go_enter Try.func104, Try.ntmps104
      go_upto_region 4 with fail
      try rw [HM.out]
      go_wp2_with fail
      go_ret
      exact ⟨rfl, rfl⟩
    · have d3 : decide (b < 0) = false := decide_eq_false h3
      have hc : m < 0 ↔ 0 ≤ b := ⟨fun _ => by omega, fun _ => h2⟩
      rw [if_pos ⟨h1, hc⟩]
      have hws := wrap_in (hr3 hc)
      clear h1 hr3 hc
      go_enter Try.func104, Try.ntmps104
      go_upto_region 4 with fail
      try rw [HM.out]
      go_wp2_with fail
      go_ret
      exact ⟨rfl, rfl⟩
  · have d2 : decide (m < 0) = false := decide_eq_false h2
    by_cases h3 : b < 0
    · have d3 : decide (b < 0) = true := decide_eq_true h3
      have hc : m < 0 ↔ 0 ≤ b := ⟨fun _ => by omega, fun _ => by omega⟩
      rw [if_pos ⟨h1, hc⟩]
      have hws := wrap_in (hr3 hc)
      clear h1 hr3 hc
      go_enter Try.func104, Try.ntmps104
      go_upto_region 4 with fail
      try rw [HM.out]
      go_wp2_with fail
      go_ret
      exact ⟨rfl, rfl⟩
    · have d3 : decide (b < 0) = false := decide_eq_false h3
      rw [if_neg (fun e => by have := e.2.2 (by omega); omega)]
      clear h1 hr3
      go_enter Try.func104, Try.ntmps104
      go_upto_region 4 with fail
      try rw [HM.out]
      go_wp2_with fail
      go_ret
      exact ⟨rfl, rfl⟩
end Go.Proofs.Ytfjnajngelemkaa
