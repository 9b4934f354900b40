/-
  arith's value and result: what a term is evaluated to.
-/
import Derived.Test.YtfjnajngelemkaaZArD
import Derived.BigQuiet
import Derived.Deep.DeepCutAuto
namespace Go.Proofs.Ytfjnajngelemkaa
open Go.RowKit Go.Shelf
open Classical
set_option linter.unusedVariables false
set_option linter.unusedSimpArgs false

theorem name_ne {s : ByteArray} {l : List UInt8} (h : s ≠ ByteArray.mk l.toArray) : (s.toList == l) = false := by
  rw [beq_eq_false_iff_ne]
  intro e
  rw [ByteArray.toList_eq] at e
  apply h
  cases s with
  | mk d => cases d with
    | mk l' => have e : l' = l := e
               rw [e]
def A1.fn : A1 → Nat
  | .neg => 98
  | .abs => 99
def A2.fn : A2 → Nat
  | .add => 100
  | .sub => 101
  | .mul => 102
  | .quo => 103
  | .rem => 104
theorem one_at (o : A1) (a : Int) (ha : i64ok a) (w : World) : Calls Try.prog o.fn #[.int .i64 a] w (APost w (o.run a)) := by
  cases o with
  | neg => exact negative_at a ha w
  | abs => exact absolute_at a ha w
theorem two_at (o : A2) (a b : Int) (ha : i64ok a) (hb : i64ok b) (w : World) : Calls Try.prog o.fn #[.int .i64 a, .int .i64 b] w (APost w (o.run a b)) := by
  cases o with
  | add => exact sum_at a b ha hb w
  | sub => exact difference_at a b ha hb w
  | mul => exact product_at a b ha hb w
  | quo => exact quotient_at a b ha hb w
  | rem => exact remainder_at a b ha hb w
theorem run1_ok {o : A1} {a m : Int} (h : o.run a = some m) : i64ok m := by
  cases o with
  | neg => obtain ⟨rfl, h2⟩ := fit_ok h; exact h2
  | abs => obtain ⟨rfl, h2⟩ := fit_ok h; exact h2
theorem run2_ok {o : A2} {a b m : Int} (hb : i64ok b) (h : o.run a b = some m) : i64ok m := by
  cases o with
  | add => obtain ⟨rfl, h2⟩ := fit_ok h; exact h2
  | sub => obtain ⟨rfl, h2⟩ := fit_ok h; exact h2
  | mul => obtain ⟨rfl, h2⟩ := fit_ok h; exact h2
  | quo =>
    have h : (if b = 0 then none else fit (a.tdiv b)) = some m := h
    split at h
    · cases h
    · obtain ⟨rfl, h2⟩ := fit_ok h; exact h2
  | rem =>
    have h : (if b = 0 then none else some (remI a b)) = some m := h
    split at h
    · cases h
    · rename_i h0; cases h; exact (rem_ok hb h0).2.1
def fnV1 : Option A1 → Value
  | none => .nilFunc
  | some o => .func (.func o.fn) #[] #[]
def fnV2 : Option A2 → Value
  | none => .nilFunc
  | some o => .func (.func o.fn) #[] #[]
set_option maxRecDepth 100000 in
set_option maxHeartbeats 1000000 in
theorem ofOne_at (s : ByteArray) (w : World) : Calls Try.prog 93 #[.string s] w fun e w' => e = .returned (fnV1 (a1 s)) ∧ w' = w := by
  by_cases h0 : s = ByteArray.mk #[45]
  · have hv : a1 s = some .neg := by unfold a1; rw [if_pos h0]
    rw [hv]
    clear hv
    subst h0
    go_enter Try.func93, Try.ntmps93
    go_wp2_with fail
    go_ret
    exact ⟨rfl, rfl⟩
  by_cases h1 : s = ByteArray.mk #[97, 98, 115]
  · have hv : a1 s = some .abs := by unfold a1; rw [if_neg h0]; rw [if_pos h1]
    rw [hv]
    clear hv
    subst h1
    clear h0
    go_enter Try.func93, Try.ntmps93
    go_wp2_with fail
    go_ret
    exact ⟨rfl, rfl⟩
  have hv : a1 s = none := by unfold a1; rw [if_neg h0]; rw [if_neg h1]
  rw [hv]
  clear hv
  have d0 : (s.toList == [45]) = false := name_ne h0
  have d1 : (s.toList == [97, 98, 115]) = false := name_ne h1
  clear h0 h1
  go_enter Try.func93, Try.ntmps93
  go_wp2_with fail
  go_ret
  exact ⟨rfl, rfl⟩
set_option maxRecDepth 100000 in
set_option maxHeartbeats 1000000 in
theorem ofTwo_at (s : ByteArray) (w : World) : Calls Try.prog 94 #[.string s] w fun e w' => e = .returned (fnV2 (a2 s)) ∧ w' = w := by
  by_cases h0 : s = ByteArray.mk #[43]
  · have hv : a2 s = some .add := by unfold a2; rw [if_pos h0]
    rw [hv]
    clear hv
    subst h0
    go_enter Try.func94, Try.ntmps94
    go_wp2_with fail
    go_ret
    exact ⟨rfl, rfl⟩
  by_cases h1 : s = ByteArray.mk #[45]
  · have hv : a2 s = some .sub := by unfold a2; rw [if_neg h0]; rw [if_pos h1]
    rw [hv]
    clear hv
    subst h1
    clear h0
    go_enter Try.func94, Try.ntmps94
    go_wp2_with fail
    go_ret
    exact ⟨rfl, rfl⟩
  by_cases h2 : s = ByteArray.mk #[42]
  · have hv : a2 s = some .mul := by unfold a2; rw [if_neg h0]; rw [if_neg h1]; rw [if_pos h2]
    rw [hv]
    clear hv
    subst h2
    clear h0
    clear h1
    go_enter Try.func94, Try.ntmps94
    go_wp2_with fail
    go_ret
    exact ⟨rfl, rfl⟩
  by_cases h3 : s = ByteArray.mk #[47, 47]
  · have hv : a2 s = some .quo := by unfold a2; rw [if_neg h0]; rw [if_neg h1]; rw [if_neg h2]; rw [if_pos h3]
    rw [hv]
    clear hv
    subst h3
    clear h0
    clear h1
    clear h2
    go_enter Try.func94, Try.ntmps94
    go_wp2_with fail
    go_ret
    exact ⟨rfl, rfl⟩
  by_cases h4 : s = ByteArray.mk #[109, 111, 100]
  · have hv : a2 s = some .rem := by unfold a2; rw [if_neg h0]; rw [if_neg h1]; rw [if_neg h2]; rw [if_neg h3]; rw [if_pos h4]
    rw [hv]
    clear hv
    subst h4
    clear h0
    clear h1
    clear h2
    clear h3
    go_enter Try.func94, Try.ntmps94
    go_wp2_with fail
    go_ret
    exact ⟨rfl, rfl⟩
  have hv : a2 s = none := by unfold a2; rw [if_neg h0]; rw [if_neg h1]; rw [if_neg h2]; rw [if_neg h3]; rw [if_neg h4]
  rw [hv]
  clear hv
  have d0 : (s.toList == [43]) = false := name_ne h0
  have d1 : (s.toList == [45]) = false := name_ne h1
  have d2 : (s.toList == [42]) = false := name_ne h2
  have d3 : (s.toList == [47, 47]) = false := name_ne h3
  have d4 : (s.toList == [109, 111, 100]) = false := name_ne h4
  clear h0 h1 h2 h3 h4
  go_enter Try.func94, Try.ntmps94
  go_wp2_with fail
  go_ret
  exact ⟨rfl, rfl⟩
theorem neqNil1 (w : World) : Sem.run Try.prog (binOp BinOp.neq 125 Value.nilFunc Value.nilFunc) w = .ok (.bool false) w := by kernel_rfl
theorem neqFn1 (fn : Fn) (w : World) : Sem.run Try.prog (binOp BinOp.neq 125 (.func fn #[] #[]) Value.nilFunc) w = .ok (.bool true) w := by kernel_rfl
theorem neqNil2 (w : World) : Sem.run Try.prog (binOp BinOp.neq 127 Value.nilFunc Value.nilFunc) w = .ok (.bool false) w := by kernel_rfl
theorem neqFn2 (fn : Fn) (w : World) : Sem.run Try.prog (binOp BinOp.neq 127 (.func fn #[] #[]) Value.nilFunc) w = .ok (.bool true) w := by kernel_rfl
/-! What is left, and what a number is. -/
theorem fin1_left (o : Option Int) (l r : Nat) {m : Int} {l' r' : Nat} (h : fin1 o l r = .ok m l' r') : r' = r := by cases o <;> cases h; rfl
theorem evF_left {g : Nat → Nat → Tm → ER} (hg : ∀ left lv t n l r, g left lv t = .ok n l r → r ≤ left) (left lv : Nat) (s : ByteArray) (ks : List Tm) {n : Int} {l r : Nat} (h : evF g left lv s ks = .ok n l r) : r ≤ left := by
  match ks with
  | [] => cases h
  | [a] =>
    simp only [evF] at h
    cases ha : a1 s with
    | none => rw [ha] at h; cases h
    | some o =>
      rw [ha] at h
      simp only at h
      cases hga : g left lv a with
      | bad e l => rw [hga] at h; cases h
      | ok n' l' r' =>
        rw [hga] at h
        have := fin1_left _ _ _ h
        have := hg _ _ _ _ _ _ hga
        omega
  | [a, b] =>
    simp only [evF] at h
    cases ha : a2 s with
    | none => rw [ha] at h; cases h
    | some o =>
      rw [ha] at h
      simp only at h
      cases hga : g left lv a with
      | bad e l => rw [hga] at h; cases h
      | ok n' l' r' =>
        rw [hga] at h
        simp only [ER.next] at h
        cases hgb : g r' l' b with
        | bad e l => rw [hgb] at h; cases h
        | ok n2 l2 r2 =>
          rw [hgb] at h
          have := fin1_left _ _ _ h
          have := hg _ _ _ _ _ _ hga
          have := hg _ _ _ _ _ _ hgb
          omega
  | a :: b :: c :: ks => cases h
theorem evl_left (N : Nat) (σ : St) : ∀ f left lv T n l r, σ.evl N f left lv T = .ok n l r → r ≤ left
  | 0, left, lv, T, n, l, r, h => by rw [St.evl] at h; cases h
  | f + 1, left, lv, T, n, l, r, h => by
    by_cases h0 : left = 0
    · subst h0; rw [evl_none] at h; cases h
    rw [evl_succ _ _ _ _ _ _ h0] at h
    unfold evX at h
    split at h
    · cases h; omega
    split at h
    · cases h
    split at h
    · have := evF_left (fun left lv t n l r => evl_left N σ f left lv t n l r) _ _ _ _ h; omega
    · cases h

/-- What an evaluation leaves. -/
def EPost (b lb rb : Nat) (r : ER) (w : World) (e : Ending) (w' : World) : Prop := ButN rb w w' ∧ match r with
  | .ok n lv left => e = .returned (.int .i64 n) ∧ RunB w' b lb rb lv left ∧ i64ok n
  | .bad c lv => e = afault c ∧ ∃ left', RunB w' b lb rb lv left'
/-- What is known of the evaluation of terms less deep. -/
def EvalAt (p : Nat → Prop) (n₀ n₁ b lb N : Nat) (V L : Value) (σ : St) (rb f : Nat) : Prop := ∀ (w : World) (v : Value) (T : Tm) (lv left : Nat), EvSt p n₀ n₁ w b lb N V L σ rb → Beside w rb v T → T.size ≤ 2000000 → lv < N → RunB w b lb rb lv left → left ≤ f → left ≤ 2000 →
  Calls Try.prog 68 #[.pointer (some ⟨rb, 0, none⟩), v] w (EPost b lb rb (σ.evl N f left lv T) w)
/-- A kid of a term that lies beside the block. -/
theorem Beside.kid {w : World} {rb : Nat} {k n : Int} {s : ByteArray} {a : Option Addr} {len cap : Nat} {ks : List Tm} (h : Beside w rb (.agg #[.int .i64 k, .int .i64 n, .string s, .slice a len cap]) (.mk k n s ks)) (i : Nat) (t : Tm) (hi : ks[i]? = some t) :
    ∃ (b' o : Nat) (k' n' : Int) (s' : ByteArray) (a' : Option Addr) (l' c' : Nat), a = some ⟨b', o, none⟩ ∧ b' < w.heap.size ∧ b' ≠ rb ∧ w.cell? ⟨b', o + i * 4, none⟩ = some (.int .i64 k') ∧ w.cell? ⟨b', o + i * 4 + 1, none⟩ = some (.int .i64 n') ∧ w.cell? ⟨b', o + i * 4 + 2, none⟩ = some (.string s') ∧ w.cell? ⟨b', o + i * 4 + 3, none⟩ = some (.slice a' l' c') ∧ Beside w rb (.agg #[.int .i64 k', .int .i64 n', .string s', .slice a' l' c']) t ∧ len = ks.length ∧ len ≤ cap ∧ cap ≤ maxLen := by
  obtain ⟨a_, cap_, e, h1, h2, h3, hx⟩ := TmIn.kids h
  injection e with e1 e2 e3
  subst e1 e3
  obtain ⟨hlt, hk⟩ := List.getElem?_eq_some_iff.1 hi
  obtain ⟨b', o, k', n', s', a', l', c', rfl, hb, c0, c1, c2, c3, ht⟩ := hx i hlt
  rw [hk] at ht
  exact ⟨b', o, k', n', s', a', l', c', rfl, hb.1, hb.2, c0, c1, c2, c3, ht, e2, by omega, h2⟩
theorem ButN.cell {rb : Nat} {w w' : World} (h : ButN rb w w') {B o : Nat} {v : Value} (hB : B < w.heap.size) (hne : B ≠ rb) (hc : w.cell? ⟨B, o, none⟩ = some v) : w'.cell? ⟨B, o, none⟩ = some v := (World.cell?_of_block (a := ⟨B, o, none⟩) (h.same B hB hne)).trans hc
theorem ButN.box {rb : Nat} {w w' : World} (h : ButN rb w w') {B : Nat} {o : Obj} (hne : B ≠ rb) (hc : w.heap[B]? = some o) : w'.heap[B]? = some o := (h.same B (Array.getElem?_eq_some_iff.1 hc).1 hne).trans hc

section
variable {p : Nat → Prop} {n₀ n₁ : Nat} {w : World} {b lb N : Nat} {V L : Value} {σ : St} {rb f : Nat}
set_option maxRecDepth 100000 in
set_option maxHeartbeats 4000000 in
theorem result_none (H : EvSt p n₀ n₁ w b lb N V L σ rb) (v : Value) (X : Tm) (hv : Beside w rb v X) (hl1 : X.kids.length ≠ 1) (hl2 : X.kids.length ≠ 2) (lv left : Nat) (hr : RunB w b lb rb lv left) :
    Calls Try.prog 83 #[.pointer (some ⟨rb, 0, none⟩), v] w (EPost b lb rb (.bad 9 lv) w) := by
  obtain ⟨k, n, s, a, len, cap, ks, rfl, e, hlen, -⟩ := hv.form
  have hl1' : ¬ (len : Int) = 1 := by rw [e] at hl1; have hl1 : ks.length ≠ 1 := hl1; omega
  have hl2' : ¬ (len : Int) = 2 := by rw [e] at hl2; have hl2 : ks.length ≠ 2 := hl2; omega
  have d1 : ((len : Int) == 1) = false := by simpa using hl1'
  have d2 : ((len : Int) == 2) = false := by simpa using hl2'
  obtain ⟨w2, hw2⟩ : ∃ w2, w2 = w.alloc (.cells #[.int .i64 k, .int .i64 n, .string s, .slice a len cap] 24) := ⟨_, rfl⟩
  have hb2 : Below w.heap.size w w2 := by rw [hw2]; exact (Below.refl _ w).alloc (Nat.le_refl _) _
  have hx1 : w2.heap[w.heap.size]? = some (.cells #[.int .i64 k, .int .i64 n, .string s, .slice a len cap] 24 (0, 0)) := by rw [hw2]; exact World.alloc_heap_new _ _
  have hN2 : ButN rb w w2 := .of hb2
  have hr2 : RunB w2 b lb rb lv left := (hb2.block rb H.lt).trans hr
  obtain ⟨x0, x1, x2, x3⟩ := tbox_cells hx1
  have hf := afail_at 9 w2
  have HW := Lib.hid (And.intro hw2 (And.intro hN2 hr2))
  clear hw2 hb2 hx1 hN2 hr2 hl1 hl2 hv e H hr hlen
  go_enter Try.func83, Try.ntmps83
  go_upto_region 1 with fail
  rw [← HW.out.1]
  go_wp2_with (go_at_call 81; refine hf.mono ?_; rintro e w1 ⟨he, rfl⟩; unfold afault at he; subst he)
  exact ⟨rfl, HW.out.2.1, rfl, _, HW.out.2.2⟩
set_option maxRecDepth 100000 in
set_option maxHeartbeats 8000000 in
theorem result_one (IH : EvalAt p n₀ n₁ b lb N V L σ rb f) (H : EvSt p n₀ n₁ w b lb N V L σ rb) (v : Value) (k n : Int) (s : ByteArray) (t : Tm) (hv : Beside w rb v (.mk k n s [t])) (hst : t.size ≤ 2000000) (lv left : Nat) (hlv : lv < N) (hr : RunB w b lb rb lv left) (hlf : left ≤ f) (hl2 : left ≤ 2000) :
    Calls Try.prog 83 #[.pointer (some ⟨rb, 0, none⟩), v] w (EPost b lb rb (evF (σ.evl N f) left lv s [t]) w) := by
  obtain ⟨k_, n_, s_, a, len, cap, ks_, rfl, e, hlen, -⟩ := hv.form
  injection e with e1 e2 e3 e4
  subst e1 e2 e3 e4
  obtain rfl : len = 1 := hlen
  try clear hlen
  obtain ⟨w2, hw2⟩ : ∃ w2, w2 = w.alloc (.cells #[.int .i64 k, .int .i64 n, .string s, .slice a 1 cap] 24) := ⟨_, rfl⟩
  have hb2 : Below w.heap.size w w2 := by rw [hw2]; exact (Below.refl _ w).alloc (Nat.le_refl _) _
  have hx1 : w2.heap[w.heap.size]? = some (.cells #[.int .i64 k, .int .i64 n, .string s, .slice a 1 cap] 24 (0, 0)) := by rw [hw2]; exact World.alloc_heap_new _ _
  have hN2 : ButN rb w w2 := .of hb2
  have hr2 : RunB w2 b lb rb lv left := (hb2.block rb H.lt).trans hr
  have H2 := H.later hN2
  have hv2 := hv.later hN2
  have hlt := H.lt
  obtain ⟨x0, x1, x2, x3⟩ := tbox_cells hx1
  have hof := ofOne_at s w2
  have hf := afail_at 9 w2
  have hnt := neqNil1
  have hnf := neqFn1
  clear hb2 hv hr H
  simp only [evF]
  cases ha : a1 s with
  | none =>
    rw [ha] at hof
    have HW := Lib.hid (And.intro hw2 (And.intro hN2 hr2))
    clear hw2 hx1 hN2 hr2 H2 hv2 ha hlt IH
    go_enter Try.func83, Try.ntmps83
    go_upto_region 1 with fail
    rw [← HW.out.1]
    go_wp2_with (first
      | (go_at_call 93; refine hof.mono ?_; rintro e w1 ⟨rfl, rfl⟩; unfold fnV1)
      | (go_at_call 81; refine hf.mono ?_; rintro e w1 ⟨he, rfl⟩; unfold afault at he; subst he))
    exact ⟨rfl, HW.out.2.1, rfl, _, HW.out.2.2⟩
  | some o =>
    rw [ha] at hof
    obtain ⟨b', o', k', n', s', a', l', c', rfl, hbl, hbn, c0, c1, c2, c3, ht, -, hcc, hcm⟩ := hv2.kid 0 t rfl
    simp only [Nat.zero_mul, Nat.add_zero] at c0 c1 c2 c3
    have hcall := IH w2 _ t lv left H2 ht hst hlv hr2 hlf hl2
    simp only
    have HW := Lib.hid (And.intro hw2 (And.intro hN2 hr2))
    clear hw2 hx1 hN2 hr2 H2 hv2 ha hlt IH ht hst hf hbl hbn hcm
    cases hE : σ.evl N f left lv t with
    | bad c l =>
      rw [hE] at hcall
      clear hE
      go_enter Try.func83, Try.ntmps83
      go_upto_region 1 with fail
      rw [← HW.out.1]
      go_wp2_with (first
        | (go_at_call 93; refine hof.mono ?_; rintro e w1 ⟨rfl, rfl⟩; unfold fnV1)
        | (go_at_call 68; refine hcall.mono ?_; rintro e w3 ⟨hN3, he, hr3⟩; unfold afault at he; subst he))
      exact ⟨rfl, HW.out.2.1.trans hN3, rfl, hr3⟩
    | ok n1 l1 r1 =>
      rw [hE] at hcall
      clear hE
      simp only [ER.next]
      cases ho : o.run n1 with
      | none =>
        have hop : ∀ w3, i64ok n1 → Calls Try.prog o.fn #[.int .i64 n1] w3 (fun e w' => e = afault 10 ∧ w' = w3) := fun w3 h1 => by have h := one_at o n1 h1 w3; rw [ho] at h; exact h
        cases o
        all_goals
          simp only [fnV1, A1.fn] at hof hop
          go_enter Try.func83, Try.ntmps83
          go_upto_region 1 with fail
          rw [← HW.out.1]
          go_wp2_with (first
            | (go_at_call 93; refine hof.mono ?_; rintro e w1 ⟨rfl, rfl⟩)
            | (go_at_call 68; refine hcall.mono ?_; rintro e w3 ⟨hN3, rfl, hr3, hn3⟩)
            | (refine (hop w3 hn3).mono ?_; rintro e w4 ⟨he, rfl⟩; unfold afault at he; subst he))
          exact ⟨rfl, HW.out.2.1.trans hN3, rfl, _, hr3⟩
      | some m =>
        have hop : ∀ w3, i64ok n1 → Calls Try.prog o.fn #[.int .i64 n1] w3 (fun e w' => e = .returned (.int .i64 m) ∧ w' = w3) := fun w3 h1 => by have h := one_at o n1 h1 w3; rw [ho] at h; exact h
        cases o
        all_goals
          simp only [fnV1, A1.fn] at hof hop
          go_enter Try.func83, Try.ntmps83
          go_upto_region 1 with fail
          rw [← HW.out.1]
          go_wp2_with (first
            | (go_at_call 93; refine hof.mono ?_; rintro e w1 ⟨rfl, rfl⟩)
            | (go_at_call 68; refine hcall.mono ?_; rintro e w3 ⟨hN3, rfl, hr3, hn3⟩)
            | (refine (hop w3 hn3).mono ?_; rintro e w4 ⟨rfl, rfl⟩))
          go_ret
          exact ⟨HW.out.2.1.trans hN3, rfl, hr3, run1_ok ho⟩
set_option maxRecDepth 100000 in
set_option maxHeartbeats 8000000 in
theorem result_two (IH : EvalAt p n₀ n₁ b lb N V L σ rb f) (H : EvSt p n₀ n₁ w b lb N V L σ rb) (v : Value) (k n : Int) (s : ByteArray) (t u : Tm) (hv : Beside w rb v (.mk k n s [t, u])) (hst : t.size ≤ 2000000) (hsu : u.size ≤ 2000000) (lv left : Nat) (hlv : lv < N) (hr : RunB w b lb rb lv left) (hlf : left ≤ f) (hl2 : left ≤ 2000) :
    Calls Try.prog 83 #[.pointer (some ⟨rb, 0, none⟩), v] w (EPost b lb rb (evF (σ.evl N f) left lv s [t, u]) w) := by
  obtain ⟨k_, n_, s_, a, len, cap, ks_, rfl, e, hlen, -⟩ := hv.form
  injection e with e1 e2 e3 e4
  subst e1 e2 e3 e4
  obtain rfl : len = 2 := hlen
  try clear hlen
  obtain ⟨w2, hw2⟩ : ∃ w2, w2 = w.alloc (.cells #[.int .i64 k, .int .i64 n, .string s, .slice a 2 cap] 24) := ⟨_, rfl⟩
  have hb2 : Below w.heap.size w w2 := by rw [hw2]; exact (Below.refl _ w).alloc (Nat.le_refl _) _
  have hx1 : w2.heap[w.heap.size]? = some (.cells #[.int .i64 k, .int .i64 n, .string s, .slice a 2 cap] 24 (0, 0)) := by rw [hw2]; exact World.alloc_heap_new _ _
  have hN2 : ButN rb w w2 := .of hb2
  have hr2 : RunB w2 b lb rb lv left := (hb2.block rb H.lt).trans hr
  have H2 := H.later hN2
  have hv2 := hv.later hN2
  have hlt := H.lt
  obtain ⟨x0, x1, x2, x3⟩ := tbox_cells hx1
  have hof := ofTwo_at s w2
  have hf := afail_at 9 w2
  have hnt := neqNil2
  have hnf := neqFn2
  clear hb2 hv hr H
  simp only [evF]
  cases ha : a2 s with
  | none =>
    rw [ha] at hof
    have HW := Lib.hid (And.intro hw2 (And.intro hN2 hr2))
    clear hw2 hx1 hN2 hr2 H2 hv2 ha hlt IH
    go_enter Try.func83, Try.ntmps83
    go_upto_region 1 with fail
    rw [← HW.out.1]
    go_wp2_with (first
      | (go_at_call 94; refine hof.mono ?_; rintro e w1 ⟨rfl, rfl⟩; unfold fnV2)
      | (go_at_call 81; refine hf.mono ?_; rintro e w1 ⟨he, rfl⟩; unfold afault at he; subst he))
    exact ⟨rfl, HW.out.2.1, rfl, _, HW.out.2.2⟩
  | some o =>
    rw [ha] at hof
    obtain ⟨b', o', k', n', s', a', l', c', rfl, hbl, hbn, c0, c1, c2, c3, ht, -, hcc, hcm⟩ := hv2.kid 0 t rfl
    obtain ⟨b'', o'', k'', n'', s'', a'', l'', c'', e, -, -, d0, d1, d2, d3, hu, -, -, -⟩ := hv2.kid 1 u rfl
    simp only [Option.some.injEq, Addr.mk.injEq, and_true] at e
    obtain ⟨rfl, rfl⟩ := e
    simp only [Nat.zero_mul, Nat.add_zero, Nat.one_mul] at c0 c1 c2 c3 d0 d1 d2 d3
    have hcall := IH w2 _ t lv left H2 ht hst hlv hr2 hlf hl2
    simp only
    have hbx : w.heap.size ≠ rb := by omega
    have HW := Lib.hid (And.intro hw2 (And.intro hN2 (And.intro hr2 hx1)))
    have hcap : (1 : Int) < (cap : Int) ∨ True := .inr trivial
    cases hE : σ.evl N f left lv t with
    | bad c l =>
      rw [hE] at hcall
      clear hE hw2 hx1 hN2 hr2 H2 hv2 ha hlt IH ht hst hf hbl hbn hcm hu hsu hbx hcap
      go_enter Try.func83, Try.ntmps83
      go_upto_region 1 with fail
      rw [← HW.out.1]
      go_wp2_with (first
        | (go_at_call 94; refine hof.mono ?_; rintro e w1 ⟨rfl, rfl⟩; unfold fnV2)
        | (go_at_call 68; refine hcall.mono ?_; rintro e w3 ⟨hN3, he, hr3⟩; unfold afault at he; subst he))
      exact ⟨rfl, HW.out.2.1.trans hN3, rfl, hr3⟩
    | ok n1 l1 r1 =>
      have hl1 := evl_lt H2.ch.pos f left lv t hlv (σ := σ)
      have hr1 := evl_left N σ f left lv t _ _ _ hE
      rw [hE] at hcall hl1
      have hl1 : l1 < N := hl1
      clear hE
      simp only [ER.next]
      -- what is so behind the first of them
      have hcall2 : Calls Try.prog 68 #[.pointer (some ⟨rb, 0, none⟩), .agg #[.int .i64 k', .int .i64 n', .string s', .slice a' l' c']] w2 fun e w3 => e = .returned (.int .i64 n1) ∧ w3.cell? ⟨w.heap.size, 3, none⟩ = some (.slice (some ⟨b', o', none⟩) 2 cap) ∧ w3.cell? ⟨b', o' + 4, none⟩ = some (.int .i64 k'') ∧ w3.cell? ⟨b', o' + 4 + 1, none⟩ = some (.int .i64 n'') ∧ w3.cell? ⟨b', o' + 4 + 2, none⟩ = some (.string s'') ∧ w3.cell? ⟨b', o' + 4 + 3, none⟩ = some (.slice a'' l'' c'') ∧
          Hid (ButN rb w w3 ∧ i64ok n1 ∧ Calls Try.prog 68 #[.pointer (some ⟨rb, 0, none⟩), .agg #[.int .i64 k'', .int .i64 n'', .string s'', .slice a'' l'' c'']] w3 (EPost b lb rb (σ.evl N f r1 l1 u) w3)) := by
        refine hcall.mono ?_
        rintro e w3 ⟨hN3, rfl, hr3, hn3⟩
        have y := hN3.box hbx hx1
        obtain ⟨y0, y1, y2, y3⟩ := tbox_cells y
        exact ⟨rfl, y3, hN3.cell hbl hbn d0, hN3.cell hbl hbn d1, hN3.cell hbl hbn d2, hN3.cell hbl hbn d3, HW.out.2.1.trans hN3, hn3, IH w3 _ u l1 r1 (H2.later hN3) (hu.later hN3) hsu hl1 hr3 (by omega) (by omega)⟩
      clear hw2 hx1 hN2 hr2 H2 hv2 ha hlt IH ht hst hf hbl hbn hcm hu hsu hbx hcap hcall d0 d1 d2 d3
      cases hF : σ.evl N f r1 l1 u with
      | bad c l =>
        rw [hF] at hcall2
        clear hF
        go_enter Try.func83, Try.ntmps83
        go_upto_region 1 with fail
        rw [← HW.out.1]
        go_wp2_with (first
          | (go_at_call 94; refine hof.mono ?_; rintro e w1 ⟨rfl, rfl⟩; unfold fnV2)
          | (go_at_call 68; (have hq := HP; clear hq); refine HP.out.2.2.mono ?_; rintro e w4 ⟨hN4, he, hr4⟩; unfold afault at he; subst he)
          | (go_at_call 68; refine hcall2.mono ?_; rintro e w3 ⟨rfl, y3, d0, d1, d2, d3, HP⟩))
        exact ⟨rfl, HP.out.1.trans hN4, rfl, hr4⟩
      | ok n2 l2 r2 =>
        rw [hF] at hcall2
        clear hF
        simp only
        cases ho : o.run n1 n2 with
        | none =>
          have hop : ∀ w3, i64ok n1 → i64ok n2 → Calls Try.prog o.fn #[.int .i64 n1, .int .i64 n2] w3 (fun e w' => e = afault 10 ∧ w' = w3) := fun w3 h1 h2 => by have h := two_at o n1 n2 h1 h2 w3; rw [ho] at h; exact h
          cases o
          all_goals
            simp only [fnV2, A2.fn] at hof hop
            go_enter Try.func83, Try.ntmps83
            go_upto_region 1 with fail
            rw [← HW.out.1]
            go_wp2_with (first
              | (go_at_call 94; refine hof.mono ?_; rintro e w1 ⟨rfl, rfl⟩)
              | (go_at_call 68; (have hq := HP; clear hq); refine HP.out.2.2.mono ?_; rintro e w4 ⟨hN4, rfl, hr4, hn4⟩)
              | (go_at_call 68; refine hcall2.mono ?_; rintro e w3 ⟨rfl, y3, d0, d1, d2, d3, HP⟩)
              | (refine (hop w4 HP.out.2.1 hn4).mono ?_; rintro e w5 ⟨he, rfl⟩; unfold afault at he; subst he))
            exact ⟨rfl, HP.out.1.trans hN4, rfl, _, hr4⟩
        | some m =>
          have hop : ∀ w3, i64ok n1 → i64ok n2 → Calls Try.prog o.fn #[.int .i64 n1, .int .i64 n2] w3 (fun e w' => e = .returned (.int .i64 m) ∧ w' = w3) := fun w3 h1 h2 => by have h := two_at o n1 n2 h1 h2 w3; rw [ho] at h; exact h
          cases o
          all_goals
            simp only [fnV2, A2.fn] at hof hop
            go_enter Try.func83, Try.ntmps83
            go_upto_region 1 with fail
            rw [← HW.out.1]
            go_wp2_with (first
              | (go_at_call 94; refine hof.mono ?_; rintro e w1 ⟨rfl, rfl⟩)
              | (go_at_call 68; (have hq := HP; clear hq); refine HP.out.2.2.mono ?_; rintro e w4 ⟨hN4, rfl, hr4, hn4⟩)
              | (go_at_call 68; refine hcall2.mono ?_; rintro e w3 ⟨rfl, y3, d0, d1, d2, d3, HP⟩)
              | (refine (hop w4 HP.out.2.1 hn4).mono ?_; rintro e w5 ⟨rfl, rfl⟩))
            go_ret
            exact ⟨HP.out.1.trans hN4, rfl, hr4, run2_ok hn4 ho⟩
end
end Go.Proofs.Ytfjnajngelemkaa
