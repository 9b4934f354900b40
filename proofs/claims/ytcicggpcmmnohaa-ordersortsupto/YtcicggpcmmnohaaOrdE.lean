/-
  Terms that may be: they are alike, erased, just if they are the same, erased.
-/
import Derived.Test.YtcicggpcmmnohaaOrdG
import Derived.Test.YtcicggpcmmnohaaChecksM
namespace Go.Proofs.Ytcicggpcmmnohaa
open Go.RowKit Go.Shelf
open Classical
set_option linter.unusedVariables false

inductive Pl : Tm → Prop
  | leaf (k n : Int) (h : k = 1 ∨ k = 2) : Pl (.mk k n (ByteArray.mk #[]) [])
  | fn (s : ByteArray) (ks : List Tm) (h : ∀ t ∈ ks, Pl t) : Pl (.mk 3 0 s ks)
theorem no_name {s : ByteArray} (h : s.toList = []) : s = ByteArray.mk #[] := by
  rw [ByteArray.toList_eq] at h
  exact ba_eq (by rw [h])
theorem valid_pl {L : Int} (T : Tm) : T.valid L = true → Pl T.er := by
  induction T using Tm.ind with
  | h k n s ks ih =>
    intro h
    have h' := h
    rw [valid_mk, Tm.formed_eq L k n s ks ks.length rfl] at h
    simp only [Bool.and_eq_true, List.all_eq_true] at h
    obtain ⟨h1, h2⟩ := h
    by_cases k1 : k = 1
    · rw [if_pos k1] at h1
      simp only [Bool.and_eq_true, decide_eq_true_eq] at h1
      obtain ⟨⟨⟨_, _⟩, e1⟩, e2⟩ := h1
      have e3 := List.eq_nil_of_length_eq_zero e2
      subst e3
      rw [Tm.er_else (fun e => by omega), no_name e1]
      exact .leaf k n (.inl k1)
    · rw [if_neg k1] at h1
      by_cases k2 : k = 2
      · rw [if_pos k2] at h1
        simp only [Bool.and_eq_true, decide_eq_true_eq] at h1
        obtain ⟨e1, e2⟩ := h1
        have e3 := List.eq_nil_of_length_eq_zero e2
        subst e3
        rw [Tm.er_else (fun e => by omega), no_name e1]
        exact .leaf k n (.inr k2)
      · rw [if_neg k2] at h1
        by_cases k3 : k = 3
        · rw [if_pos k3] at h1
          simp only [Bool.and_eq_true, decide_eq_true_eq] at h1
          obtain ⟨⟨e1, _⟩, _⟩ := h1
          subst e1 k3
          rw [Tm.er_else (fun e => by omega)]
          refine .fn s _ fun t ht => ?_
          obtain ⟨u, hu, rfl⟩ := List.mem_map.1 ht
          exact ih u hu (h2 u hu)
        · rw [if_neg k3] at h1
          by_cases k4 : k = 4
          · rw [if_pos k4] at h1
            simp only [Bool.and_eq_true, decide_eq_true_eq] at h1
            obtain ⟨⟨⟨⟨_, _⟩, _⟩, e1⟩, _⟩ := h1
            obtain ⟨t, rfl, rfl⟩ := wraps_form (n := n) (s := s) ⟨k4, e1⟩
            rw [Tm.er_wraps]
            exact ih t (by simp) (h2 t (by simp))
          · rw [if_neg k4] at h1; cases h1
theorem pl_kids {ks : List Tm} (ih : ∀ t ∈ ks, ∀ U, Pl U → t.cmp U = 0 → t = U) : ∀ ks' : List Tm, (∀ u ∈ ks', Pl u) → ks.length = ks'.length → Tm.cmps ks ks' = 0 → ks = ks' := by
  induction ks with
  | nil => intro ks' _ hl _; cases ks' with
    | nil => rfl
    | cons _ _ => simp at hl
  | cons t ts iht =>
    intro ks' hp hl h
    cases ks' with
    | nil => simp at hl
    | cons u us =>
      rw [Tm.cmps_cons, lx_zero] at h
      rw [ih t (by simp) u (hp u (by simp)) h.1, iht (fun x hx => ih x (by simp [hx])) us (fun x hx => hp x (by simp [hx])) (by simpa using hl) h.2]
theorem pl_eq {T : Tm} (h : Pl T) : ∀ U, Pl U → T.cmp U = 0 → T = U := by
  induction h with
  | leaf k n hk =>
    intro U hU h
    cases hU with
    | leaf k' n' hk' =>
      rw [Tm.cmp_mk, lx_zero] at h
      obtain ⟨e, _, e2⟩ := own_zero h.1
      rw [e, e2 hk]
    | fn s ks h' =>
      rw [Tm.cmp_mk, lx_zero] at h
      obtain ⟨e, _, _⟩ := own_zero h.1
      omega
  | fn s ks hk ih =>
    intro U hU h
    cases hU with
    | leaf k' n' hk' =>
      rw [Tm.cmp_mk, lx_zero] at h
      obtain ⟨e, _, _⟩ := own_zero h.1
      omega
    | fn s' ks' h' =>
      rw [Tm.cmp_mk, lx_zero] at h
      obtain ⟨_, e1, _⟩ := own_zero h.1
      obtain ⟨l, es, _⟩ := e1 (by omega)
      have h2 := h.2
      rw [if_neg (by omega)] at h2
      rw [es, pl_kids ih ks' h' l h2]
/-- (P9.3) -/
theorem alike_same {L M : Int} {T U : Tm} (hT : T.valid L = true) (hU : U.valid M = true) : decide (T.er = U.er) = (T.er.cmp U.er == 0) := by
  rw [Bool.eq_iff_iff, decide_eq_true_eq, beq_iff_eq]
  exact ⟨fun h => by rw [h]; exact Tm.cmp_self _, fun h => pl_eq (valid_pl T hT) _ (valid_pl U hU) h⟩
end Go.Proofs.Ytcicggpcmmnohaa
