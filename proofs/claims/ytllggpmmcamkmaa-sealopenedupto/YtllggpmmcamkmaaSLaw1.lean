/-
  Terms that may be: what they are erased and opened.
-/
import Derived.Test.YtllggpmmcamkmaaSLaw0
import Derived.Test.YtllggpmmcamkmaaLawErases
namespace Go.Proofs.Ytllggpmmcamkmaa
open Go.RowKit Go.Shelf
open Classical
set_option linter.unusedVariables false

theorem valid_kid {L k n : Int} {s : ByteArray} {ks : List Tm} (h : (Tm.mk k n s ks).valid L = true) {t : Tm} (ht : t ∈ ks) : t.valid L = true := by
  rw [valid_mk] at h
  simp only [Bool.and_eq_true, List.all_eq_true] at h
  exact h.2 t ht
theorem valid_wraps {L n : Int} {s : ByteArray} {ks : List Tm} (h : (Tm.mk 4 n s ks).valid L = true) : ks.length = 1 := by
  rw [valid_mk, Tm.formed_eq L 4 n s ks ks.length rfl] at h
  simp only [Bool.and_eq_true] at h
  have h1 := h.1
  rw [if_neg (by decide), if_neg (by decide), if_neg (by decide), if_pos trivial] at h1
  simp only [Bool.and_eq_true, decide_eq_true_eq] at h1
  exact h1.1.2
theorem valid_er_jC {N : Nat} {L : Int} (T : Tm) : T.valid L = true → T.er.jC N 0 = 0 := by
  induction T using Tm.ind with
  | h k n s ks ih =>
    intro h
    by_cases hw : k = 4 ∧ ks.length = 1
    · obtain ⟨t, rfl, rfl⟩ := wraps_form (n := n) (s := s) hw
      rw [Tm.er_wraps]
      exact ih t (by simp) (valid_kid h (by simp))
    · have hk : k ≠ 4 := fun e => hw ⟨e, by subst e; exact valid_wraps h⟩
      rw [Tm.er_else hw, jC_mk, if_neg hk]
      have := jns_le (N := N) (M := 0) (ks := ks.map Tm.er) (fun t ht => by
        obtain ⟨u, hu, rfl⟩ := List.mem_map.1 ht
        rw [ih u hu (valid_kid h hu)]
        exact Nat.le_refl _)
      omega
theorem valid_strip {N : Nat} {L : Int} (T : Tm) : T.valid L = true → ∀ a, (T.strip Nat.max (lvC N) a).1.valid L = true := by
  induction T using Tm.ind with
  | h k n s ks ih =>
    intro h a
    by_cases hw : k = 4 ∧ ks.length = 1
    · obtain ⟨t, rfl, rfl⟩ := wraps_form (n := n) (s := s) hw
      rw [Tm.strip_wraps]
      exact ih t (by simp) (valid_kid h (by simp)) _
    · rw [Tm.strip_else hw]; exact h
theorem valid_kind {L : Int} {T : Tm} (h : T.valid L = true) (hw : T.wrapsT = false) : T.kind ≠ 4 := by
  obtain ⟨k, n, s, ks⟩ := T
  have hw' : ¬ (k = 4 ∧ ks.length = 1) := of_decide_eq_false hw
  intro e
  have e' : k = 4 := e
  subst e'
  exact hw' ⟨rfl, valid_wraps h⟩
theorem open_kind {N : Nat} {L : Int} {T : Tm} (h : T.valid L = true) : (T.openC N).1.kind ≠ 4 := by
  cases hw : T.wrapsT with
  | true =>
    rw [openC_pos hw]
    show (T.strip Nat.max (lvC N) 0).1.kind ≠ 4
    exact valid_kind (valid_strip T h 0) (strip_end T 0)
  | false => rw [openC_neg hw]; exact valid_kind h hw
theorem has_kind {w : World} {k n : Int} {s : ByteArray} {v : Value} {T : Tm} (h : Has w (.agg #[.int .i64 k, .int .i64 n, .string s, v]) T) : T.kind = k ∧ T.name = s := by
  obtain ⟨k', n', s', a', l', c', ks', e, rfl, -⟩ := h.form
  simp only [Value.agg.injEq, Array.mk.injEq, List.cons.injEq, Value.int.injEq, Value.string.injEq, true_and, and_true] at e
  exact ⟨e.1.symm, e.2.2.1.symm⟩
theorem has_len {w : World} {k n : Int} {s : ByteArray} {a : Option Addr} {l c : Nat} {T : Tm} (h : Has w (.agg #[.int .i64 k, .int .i64 n, .string s, .slice a l c]) T) : T.kids.length = l := by
  obtain ⟨k', n', s', a', l', c', ks', e, rfl, hl, -⟩ := h.form
  simp only [Value.agg.injEq, Array.mk.injEq, List.cons.injEq, Value.int.injEq, Value.string.injEq, Value.slice.injEq, true_and, and_true] at e
  obtain ⟨_, _, _, _, e5, _⟩ := e
  rw [e5, hl]
  rfl

end Go.Proofs.Ytllggpmmcamkmaa
