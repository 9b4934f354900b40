/-
  What Bind leaves, whatever it is given; deeds that came in.
-/
import Derived.Test.YtnaopkkdidngoaaStoP
import Derived.Test.YtnaopkkdidngoaaStoO
namespace Go.Proofs.Ytnaopkkdidngoaa
open Go.RowKit Go.Shelf
set_option linter.unusedVariables false
set_option linter.unusedSimpArgs false

/-- What a state may become by a Bind. -/
def Bound1 (σ : St) (v : Int) (T : Tm) (σ' : St) : Prop := σ' = σ ∨ ∃ n : Nat, v = (n : Int) ∧ σ.vs[n]? = some none ∧ ¬ Met σ (n : Int) T ∧ σ' = σ.bind n T

open Classical in
theorem bind_any {n₀ : Nat} {w : World} {b : Nat} {V L : Value} {σ : St} (h : StAt (Oth w b V L) n₀ w b V L σ) (hn₀ : n₀ ≤ w.heap.size) (v : Int) (t : Value) (T : Tm) (ht : Has w t T) (hs : T.size ≤ 2000000) :
    Calls Try.prog 12 #[.pointer (some ⟨b, 0, none⟩), .int .i64 v, t] w fun e w' => ∃ x : Int, e = .returned (.int .i64 x) ∧ ∃ L' σ', StAt (Oth w' b V L') n₀ w' b V L' σ' ∧ Mut w b V L w' V L' ∧ Bound1 σ v T σ' := by
  by_cases hb : σ.bindE v T = 0
  · unfold St.bindE at hb
    by_cases h1 : ¬ (0 ≤ v ∧ v < (σ.vs.length : Int))
    · rw [if_pos h1] at hb; cases hb
    rw [if_neg h1] at hb
    by_cases h2 : ∃ U, σ.look v = some U
    · rw [if_pos h2] at hb; cases hb
    rw [if_neg h2] at hb
    by_cases h3 : Met σ v T
    · rw [if_pos h3] at hb; cases hb
    obtain ⟨hv0, hv1⟩ : 0 ≤ v ∧ v < (σ.vs.length : Int) := Classical.not_not.1 h1
    obtain ⟨n, rfl⟩ : ∃ n : Nat, v = (n : Int) := ⟨v.toNat, by omega⟩
    have hvs : σ.vs[n]? = some none := by
      have hlt : n < σ.vs.length := by omega
      rw [St.look_nat] at h2
      rw [List.getElem?_eq_getElem hlt] at h2 ⊢
      cases hx : σ.vs[n] with
      | none => rfl
      | some U => exact absurd ⟨U, by rw [hx]; rfl⟩ h2
    refine (bind_at10 h hn₀ n t T ht hs hvs h3).mono ?_
    rintro e w' ⟨rfl, L', hS, hM⟩
    exact ⟨0, rfl, L', _, hS, hM, .inr ⟨n, rfl, hvs, h3, rfl⟩⟩
  · refine (bind_bad h v t T ht (by omega) hb).mono ?_
    rintro e w' ⟨rfl, hB⟩
    exact ⟨_, rfl, L, σ, h.step hB, Mut.of_below hB, .inl rfl⟩

theorem Bound1.len {σ σ' : St} {v : Int} {T : Tm} (h : Bound1 σ v T σ') : σ'.vs.length = σ.vs.length := by
  rcases h with rfl | ⟨n, -, -, -, rfl⟩
  · rfl
  · show (σ.vs.set n (some T)).length = _
    rw [List.length_set]
/-- What was bound since can be undone. -/
def Since (σ σ' : St) : Prop := σ.tr.length ≤ σ'.tr.length ∧ σ'.undo σ.tr.length = σ
theorem Since.refl (σ : St) : Since σ σ := ⟨Nat.le_refl _, by
  unfold St.undo
  rw [List.drop_eq_nil_of_le (Nat.le_refl _), List.take_of_length_le (Nat.le_refl _)]; rfl⟩
theorem Since.bind {σ σ' σ'' : St} (h : Since σ σ') {v : Int} {T : Tm} (hb : Bound1 σ' v T σ'') : Since σ σ'' := by
  rcases hb with rfl | ⟨n, -, hn, -, rfl⟩
  · exact h
  · refine ⟨by show _ ≤ (σ'.tr ++ [n]).length; rw [List.length_append]; have := h.1; omega, ?_⟩
    have h2 := h.2
    unfold St.undo St.bind at *
    simp only
    rw [List.drop_append_of_le_length h.1, List.take_append_of_le_length h.1, frees_snoc]
    have e : (frees (σ'.vs.set n (some T)) (σ'.tr.drop σ.tr.length)).set n none = frees σ'.vs (σ'.tr.drop σ.tr.length) := by
      refine List.ext_getElem? fun x => ?_
      rw [List.getElem?_set, frees_get, frees_get, frees_len, List.length_set, List.getElem?_set]
      by_cases e : n = x
      · subst e
        have hlt := (List.getElem?_eq_some_iff.1 hn).1
        rw [if_pos rfl, if_pos hlt]
        split
        · rfl
        · rw [hn]
      · rw [if_neg e, if_neg e]
    rw [e]
    exact h2

theorem fin_size {σ : St} (h : σ.Ok) (T : Tm) : (σ.fin T).size ≤ max T.size 2000000 := by
  obtain ⟨n, hn⟩ := h.ranked.fin T
  generalize σ.fin T = X at hn
  suffices hh : ∀ n T X, EndsN σ n T X → X.size ≤ max T.size 2000000 by exact hh n T X hn
  intro n T X hn
  induction hn with
  | stop _ => omega
  | step h1 _ ih =>
    obtain ⟨_, x, _, hx⟩ := St.val_some h1
    have := h.small _ (List.mem_of_getElem? hx) _ rfl
    omega

/-- Deeds that came in: a number, and a term. -/
def DeedsAt (n₀ : Nat) (w : World) (a : Option Addr) (len : Nat) : Prop := ∀ i, i < len → ∃ (b o : Nat) (N k n : Int) (s : ByteArray) (a' : Option Addr) (l' c' : Nat) (T : Tm), a = some ⟨b, o, none⟩ ∧ b < n₀ ∧ i64ok N ∧ w.cell? ⟨b, o + i * 6 + 1, none⟩ = some (.int .i64 N) ∧
  w.cell? ⟨b, o + i * 6 + 2, none⟩ = some (.int .i64 k) ∧ w.cell? ⟨b, o + i * 6 + 3, none⟩ = some (.int .i64 n) ∧ w.cell? ⟨b, o + i * 6 + 4, none⟩ = some (.string s) ∧ w.cell? ⟨b, o + i * 6 + 5, none⟩ = some (.slice a' l' c') ∧ IsTm n₀ w (.agg #[.int .i64 k, .int .i64 n, .string s, .slice a' l' c']) T ∧ T.size ≤ 1048576
end Go.Proofs.Ytnaopkkdidngoaa
