/-
  What is full: no variable of it is bound; it is full as it is; its variables are those that are met.
-/
import Derived.Test.YtlnggaepmclbkaaZStoQn4
import Derived.Test.YtlnggaepmclbkaaZVarsn2
import Derived.Test.YtlnggaepmclbkaaZMaken4
namespace Go.Proofs.Ytlnggaepmclbkaa
open Go.RowKit Go.Shelf
set_option linter.unusedVariables false
set_option linter.unusedSimpArgs false

/-- No variable of it is bound. -/
inductive Clear (σ : St) : Tm → Prop
  | mk {k n : Int} {s : ByteArray} {ks : List Tm} (h : σ.val (.mk k n s ks) = none) (hk : ∀ t ∈ ks, Clear σ t) : Clear σ (.mk k n s ks)
theorem fillL_each {g : Nat → Tm → FR} (left : Nat) (ks : List Tm) : ∀ us l, fillL g left ks = .ok us l → us.length = ks.length ∧ ∀ (i : Nat) (t : Tm), ks[i]? = some t → ∃ u l1 l2, us[i]? = some u ∧ g l1 t = .ok u l2 := by
  induction ks using snoc_ind with
  | h0 => intro us l h; cases h; exact ⟨rfl, fun i t h => by simp at h⟩
  | h1 ks t ih =>
    intro us l h
    rw [fillL_snoc] at h
    cases hk : fillL g left ks with
    | bad e => rw [hk] at h; cases h
    | ok us' l' =>
      rw [hk] at h
      cases ht : g l' t with
      | bad e => simp only [ht, FR.next] at h; cases h
      | ok u l2 =>
        simp only [ht, FR.next] at h
        cases h
        obtain ⟨h1, h2⟩ := ih us' l' hk
        refine ⟨by rw [List.length_append, List.length_append, h1]; rfl, fun i t' hi => ?_⟩
        by_cases hl : i < ks.length
        · rw [List.getElem?_append_left hl] at hi
          obtain ⟨u', l3, l4, e1, e2⟩ := h2 i t' hi
          exact ⟨u', l3, l4, by rw [List.getElem?_append_left (by omega)]; exact e1, e2⟩
        · rw [List.getElem?_append_right (by omega)] at hi
          obtain ⟨j, hj⟩ : ∃ j, j = i - ks.length := ⟨_, rfl⟩
          rw [← hj] at hi
          cases j with
          | zero =>
            simp at hi
            subst hi
            exact ⟨u, _, _, by rw [List.getElem?_append_right (by omega), h1, ← hj]; rfl, ht⟩
          | succ j => simp at hi
theorem fill_ok {σ : St} {f left : Nat} {T a : Tm} {l : Nat} (h : σ.fill (f + 1) left T = .ok a l) : ∃ us, fillL (σ.fill f) (left - 1) (σ.fin T).kids = .ok us l ∧ a = .mk (σ.fin T).kind (σ.fin T).num (σ.fin T).name us := by
  rw [St.fill] at h
  split at h
  · cases h
  · split at h
    · cases h
    · rename_i us l' hk
      cases h
      exact ⟨us, hk, rfl⟩
theorem val_mk (σ : St) (T : Tm) (us : List Tm) : σ.val (.mk T.kind T.num T.name us) = σ.val T := rfl
theorem fill_clear {σ : St} (hr : σ.Ranked) : ∀ f left T a l, σ.fill f left T = .ok a l → Clear σ a
  | 0, left, T, a, l, h => by rw [St.fill] at h; cases h
  | f + 1, left, T, a, l, h => by
    obtain ⟨us, hus, rfl⟩ := fill_ok h
    obtain ⟨hlen, hi⟩ := fillL_each _ _ _ _ hus
    refine .mk (by rw [val_mk]; exact hr.val_fin T) fun u hu => ?_
    obtain ⟨i, hiu⟩ := List.getElem?_of_mem hu
    have hlt : i < (σ.fin T).kids.length := by rw [← hlen]; exact (List.getElem?_eq_some_iff.1 hiu).1
    obtain ⟨u', l1, l2, e1, e2⟩ := hi i _ (List.getElem?_eq_getElem hlt)
    rw [hiu] at e1
    cases e1
    exact fill_clear hr f l1 _ u l2 e2
theorem deeps_le_of {ks : List Tm} {f : Nat} (h : ∀ t ∈ ks, t.deep ≤ f) : Tm.deeps ks ≤ f := by
  induction ks with
  | nil => rw [Tm.deeps_nil]; omega
  | cons t ts ih => rw [Tm.deeps_cons]; have := h t (by simp); have := ih fun u hu => h u (by simp [hu]); omega
theorem deep_le_deeps10 {t : Tm} {ks : List Tm} (h : t ∈ ks) : t.deep ≤ Tm.deeps ks := by
  induction ks with
  | nil => cases h
  | cons u us ih =>
    rw [Tm.deeps_cons]
    rcases List.mem_cons.1 h with rfl | h
    · omega
    · have := ih h; omega
theorem fill_deep {σ : St} : ∀ f left T a l, σ.fill f left T = .ok a l → a.deep ≤ f
  | 0, left, T, a, l, h => by rw [St.fill] at h; cases h
  | f + 1, left, T, a, l, h => by
    obtain ⟨us, hus, rfl⟩ := fill_ok h
    obtain ⟨hlen, hi⟩ := fillL_each _ _ _ _ hus
    rw [Tm.deep_mk]
    have := deeps_le_of (ks := us) (f := f) fun u hu => by
      obtain ⟨i, hiu⟩ := List.getElem?_of_mem hu
      have hlt : i < (σ.fin T).kids.length := by rw [← hlen]; exact (List.getElem?_eq_some_iff.1 hiu).1
      obtain ⟨u', l1, l2, e1, e2⟩ := hi i _ (List.getElem?_eq_getElem hlt)
      rw [hiu] at e1
      cases e1
      exact fill_deep f l1 _ u l2 e2
    omega
theorem fill_same {σ : St} : ∀ f left a, Clear σ a → a.size ≤ left → a.deep ≤ f → σ.fill f left a = .ok a (left - a.size)
  | 0, left, a, _, _, hd => by have := a.deep_pos; omega
  | f + 1, left, a, hc, hs, hd => by
    cases hc with
    | @mk k n s ks hv hk =>
      rw [Tm.size_mk] at hs ⊢
      rw [Tm.deep_mk] at hd
      rw [St.fill, if_neg (by omega), St.fin_free hv]
      have key : ∀ ks : List Tm, (∀ t ∈ ks, Clear σ t) → Tm.deeps ks ≤ f → Tm.sizes ks ≤ left - 1 → fillL (σ.fill f) (left - 1) ks = .ok ks (left - 1 - Tm.sizes ks) := by
        intro ks
        induction ks using snoc_ind with
        | h0 => intro _ _ _; rw [fillL_nil, Tm.sizes_nil]; rfl
        | h1 ks t ih =>
          intro h1 h2 h3
          have hd1 : Tm.deeps ks ≤ f := deeps_le_of fun u hu => Nat.le_trans (deep_le_deeps10 (List.mem_append_left _ hu)) h2
          have hd2 : t.deep ≤ f := Nat.le_trans (deep_le_deeps10 (List.mem_append_right _ (by simp))) h2
          rw [Tm.sizes_append, Tm.sizes_cons, Tm.sizes_nil] at h3 ⊢
          rw [fillL_snoc, ih (fun u hu => h1 u (List.mem_append_left _ hu)) hd1 (by omega)]
          simp only
          rw [fill_same f _ t (h1 t (by simp)) (by omega) hd2]
          simp only [FR.next]
          congr 1
          omega
      have := key ks hk (by omega) (by omega)
      show (match fillL (σ.fill f) (left - 1) ks with | .bad e => FR.bad e | .ok us l => .ok (.mk k n s us) l) = _
      rw [this]
      simp only
      congr 1
      omega

/-- A variable stands somewhere in it. -/
inductive Occ (v : Int) : Tm → Prop
  | here {n : Int} {s : ByteArray} {ks : List Tm} (h : n = v) : Occ v (.mk 1 n s ks)
  | kid {k n : Int} {s : ByteArray} {ks : List Tm} {t : Tm} (ht : t ∈ ks) (h : Occ v t) : Occ v (.mk k n s ks)
theorem mem_partss {d : Nat} {y : Nat × Tm} : ∀ {ks : List Tm}, y ∈ Tm.partss d ks ↔ ∃ t ∈ ks, y ∈ t.parts d
  | [] => by simp [Tm.partss_nil]
  | t :: ts => by rw [Tm.partss_cons, List.mem_append, mem_partss (ks := ts)]; simp
theorem occ_parts (v : Int) (T : Tm) : ∀ d, (∃ y ∈ T.parts d, y.2.kind = 1 ∧ y.2.num = v) ↔ Occ v T := by
  induction T using Tm.ind with
  | h k n s ks ih =>
    intro d
    rw [Tm.parts_mk]
    constructor
    · rintro ⟨y, hy, h1, h2⟩
      rcases List.mem_cons.1 hy with rfl | hy
      · have h1 : k = 1 := h1
        subst h1
        exact .here h2
      · obtain ⟨t, ht, hy⟩ := mem_partss.1 hy
        exact .kid ht ((ih t ht (d + 1)).1 ⟨y, hy, h1, h2⟩)
    · intro h
      cases h with
      | here h => exact ⟨_, List.mem_cons_self .., rfl, h⟩
      | kid ht h =>
        obtain ⟨y, hy, h1, h2⟩ := (ih _ ht (d + 1)).2 h
        exact ⟨y, List.mem_cons_of_mem _ (mem_partss.2 ⟨_, ht, hy⟩), h1, h2⟩
theorem mem_foldV (x : Int) : ∀ (l : List (Nat × Tm)) (acc : List Int), x ∈ l.foldl addV acc ↔ x ∈ acc ∨ ∃ y ∈ l, y.2.kind = 1 ∧ y.2.num = x
  | [], acc => by simp
  | y :: r, acc => by
    rw [List.foldl_cons, mem_foldV x r]
    have h1 : x ∈ addV acc y ↔ x ∈ acc ∨ (y.2.kind = 1 ∧ y.2.num = x) := by
      unfold addV addNew
      by_cases h1 : y.2.kind = 1
      · rw [if_pos h1]
        by_cases h2 : acc.contains y.2.num = true
        · rw [if_pos h2]
          constructor
          · exact fun h => .inl h
          · rintro (h | ⟨_, rfl⟩)
            · exact h
            · simpa using h2
        · rw [if_neg h2, List.mem_append, List.mem_singleton]
          constructor
          · rintro (h | h)
            · exact .inl h
            · exact .inr ⟨h1, h.symm⟩
          · rintro (h | ⟨_, h⟩)
            · exact .inl h
            · exact .inr h.symm
      · rw [if_neg h1]
        exact ⟨fun h => .inl h, fun h => h.elim id fun h => absurd h.1 h1⟩
    rw [h1]
    constructor
    · rintro ((h | h) | ⟨z, hz, h⟩)
      · exact .inl h
      · exact .inr ⟨y, by simp, h⟩
      · exact .inr ⟨z, by simp [hz], h⟩
    · rintro (h | ⟨z, hz, h⟩)
      · exact .inl (.inl h)
      · rcases List.mem_cons.1 hz with rfl | hz
        · exact .inl (.inr h)
        · exact .inr ⟨z, hz, h⟩
theorem mem_vars (x : Int) (T : Tm) : x ∈ T.vars ↔ Occ x T := by
  rw [Tm.vars, varsL, mem_foldV, ← occ_parts x T 1]
  simp
theorem clear_occ {σ : St} {v : Int} {T : Tm} (h : Occ v T) : Clear σ T → ∀ (s : ByteArray) (ks : List Tm), σ.val (.mk 1 v s ks) = none := by
  induction h with
  | here h => intro hc s ks; cases hc with | mk h' _ => subst h; exact h'
  | kid ht _ ih => intro hc; cases hc with | mk _ hk => exact ih (hk _ ht)
theorem ground_occ {T : Tm} (hg : T.ground = true) (v : Int) : ¬ Occ v T := by
  intro h
  obtain ⟨y, hy, h1, -⟩ := (occ_parts v T 1).2 h
  unfold Tm.ground groundL at hg
  have := List.all_eq_true.1 hg y hy
  simp at this
  exact this h1
theorem fill_occ_none {σ : St} {v : Int} : ∀ f left T a l, (∀ x, ¬ Occ x T) → σ.fill f left T = .ok a l → ¬ Occ v a
  | 0, left, T, a, l, _, h => by rw [St.fill] at h; cases h
  | f + 1, left, T, a, l, hno, h => by
    obtain ⟨us, hus, rfl⟩ := fill_ok h
    have hk1 : T.kind ≠ 1 := fun e => by obtain ⟨k, n, s, ks⟩ := T; have e : k = 1 := e; subst e; exact hno n (.here rfl)
    have hfin : σ.fin T = T := St.fin_free (St.val_ne hk1)
    rw [hfin] at hus ⊢
    obtain ⟨hlen, hi⟩ := fillL_each _ _ _ _ hus
    intro ho
    obtain ⟨k, n, s, ks⟩ := T
    have ho : Occ v (.mk k n s us) := ho
    have hk1 : k ≠ 1 := hk1
    cases ho with
    | here _ => exact hk1 rfl
    | kid ht h' =>
      obtain ⟨i, hiu⟩ := List.getElem?_of_mem ht
      have hlt : i < ks.length := by have h1 : us.length = ks.length := hlen; rw [← h1]; exact (List.getElem?_eq_some_iff.1 hiu).1
      obtain ⟨u', l1, l2, e1, e2⟩ := hi i ks[i] (List.getElem?_eq_getElem hlt)
      rw [hiu] at e1
      cases e1
      exact fill_occ_none f l1 ks[i] _ l2 (fun x hx => hno x (.kid (List.getElem_mem hlt) hx)) e2 h'
theorem met_ends {σ : St} {v : Int} {n : Nat} {T X : Tm} (h : EndsN σ n T X) : Met σ v T ↔ Met σ v X := by
  induction h with
  | stop _ => exact Iff.rfl
  | step h1 _ ih =>
    rw [← ih]
    constructor
    · rintro ⟨m, hm⟩
      cases hm with
      | var h' _ _ => rw [h1] at h'; cases h'
      | bound h' g => rw [h1] at h'; cases h'; exact ⟨_, g⟩
      | kid h' _ _ _ => exact absurd (St.val_some h1).1 h'
    · rintro ⟨m, hm⟩; exact ⟨m + 1, .bound h1 hm⟩
/-- What variables are bound to may be. -/
def St.Vd (σ : St) : Prop := ∀ (x : Nat) (U : Tm), σ.vs[x]? = some (some U) → U.valid 16 = true
theorem fin_valid {σ : St} (hV : σ.Vd) {n : Nat} {T X : Tm} (h : EndsN σ n T X) : T.valid 16 = true → X.valid 16 = true := by
  induction h with
  | stop _ => exact id
  | step h1 _ ih => intro _; obtain ⟨_, x, _, hx⟩ := St.val_some h1; exact ih (hV x _ hx)
theorem fill_met {σ : St} (hr : σ.Ranked) (hV : σ.Vd) (v : Int) : ∀ f left T a l, T.valid 16 = true → σ.fill f left T = .ok a l → (Met σ v T ↔ Occ v a)
  | 0, left, T, a, l, _, h => by rw [St.fill] at h; cases h
  | f + 1, left, T, a, l, hT, h => by
    obtain ⟨us, hus, rfl⟩ := fill_ok h
    obtain ⟨m, hm⟩ := hr.fin T
    have hX := fin_valid hV hm hT
    have hfree := hm.free
    rw [met_ends hm]
    generalize σ.fin T = X at *
    obtain ⟨k, n, s, ks⟩ := X
    rw [valid_mk, Bool.and_eq_true] at hX
    obtain ⟨hf, hk⟩ := hX
    have hus : fillL (σ.fill f) (left - 1) ks = .ok us l := hus
    obtain ⟨hlen, hi⟩ := fillL_each _ _ _ _ hus
    show Met σ v (.mk k n s ks) ↔ Occ v (.mk k n s us)
    by_cases h1 : k = 1
    · subst h1
      have hks : ks = [] := by
        simp [Tm.formed, Tm.kind, Tm.kids] at hf
        exact hf.2
      subst hks
      have hus0 : us = [] := List.eq_nil_of_length_eq_zero hlen
      subst hus0
      constructor
      · rintro ⟨j, hj⟩
        cases hj with
        | var _ _ hn => exact .here hn
        | bound h' _ => rw [hfree] at h'; cases h'
        | kid h' _ _ _ => exact absurd rfl h'
      · intro ho
        cases ho with
        | here h => exact ⟨0, .var hfree rfl h⟩
        | kid ht _ => cases ht
    by_cases h4 : k = 4
    · subst h4
      have hg : (Tm.mk 4 n s ks).ground = true := by
        simp [Tm.formed, Tm.kind] at hf
        exact hf.2
      constructor
      · rintro ⟨j, hj⟩
        cases hj with
        | var _ h' _ => cases h'
        | bound h' _ => rw [hfree] at h'; cases h'
        | kid _ h' _ _ => exact absurd rfl h'
      · intro ho
        cases ho with
        | kid ht h' =>
          obtain ⟨i, hiu⟩ := List.getElem?_of_mem ht
          have hlt : i < ks.length := by rw [← hlen]; exact (List.getElem?_eq_some_iff.1 hiu).1
          obtain ⟨u', l1, l2, e1, e2⟩ := hi i ks[i] (List.getElem?_eq_getElem hlt)
          rw [hiu] at e1
          cases e1
          exact absurd h' (fill_occ_none f l1 ks[i] _ l2 (fun x hx => ground_occ hg x (.kid (List.getElem_mem hlt) hx)) e2)
    · constructor
      · rintro ⟨j, hj⟩
        cases hj with
        | var _ h' _ => exact absurd h' h1
        | bound h' _ => rw [hfree] at h'; cases h'
        | kid _ _ hU g =>
          obtain ⟨i, hik⟩ := List.getElem?_of_mem (show _ ∈ ks from hU)
          obtain ⟨u, l1, l2, e1, e2⟩ := hi i _ hik
          have hv := List.all_eq_true.1 hk _ (show _ ∈ ks from hU)
          exact .kid (List.mem_of_getElem? e1) ((fill_met hr hV v f l1 _ u l2 hv e2).1 ⟨_, g⟩)
      · intro ho
        cases ho with
        | here _ => exact absurd rfl h1
        | kid ht h' =>
          obtain ⟨i, hiu⟩ := List.getElem?_of_mem ht
          have hlt : i < ks.length := by rw [← hlen]; exact (List.getElem?_eq_some_iff.1 hiu).1
          obtain ⟨u', l1, l2, e1, e2⟩ := hi i ks[i] (List.getElem?_eq_getElem hlt)
          rw [hiu] at e1
          cases e1
          have hv := List.all_eq_true.1 hk _ (List.getElem_mem hlt)
          obtain ⟨j, hj⟩ := (fill_met hr hV v f l1 ks[i] _ l2 hv e2).2 h'
          exact ⟨j + 1, .kid h1 h4 (List.getElem_mem hlt) hj⟩
theorem Bound1.vd {σ σ' : St} {v : Int} {T : Tm} (h : Bound1 σ v T σ') (hV : σ.Vd) (hT : T.valid 16 = true) : σ'.Vd := by
  rcases h with rfl | ⟨n, -, -, -, rfl⟩
  · exact hV
  · intro x U hx
    have hx : (σ.vs.set n (some T))[x]? = some (some U) := hx
    rw [List.getElem?_set] at hx
    split at hx
    · split at hx
      · cases hx; exact hT
      · cases hx
    · exact hV x U hx
theorem check_valid10 {T : Tm} (h : T.check 16 = 0) : T.valid 16 = true := by
  unfold Tm.check at h
  split at h
  · cases h
  · split at h
    · cases h
    · split at h
      · assumption
      · cases h
theorem tm_nums {p : Nat → Prop} {W : World} {v : Value} {T : Tm} (h : TmIn p W v T) : ∀ x, Occ x T → i64ok x := by
  induction h with
  | mk hk hn hs hc hm ha vs K N S hv hkid ih =>
    intro x hx
    cases hx with
    | here h => subst h; exact hn
    | kid ht h' =>
      obtain ⟨i, hlt, e⟩ := List.getElem_of_mem ht
      subst e
      exact ih i hlt x h'
end Go.Proofs.Ytlnggaepmclbkaa

namespace Go.Proofs.Ytlnggaepmclbkaa
open Go.RowKit Go.Shelf
set_option linter.unusedVariables false

theorem wrap64_two (n a b : Int) : wrap64 (wrap64 (n + a) + b) = wrap64 (n + wrap64 (a + b)) := by simp only [wrap64]; omega
theorem wrap64_back (a : Int) : wrap64 (a + wrap64 (-a)) = 0 := by simp only [wrap64]; omega
theorem wrap64_inj {n m a : Int} (hn : i64ok n) (hm : i64ok m) (h : wrap64 (n + a) = wrap64 (m + a)) : n = m := by
  obtain ⟨h1, h2⟩ := hn
  obtain ⟨h3, h4⟩ := hm
  simp only [wrap64] at h
  omega

theorem Tm.shift_shift (a b : Int) (T : Tm) : (T.shift a).shift b = T.shift (wrap64 (a + b)) := by
  induction T using Tm.ind with
  | h k n s ks ih =>
    rw [Tm.shift_mk, Tm.shift_mk, Tm.shift_mk, Tm.shifts_eq, Tm.shifts_eq, Tm.shifts_eq, List.map_map]
    congr 1
    · by_cases hk : k = 1
      · rw [if_pos hk, if_pos hk, if_pos hk, wrap64_two]
      · rw [if_neg hk, if_neg hk, if_neg hk]
    · exact List.map_congr_left fun t ht => ih t ht

theorem Tm.sizes_shift (a : Int) : ∀ ks : List Tm, (∀ t ∈ ks, (t.shift a).size = t.size) → Tm.sizes (ks.map (Tm.shift a)) = Tm.sizes ks
  | [], _ => rfl
  | t :: ts, h => by rw [List.map_cons, Tm.sizes_cons, Tm.sizes_cons, h t (by simp), Tm.sizes_shift a ts fun u hu => h u (by simp [hu])]
theorem Tm.size_shift (a : Int) (T : Tm) : (T.shift a).size = T.size := by
  induction T using Tm.ind with
  | h k n s ks ih => rw [Tm.shift_mk, Tm.shifts_eq, Tm.size_mk, Tm.size_mk, Tm.sizes_shift a ks ih]
theorem Tm.deeps_shift (a : Int) : ∀ ks : List Tm, (∀ t ∈ ks, (t.shift a).deep = t.deep) → Tm.deeps (ks.map (Tm.shift a)) = Tm.deeps ks
  | [], _ => rfl
  | t :: ts, h => by rw [List.map_cons, Tm.deeps_cons, Tm.deeps_cons, h t (by simp), Tm.deeps_shift a ts fun u hu => h u (by simp [hu])]
theorem Tm.deep_shift (a : Int) (T : Tm) : (T.shift a).deep = T.deep := by
  induction T using Tm.ind with
  | h k n s ks ih => rw [Tm.shift_mk, Tm.shifts_eq, Tm.deep_mk, Tm.deep_mk, Tm.deeps_shift a ks ih]

theorem Tm.partss_shift (a : Int) (d : Nat) : ∀ ks : List Tm, (∀ t ∈ ks, ∀ d, (t.shift a).parts d = (t.parts d).map fun x => (x.1, x.2.shift a)) → Tm.partss d (ks.map (Tm.shift a)) = (Tm.partss d ks).map fun x => (x.1, x.2.shift a)
  | [], _ => by simp [Tm.partss_nil]
  | t :: ts, h => by rw [List.map_cons, Tm.partss_cons, Tm.partss_cons, List.map_append, h t (by simp), Tm.partss_shift a d ts fun u hu => h u (by simp [hu])]
theorem Tm.parts_shift (a : Int) (T : Tm) : ∀ d, (T.shift a).parts d = (T.parts d).map fun x => (x.1, x.2.shift a) := by
  induction T using Tm.ind with
  | h k n s ks ih =>
    intro d
    rw [Tm.parts_mk, List.map_cons, Tm.shift_mk, Tm.shifts_eq, Tm.parts_mk, Tm.partss_shift a (d + 1) ks ih]

/-- The numbers of all parts are within their range. -/
theorem parts_ok {p : Nat → Prop} {W : World} {v : Value} {T : Tm} (h : TmIn p W v T) : ∀ d, ∀ x ∈ T.parts d, i64ok x.2.num := by
  induction h with
  | @mk k n s a cap ks hk hn hs hc hm ha vs K N S hv hkid ih =>
    intro d x hx
    rw [Tm.parts_mk] at hx
    rcases List.mem_cons.1 hx with rfl | hx
    · exact hn
    · have key : ∀ (l : List Tm), (∀ t ∈ l, ∀ d, ∀ x ∈ t.parts d, i64ok x.2.num) → ∀ d, ∀ x ∈ Tm.partss d l, i64ok x.2.num := by
        intro l
        induction l with
        | nil => intro _ d x hx; rw [Tm.partss_nil] at hx; cases hx
        | cons t ts iht =>
          intro h d x hx
          rw [Tm.partss_cons] at hx
          rcases List.mem_append.1 hx with hx | hx
          · exact h t (by simp) d x hx
          · exact iht (fun u hu => h u (by simp [hu])) d x hx
      refine key ks (fun t ht => ?_) (d + 1) x hx
      obtain ⟨i, hi, rfl⟩ := List.getElem_of_mem ht
      exact ih i hi

theorem contains_map {a n : Int} : ∀ {l : List Int}, i64ok n → (∀ m ∈ l, i64ok m) → (l.map fun m => wrap64 (m + a)).contains (wrap64 (n + a)) = l.contains n
  | [], _, _ => rfl
  | m :: l, hn, hl => by
    rw [List.map_cons, List.contains_cons, List.contains_cons, contains_map hn fun x hx => hl x (by simp [hx])]
    congr 1
    rw [Bool.eq_iff_iff]
    simp only [beq_iff_eq]
    exact ⟨fun e => wrap64_inj hn (hl m (by simp)) e, fun e => by rw [e]⟩

theorem addV_ok {acc : List Int} {x : Nat × Tm} (ha : ∀ m ∈ acc, i64ok m) (hx : i64ok x.2.num) : ∀ m ∈ addV acc x, i64ok m := by
  unfold addV addNew
  split
  · split
    · exact ha
    · intro m hm
      rcases List.mem_append.1 hm with hm | hm
      · exact ha m hm
      · simp at hm; subst hm; exact hx
  · exact ha

theorem vars_foldl (a : Int) : ∀ (l : List (Nat × Tm)) (acc : List Int), (∀ m ∈ acc, i64ok m) → (∀ x ∈ l, i64ok x.2.num) →
    (l.map fun x => (x.1, x.2.shift a)).foldl addV (acc.map fun m => wrap64 (m + a)) = (l.foldl addV acc).map fun m => wrap64 (m + a)
  | [], acc, _, _ => rfl
  | x :: l, acc, ha, hl => by
    rw [List.map_cons, List.foldl_cons, List.foldl_cons, ← vars_foldl a l (addV acc x) (addV_ok ha (hl x (by simp))) fun y hy => hl y (by simp [hy])]
    congr 1
    obtain ⟨d, k, n, s, ks⟩ := x
    show addV _ (d, (Tm.mk k n s ks).shift a) = _
    rw [Tm.shift_mk]
    unfold addV
    show (if k = 1 then addNew _ (if k = 1 then wrap64 (n + a) else n) else _) = (if k = 1 then addNew acc n else acc).map _
    by_cases hk : k = 1
    · rw [if_pos hk, if_pos hk, if_pos hk]
      unfold addNew
      have hn : i64ok n := hl (d, .mk k n s ks) (by simp)
      rw [contains_map hn ha]
      split
      · rfl
      · rw [List.map_append]; rfl
    · rw [if_neg hk, if_neg hk]

theorem vars_shift {p : Nat → Prop} {W : World} {v : Value} {T : Tm} (h : TmIn p W v T) (a : Int) : (T.shift a).vars = T.vars.map fun m => wrap64 (m + a) := by
  rw [Tm.vars, Tm.parts_shift]
  exact vars_foldl a (T.parts 1) [] (by simp) (parts_ok h 1)

theorem vars_len_le (T : Tm) : T.vars.length ≤ T.size := by have := varsL_length (T.parts 1); rw [T.parts_length] at this; exact this

theorem vars_ok {p : Nat → Prop} {W : World} {v : Value} {T : Tm} (h : TmIn p W v T) : ∀ m ∈ T.vars, i64ok m := by
  have key : ∀ (l : List (Nat × Tm)) (acc : List Int), (∀ m ∈ acc, i64ok m) → (∀ x ∈ l, i64ok x.2.num) → ∀ m ∈ l.foldl addV acc, i64ok m := by
    intro l
    induction l with
    | nil => intro acc ha _; exact ha
    | cons x l ih => intro acc ha hl; rw [List.foldl_cons]; exact ih _ (addV_ok ha (hl x (by simp))) fun y hy => hl y (by simp [hy])
  exact key (T.parts 1) [] (by simp) (parts_ok h 1)

end Go.Proofs.Ytlnggaepmclbkaa
