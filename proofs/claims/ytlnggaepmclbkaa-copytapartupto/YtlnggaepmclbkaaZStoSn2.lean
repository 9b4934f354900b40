/-
  What is full: no variable of it is bound; it is full as it is; its variables are those that are met.
-/
import Derived.Test.YtlnggaepmclbkaaZStoQn4
import Derived.Test.YtlnggaepmclbkaaZOwnTn2
namespace Go.Proofs.Ytlnggaepmclbkaa
open Go.RowKit Go.Shelf
set_option linter.unusedVariables false
set_option linter.unusedSimpArgs false

/-- No variable of it is bound. -/
inductive Clear (σ : St) : Tm → Prop
  | mk {k n : Int} {s : ByteArray} {ks : List Tm} (h : σ.val (.mk k n s ks) = none) (hk : ∀ t ∈ ks, Clear σ t) : Clear σ (.mk k n s ks)
theorem fillL_each {g : Nat → Tm → FR} (left : Nat) (ks : List Tm) : ∀ us l, fillL g left ks = .ok us l → us.length = ks.length ∧ ∀ (i : Nat) (t : Tm), ks[i]? = some t → ∃ u l1 l2, us[i]? = some u ∧ g l1 t = .ok u l2 := by
  induction ks using snoc_ind with
  | h0 => intro us l h; cases h; exact ⟨rfl, fun i t h => by simp at h⟩
  | h1 ks t ih =>
    intro us l h
    rw [fillL_snoc] at h
    cases hk : fillL g left ks with
    | bad e => rw [hk] at h; cases h
    | ok us' l' =>
      rw [hk] at h
      cases ht : g l' t with
      | bad e => simp only [ht, FR.next] at h; cases h
      | ok u l2 =>
        simp only [ht, FR.next] at h
        cases h
        obtain ⟨h1, h2⟩ := ih us' l' hk
        refine ⟨by rw [List.length_append, List.length_append, h1]; rfl, fun i t' hi => ?_⟩
        by_cases hl : i < ks.length
        · rw [List.getElem?_append_left hl] at hi
          obtain ⟨u', l3, l4, e1, e2⟩ := h2 i t' hi
          exact ⟨u', l3, l4, by rw [List.getElem?_append_left (by omega)]; exact e1, e2⟩
        · rw [List.getElem?_append_right (by omega)] at hi
          obtain ⟨j, hj⟩ : ∃ j, j = i - ks.length := ⟨_, rfl⟩
          rw [← hj] at hi
          cases j with
          | zero =>
            simp at hi
            subst hi
            exact ⟨u, _, _, by rw [List.getElem?_append_right (by omega), h1, ← hj]; rfl, ht⟩
          | succ j => simp at hi
theorem fill_ok {σ : St} {f left : Nat} {T a : Tm} {l : Nat} (h : σ.fill (f + 1) left T = .ok a l) : ∃ us, fillL (σ.fill f) (left - 1) (σ.fin T).kids = .ok us l ∧ a = .mk (σ.fin T).kind (σ.fin T).num (σ.fin T).name us := by
  rw [St.fill] at h
  split at h
  · cases h
  · split at h
    · cases h
    · rename_i us l' hk
      cases h
      exact ⟨us, hk, rfl⟩
theorem val_mk (σ : St) (T : Tm) (us : List Tm) : σ.val (.mk T.kind T.num T.name us) = σ.val T := rfl
theorem fill_clear {σ : St} (hr : σ.Ranked) : ∀ f left T a l, σ.fill f left T = .ok a l → Clear σ a
  | 0, left, T, a, l, h => by rw [St.fill] at h; cases h
  | f + 1, left, T, a, l, h => by
    obtain ⟨us, hus, rfl⟩ := fill_ok h
    obtain ⟨hlen, hi⟩ := fillL_each _ _ _ _ hus
    refine .mk (by rw [val_mk]; exact hr.val_fin T) fun u hu => ?_
    obtain ⟨i, hiu⟩ := List.getElem?_of_mem hu
    have hlt : i < (σ.fin T).kids.length := by rw [← hlen]; exact (List.getElem?_eq_some_iff.1 hiu).1
    obtain ⟨u', l1, l2, e1, e2⟩ := hi i _ (List.getElem?_eq_getElem hlt)
    rw [hiu] at e1
    cases e1
    exact fill_clear hr f l1 _ u l2 e2
theorem deeps_le_of {ks : List Tm} {f : Nat} (h : ∀ t ∈ ks, t.deep ≤ f) : Tm.deeps ks ≤ f := by
  induction ks with
  | nil => rw [Tm.deeps_nil]; omega
  | cons t ts ih => rw [Tm.deeps_cons]; have := h t (by simp); have := ih fun u hu => h u (by simp [hu]); omega
theorem deep_le_deeps10 {t : Tm} {ks : List Tm} (h : t ∈ ks) : t.deep ≤ Tm.deeps ks := by
  induction ks with
  | nil => cases h
  | cons u us ih =>
    rw [Tm.deeps_cons]
    rcases List.mem_cons.1 h with rfl | h
    · omega
    · have := ih h; omega
theorem fill_deep {σ : St} : ∀ f left T a l, σ.fill f left T = .ok a l → a.deep ≤ f
  | 0, left, T, a, l, h => by rw [St.fill] at h; cases h
  | f + 1, left, T, a, l, h => by
    obtain ⟨us, hus, rfl⟩ := fill_ok h
    obtain ⟨hlen, hi⟩ := fillL_each _ _ _ _ hus
    rw [Tm.deep_mk]
    have := deeps_le_of (ks := us) (f := f) fun u hu => by
      obtain ⟨i, hiu⟩ := List.getElem?_of_mem hu
      have hlt : i < (σ.fin T).kids.length := by rw [← hlen]; exact (List.getElem?_eq_some_iff.1 hiu).1
      obtain ⟨u', l1, l2, e1, e2⟩ := hi i _ (List.getElem?_eq_getElem hlt)
      rw [hiu] at e1
      cases e1
      exact fill_deep f l1 _ u l2 e2
    omega
theorem fill_same {σ : St} : ∀ f left a, Clear σ a → a.size ≤ left → a.deep ≤ f → σ.fill f left a = .ok a (left - a.size)
  | 0, left, a, _, _, hd => by have := a.deep_pos; omega
  | f + 1, left, a, hc, hs, hd => by
    cases hc with
    | @mk k n s ks hv hk =>
      rw [Tm.size_mk] at hs ⊢
      rw [Tm.deep_mk] at hd
      rw [St.fill, if_neg (by omega), St.fin_free hv]
      have key : ∀ ks : List Tm, (∀ t ∈ ks, Clear σ t) → Tm.deeps ks ≤ f → Tm.sizes ks ≤ left - 1 → fillL (σ.fill f) (left - 1) ks = .ok ks (left - 1 - Tm.sizes ks) := by
        intro ks
        induction ks using snoc_ind with
        | h0 => intro _ _ _; rw [fillL_nil, Tm.sizes_nil]; rfl
        | h1 ks t ih =>
          intro h1 h2 h3
          have hd1 : Tm.deeps ks ≤ f := deeps_le_of fun u hu => Nat.le_trans (deep_le_deeps10 (List.mem_append_left _ hu)) h2
          have hd2 : t.deep ≤ f := Nat.le_trans (deep_le_deeps10 (List.mem_append_right _ (by simp))) h2
          rw [Tm.sizes_append, Tm.sizes_cons, Tm.sizes_nil] at h3 ⊢
          rw [fillL_snoc, ih (fun u hu => h1 u (List.mem_append_left _ hu)) hd1 (by omega)]
          simp only
          rw [fill_same f _ t (h1 t (by simp)) (by omega) hd2]
          simp only [FR.next]
          congr 1
          omega
      have := key ks hk (by omega) (by omega)
      show (match fillL (σ.fill f) (left - 1) ks with | .bad e => FR.bad e | .ok us l => .ok (.mk k n s us) l) = _
      rw [this]
      simp only
      congr 1
      omega

/-- A variable stands somewhere in it. -/
inductive Occ (v : Int) : Tm → Prop
  | here {n : Int} {s : ByteArray} {ks : List Tm} (h : n = v) : Occ v (.mk 1 n s ks)
  | kid {k n : Int} {s : ByteArray} {ks : List Tm} {t : Tm} (ht : t ∈ ks) (h : Occ v t) : Occ v (.mk k n s ks)
theorem mem_partss {d : Nat} {y : Nat × Tm} : ∀ {ks : List Tm}, y ∈ Tm.partss d ks ↔ ∃ t ∈ ks, y ∈ t.parts d
  | [] => by simp [Tm.partss_nil]
  | t :: ts => by rw [Tm.partss_cons, List.mem_append, mem_partss (ks := ts)]; simp
theorem occ_parts (v : Int) (T : Tm) : ∀ d, (∃ y ∈ T.parts d, y.2.kind = 1 ∧ y.2.num = v) ↔ Occ v T := by
  induction T using Tm.ind with
  | h k n s ks ih =>
    intro d
    rw [Tm.parts_mk]
    constructor
    · rintro ⟨y, hy, h1, h2⟩
      rcases List.mem_cons.1 hy with rfl | hy
      · have h1 : k = 1 := h1
        subst h1
        exact .here h2
      · obtain ⟨t, ht, hy⟩ := mem_partss.1 hy
        exact .kid ht ((ih t ht (d + 1)).1 ⟨y, hy, h1, h2⟩)
    · intro h
      cases h with
      | here h => exact ⟨_, List.mem_cons_self .., rfl, h⟩
      | kid ht h =>
        obtain ⟨y, hy, h1, h2⟩ := (ih _ ht (d + 1)).2 h
        exact ⟨y, List.mem_cons_of_mem _ (mem_partss.2 ⟨_, ht, hy⟩), h1, h2⟩
theorem mem_foldV (x : Int) : ∀ (l : List (Nat × Tm)) (acc : List Int), x ∈ l.foldl addV acc ↔ x ∈ acc ∨ ∃ y ∈ l, y.2.kind = 1 ∧ y.2.num = x
  | [], acc => by simp
  | y :: r, acc => by
    rw [List.foldl_cons, mem_foldV x r]
    have h1 : x ∈ addV acc y ↔ x ∈ acc ∨ (y.2.kind = 1 ∧ y.2.num = x) := by
      unfold addV addNew
      by_cases h1 : y.2.kind = 1
      · rw [if_pos h1]
        by_cases h2 : acc.contains y.2.num = true
        · rw [if_pos h2]
          constructor
          · exact fun h => .inl h
          · rintro (h | ⟨_, rfl⟩)
            · exact h
            · simpa using h2
        · rw [if_neg h2, List.mem_append, List.mem_singleton]
          constructor
          · rintro (h | h)
            · exact .inl h
            · exact .inr ⟨h1, h.symm⟩
          · rintro (h | ⟨_, h⟩)
            · exact .inl h
            · exact .inr h.symm
      · rw [if_neg h1]
        exact ⟨fun h => .inl h, fun h => h.elim id fun h => absurd h.1 h1⟩
    rw [h1]
    constructor
    · rintro ((h | h) | ⟨z, hz, h⟩)
      · exact .inl h
      · exact .inr ⟨y, by simp, h⟩
      · exact .inr ⟨z, by simp [hz], h⟩
    · rintro (h | ⟨z, hz, h⟩)
      · exact .inl (.inl h)
      · rcases List.mem_cons.1 hz with rfl | hz
        · exact .inl (.inr h)
        · exact .inr ⟨z, hz, h⟩
theorem mem_vars (x : Int) (T : Tm) : x ∈ T.vars ↔ Occ x T := by
  rw [Tm.vars, varsL, mem_foldV, ← occ_parts x T 1]
  simp
theorem clear_occ {σ : St} {v : Int} {T : Tm} (h : Occ v T) : Clear σ T → ∀ (s : ByteArray) (ks : List Tm), σ.val (.mk 1 v s ks) = none := by
  induction h with
  | here h => intro hc s ks; cases hc with | mk h' _ => subst h; exact h'
  | kid ht _ ih => intro hc; cases hc with | mk _ hk => exact ih (hk _ ht)
theorem ground_occ {T : Tm} (hg : T.ground = true) (v : Int) : ¬ Occ v T := by
  intro h
  obtain ⟨y, hy, h1, -⟩ := (occ_parts v T 1).2 h
  unfold Tm.ground groundL at hg
  have := List.all_eq_true.1 hg y hy
  simp at this
  exact this h1
theorem fill_occ_none {σ : St} {v : Int} : ∀ f left T a l, (∀ x, ¬ Occ x T) → σ.fill f left T = .ok a l → ¬ Occ v a
  | 0, left, T, a, l, _, h => by rw [St.fill] at h; cases h
  | f + 1, left, T, a, l, hno, h => by
    obtain ⟨us, hus, rfl⟩ := fill_ok h
    have hk1 : T.kind ≠ 1 := fun e => by obtain ⟨k, n, s, ks⟩ := T; have e : k = 1 := e; subst e; exact hno n (.here rfl)
    have hfin : σ.fin T = T := St.fin_free (St.val_ne hk1)
    rw [hfin] at hus ⊢
    obtain ⟨hlen, hi⟩ := fillL_each _ _ _ _ hus
    intro ho
    obtain ⟨k, n, s, ks⟩ := T
    have ho : Occ v (.mk k n s us) := ho
    have hk1 : k ≠ 1 := hk1
    cases ho with
    | here _ => exact hk1 rfl
    | kid ht h' =>
      obtain ⟨i, hiu⟩ := List.getElem?_of_mem ht
      have hlt : i < ks.length := by have h1 : us.length = ks.length := hlen; rw [← h1]; exact (List.getElem?_eq_some_iff.1 hiu).1
      obtain ⟨u', l1, l2, e1, e2⟩ := hi i ks[i] (List.getElem?_eq_getElem hlt)
      rw [hiu] at e1
      cases e1
      exact fill_occ_none f l1 ks[i] _ l2 (fun x hx => hno x (.kid (List.getElem_mem hlt) hx)) e2 h'
theorem met_ends {σ : St} {v : Int} {n : Nat} {T X : Tm} (h : EndsN σ n T X) : Met σ v T ↔ Met σ v X := by
  induction h with
  | stop _ => exact Iff.rfl
  | step h1 _ ih =>
    rw [← ih]
    constructor
    · rintro ⟨m, hm⟩
      cases hm with
      | var h' _ _ => rw [h1] at h'; cases h'
      | bound h' g => rw [h1] at h'; cases h'; exact ⟨_, g⟩
      | kid h' _ _ _ => exact absurd (St.val_some h1).1 h'
    · rintro ⟨m, hm⟩; exact ⟨m + 1, .bound h1 hm⟩
/-- What variables are bound to may be. -/
def St.Vd (σ : St) : Prop := ∀ (x : Nat) (U : Tm), σ.vs[x]? = some (some U) → U.valid 16 = true
theorem fin_valid {σ : St} (hV : σ.Vd) {n : Nat} {T X : Tm} (h : EndsN σ n T X) : T.valid 16 = true → X.valid 16 = true := by
  induction h with
  | stop _ => exact id
  | step h1 _ ih => intro _; obtain ⟨_, x, _, hx⟩ := St.val_some h1; exact ih (hV x _ hx)
theorem fill_met {σ : St} (hr : σ.Ranked) (hV : σ.Vd) (v : Int) : ∀ f left T a l, T.valid 16 = true → σ.fill f left T = .ok a l → (Met σ v T ↔ Occ v a)
  | 0, left, T, a, l, _, h => by rw [St.fill] at h; cases h
  | f + 1, left, T, a, l, hT, h => by
    obtain ⟨us, hus, rfl⟩ := fill_ok h
    obtain ⟨m, hm⟩ := hr.fin T
    have hX := fin_valid hV hm hT
    have hfree := hm.free
    rw [met_ends hm]
    generalize σ.fin T = X at *
    obtain ⟨k, n, s, ks⟩ := X
    rw [valid_mk, Bool.and_eq_true] at hX
    obtain ⟨hf, hk⟩ := hX
    have hus : fillL (σ.fill f) (left - 1) ks = .ok us l := hus
    obtain ⟨hlen, hi⟩ := fillL_each _ _ _ _ hus
    show Met σ v (.mk k n s ks) ↔ Occ v (.mk k n s us)
    by_cases h1 : k = 1
    · subst h1
      have hks : ks = [] := by
        simp [Tm.formed, Tm.kind, Tm.kids] at hf
        exact hf.2
      subst hks
      have hus0 : us = [] := List.eq_nil_of_length_eq_zero hlen
      subst hus0
      constructor
      · rintro ⟨j, hj⟩
        cases hj with
        | var _ _ hn => exact .here hn
        | bound h' _ => rw [hfree] at h'; cases h'
        | kid h' _ _ _ => exact absurd rfl h'
      · intro ho
        cases ho with
        | here h => exact ⟨0, .var hfree rfl h⟩
        | kid ht _ => cases ht
    by_cases h4 : k = 4
    · subst h4
      have hg : (Tm.mk 4 n s ks).ground = true := by
        simp [Tm.formed, Tm.kind] at hf
        exact hf.2
      constructor
      · rintro ⟨j, hj⟩
        cases hj with
        | var _ h' _ => cases h'
        | bound h' _ => rw [hfree] at h'; cases h'
        | kid _ h' _ _ => exact absurd rfl h'
      · intro ho
        cases ho with
        | kid ht h' =>
          obtain ⟨i, hiu⟩ := List.getElem?_of_mem ht
          have hlt : i < ks.length := by rw [← hlen]; exact (List.getElem?_eq_some_iff.1 hiu).1
          obtain ⟨u', l1, l2, e1, e2⟩ := hi i ks[i] (List.getElem?_eq_getElem hlt)
          rw [hiu] at e1
          cases e1
          exact absurd h' (fill_occ_none f l1 ks[i] _ l2 (fun x hx => ground_occ hg x (.kid (List.getElem_mem hlt) hx)) e2)
    · constructor
      · rintro ⟨j, hj⟩
        cases hj with
        | var _ h' _ => exact absurd h' h1
        | bound h' _ => rw [hfree] at h'; cases h'
        | kid _ _ hU g =>
          obtain ⟨i, hik⟩ := List.getElem?_of_mem (show _ ∈ ks from hU)
          obtain ⟨u, l1, l2, e1, e2⟩ := hi i _ hik
          have hv := List.all_eq_true.1 hk _ (show _ ∈ ks from hU)
          exact .kid (List.mem_of_getElem? e1) ((fill_met hr hV v f l1 _ u l2 hv e2).1 ⟨_, g⟩)
      · intro ho
        cases ho with
        | here _ => exact absurd rfl h1
        | kid ht h' =>
          obtain ⟨i, hiu⟩ := List.getElem?_of_mem ht
          have hlt : i < ks.length := by rw [← hlen]; exact (List.getElem?_eq_some_iff.1 hiu).1
          obtain ⟨u', l1, l2, e1, e2⟩ := hi i ks[i] (List.getElem?_eq_getElem hlt)
          rw [hiu] at e1
          cases e1
          have hv := List.all_eq_true.1 hk _ (List.getElem_mem hlt)
          obtain ⟨j, hj⟩ := (fill_met hr hV v f l1 ks[i] _ l2 hv e2).2 h'
          exact ⟨j + 1, .kid h1 h4 (List.getElem_mem hlt) hj⟩
theorem Bound1.vd {σ σ' : St} {v : Int} {T : Tm} (h : Bound1 σ v T σ') (hV : σ.Vd) (hT : T.valid 16 = true) : σ'.Vd := by
  rcases h with rfl | ⟨n, -, -, -, rfl⟩
  · exact hV
  · intro x U hx
    have hx : (σ.vs.set n (some T))[x]? = some (some U) := hx
    rw [List.getElem?_set] at hx
    split at hx
    · split at hx
      · cases hx; exact hT
      · cases hx
    · exact hV x U hx
theorem check_valid10 {T : Tm} (h : T.check 16 = 0) : T.valid 16 = true := by
  unfold Tm.check at h
  split at h
  · cases h
  · split at h
    · cases h
    · split at h
      · assumption
      · cases h
theorem tm_nums {p : Nat → Prop} {W : World} {v : Value} {T : Tm} (h : TmIn p W v T) : ∀ x, Occ x T → i64ok x := by
  induction h with
  | mk hk hn hs hc hm ha vs K N S hv hkid ih =>
    intro x hx
    cases hx with
    | here h => subst h; exact hn
    | kid ht h' =>
      obtain ⟨i, hlt, e⟩ := List.getElem_of_mem ht
      subst e
      exact ih i hlt x h'
end Go.Proofs.Ytlnggaepmclbkaa

namespace Go.Proofs.Ytlnggaepmclbkaa
open Go.RowKit Go.Shelf
set_option linter.unusedVariables false

def PvL (w : World) (base B : Nat) (v : Value) (b : Nat) : Prop := b < w.heap.size ∧ v.ownBlock ≠ some b ∧ b ≠ B ∧ base ≤ b
/-- A slice that owns terms; these lie in blocks that are neither its own nor B. -/
def OwnTl (w : World) (base B : Nat) (v : Value) (ks : List Tm) : Prop := ∃ qs, w.ownsRow base 24 4 v qs.length (flatQ qs) ∧ QsOk (PvL w base B v) w qs ks

theorem OwnTl.nil (w : World) (base B : Nat) : OwnTl w base B (.slice none 0 0) [] := ⟨[], World.ownsRow_nil _ _ _ _, ⟨rfl, fun i q t h => by simp at h⟩⟩
theorem OwnTl.empty (w : World) (base B : Nat) (hb : base ≤ w.heap.size) : OwnTl (w.alloc (.cells #[] 24)) base B (.slice (some ⟨w.heap.size, 0, none⟩) 0 0) [] :=
  ⟨[], ⟨rfl, Or.inr ⟨w.heap.size, 0, #[], rfl, hb, Go.Deep.blk_alloc_new _ _, Nat.le_refl _, Nat.zero_le _, rfl, rfl⟩⟩, ⟨rfl, fun i q t h => by simp at h⟩⟩
theorem OwnTl.lt {w : World} {base B : Nat} {v : Value} {ks : List Tm} (h : OwnTl w base B v ks) : ∀ k, v.ownBlock = some k → base ≤ k := fun k hk => by
  obtain ⟨qs, h1, _⟩ := h
  exact (World.ownsRow.lt h1 k hk).1
theorem OwnTl.lt2 {w : World} {base B : Nat} {v : Value} {ks : List Tm} (h : OwnTl w base B v ks) : ∀ k, v.ownBlock = some k → k < w.heap.size := fun k hk => by
  obtain ⟨qs, h1, _⟩ := h
  exact (World.ownsRow.lt h1 k hk).2
theorem OwnTl.form {w : World} {base B : Nat} {v : Value} {ks : List Tm} (h : OwnTl w base B v ks) : ∃ a c, v = .slice a ks.length c := by
  obtain ⟨qs, h1, h2⟩ := h
  rw [h2.1] at h1
  rcases h1.2 with ⟨rfl, e⟩ | ⟨g, cap, cur, rfl, _⟩
  · exact ⟨none, 0, by rw [e]⟩
  · exact ⟨_, _, rfl⟩
/-- It stays where neither its row nor what its terms lie in has turned. -/
theorem OwnTl.kept {w w' : World} {base B : Nat} {v : Value} {ks : List Tm} (h : OwnTl w base B v ks) (hs : w.heap.size ≤ w'.heap.size) (hk : ∀ b, b < w.heap.size → b ≠ B → w'.heap[b]? = w.heap[b]?) (hB : v.ownBlock ≠ some B) : OwnTl w' base B v ks := by
  obtain ⟨qs, h1, h2⟩ := h
  refine ⟨qs, ?_, h2.carry (fun b hb => hk b hb.1 hb.2.2.1) (fun b hb => ⟨Nat.lt_of_lt_of_le hb.1 hs, hb.2⟩)⟩
  obtain ⟨hl, ⟨h0, h1⟩ | ⟨g, cap, cur, h0, hg, hh, r⟩⟩ := h1
  · exact ⟨hl, Or.inl ⟨h0, h1⟩⟩
  · refine ⟨hl, Or.inr ⟨g, cap, cur, h0, hg, ?_, r⟩⟩
    rw [hk g (Array.getElem?_eq_some_iff.1 hh).1 (fun e => hB (by rw [h0, e]; rfl))]
    exact hh
theorem OwnTl.alloc {w : World} {base B : Nat} {v : Value} {ks : List Tm} (h : OwnTl w base B v ks) (hB : v.ownBlock ≠ some B) (o : Obj) : OwnTl (w.alloc o) base B v ks :=
  h.kept (by simp) (fun b hb _ => Below.heap_alloc w o b hb) hB
theorem OwnTl.ts {w : World} {base B : Nat} {v : Value} {ks : List Tm} (h : OwnTl w base B v ks) : TsIn (fun b => base ≤ b ∧ b < w.heap.size) w v ks := by
  obtain ⟨qs, h1, h2⟩ := h
  rw [h2.1] at h1
  obtain ⟨_, ⟨rfl, h0⟩ | ⟨g, cap, cur, rfl, hg, hh, hc1, hc2, hc3, hc4⟩⟩ := h1
  · obtain rfl : ks = [] := List.eq_nil_of_length_eq_zero h0
    exact noTs _ _
  · refine ⟨some ⟨g, 0, none⟩, cap, rfl, hc1, hc2, (fun h => by cases h), fun i hi => ?_⟩
    have hq : i < qs.length := by rw [h2.1]; exact hi
    obtain ⟨⟨a, l, c, e⟩, hT⟩ := h2.2 i qs[i] ks[i] (List.getElem?_eq_getElem hq) (List.getElem?_eq_getElem hi)
    obtain ⟨g0, g1, g2, g3⟩ := flatQ_get qs i qs[i] (List.getElem?_eq_getElem hq)
    have cell : ∀ j, j < ks.length * 4 → w.cell? ⟨g, j, none⟩ = (flatQ qs)[j]? := fun j hj => by
      rw [← hc4, List.getElem?_take_of_lt hj]
      simp [World.cell?, hh]
    refine ⟨g, 0, qs[i].1, qs[i].2.1, qs[i].2.2.1, a, l, c, rfl, ⟨hg, (Array.getElem?_eq_some_iff.1 hh).1⟩, ?_, ?_, ?_, ?_, ?_⟩
    · rw [Nat.zero_add, cell _ (by omega)]; exact g0
    · rw [Nat.zero_add, cell _ (by omega)]; exact g1
    · rw [Nat.zero_add, cell _ (by omega)]; exact g2
    · rw [Nat.zero_add, cell _ (by omega), g3, e]
    · have hT' := hT.carry (q := fun b => base ≤ b ∧ b < w.heap.size) (B := w) (fun _ _ => rfl) (fun b hb => ⟨hb.2.2.2, hb.1⟩)
      unfold qval at hT'
      rw [e] at hT'
      exact hT'

/-- append, run. -/
theorem run_append_tl {w : World} (ty : TypeId) (base B : Nat) (v u : Value) (ks ls : List Tm) (hown : OwnTl w base B v ks) (hsrc : TsIn (PvL w base B v) w u ls) (hl : ks.length + ls.length ≤ 1000000000000) (hbase : base ≤ w.heap.size) (hB : B < w.heap.size) :
    ∃ v' w', (Builtin.append_ #[22, 22] ty #[v, u]).run Try.prog w = .ok v' w' ∧ OwnTl w' base B v' (ks ++ ls) ∧ w.grownBy w' v.ownBlock ∧ (v'.ownBlock = v.ownBlock ∨ v'.ownBlock = some w.heap.size) := by
  obtain ⟨i0, hi, hz0, hz1, hz2⟩ := info_parts infoTerm
  obtain ⟨qs, h1, h2⟩ := hown
  obtain ⟨a, cap, rs, rfl, h3, h4, h5⟩ := src_quads hsrc
  cases a with
  | none =>
    obtain ⟨rfl, rfl⟩ := h3 rfl
    refine ⟨v, w, run_append_owned_none w base 22 ty 24 i0 4 Try.underlying22 hi v qs.length (flatQ qs) h1, ⟨qs, h1, by rw [List.append_nil]; exact h2⟩, ⟨rfl, rfl, rfl, Nat.le_refl _, fun _ _ _ => rfl⟩, Or.inl rfl⟩
  | some ad =>
    have hql : qs.length = ks.length := h2.1
    have hrl : rs.length = ls.length := h4.1
    obtain ⟨v', w', hr, ho, hg, _, hat⟩ := run_append_own_at (P := Try.prog) w base 22 ty 24 i0 _ 4 56 Try.underlying22 hi hz0 hz1 hz2 rfl (by decide) v qs.length (flatQ qs) h1 ad ls.length cap (flatQ rs) (by rw [flatQ_length, hrl]) (h5 ad rfl) (flatQ_one h4) (by unfold maxLen; omega) (by omega) hbase
    refine ⟨v', w', hr, ⟨qs ++ rs, ?_, ?_⟩, hg, hat⟩
    · rw [List.length_append, flatQ_append, hrl]; exact ho
    · refine (h2.append h4).carry (fun b hb => hg.block b hb.1 (fun e => hb.2.1 e.symm)) (fun b hb => ⟨Nat.lt_of_lt_of_le hb.1 hg.size, fun e => ?_, hb.2.2⟩)
      rcases hat with hat | hat
      · exact hb.2.1 (hat.symm.trans e)
      · rw [hat] at e; injection e with e; have := hb.1; omega

/-- append, at a step of a region that draws its order. -/
theorem step_append_tl {w : World} {ops : Array Oper} {o : Oper} {a : Act} {K : Act → World → Prop} {Q : Exit → Act → World → Prop} {E : Prop} (hgd : o.guard = none) (s x : Operand)
    (ho : o.op = .call { callee := .builtin .append, args := #[s, x], argTypes := #[22, 22] })
    (base B : Nat) (v u : Value) (ks ls : List Tm) (hs : a.eval s = v) (hx : a.eval x = u) (hown : OwnTl w base B v ks) (hsrc : TsIn (PvL w base B v) w u ls) (hl : ks.length + ls.length ≤ 1000000000000) (hbase : base ≤ w.heap.size) (hB : B < w.heap.size)
    (h : ∀ v' w', OwnTl w' base B v' (ks ++ ls) → w.grownBy w' v.ownBlock → (v'.ownBlock = v.ownBlock ∨ v'.ownBlock = some w.heap.size) → K (a.put o.dst v') w') :
    if Region.wanted o (yielded ops a.tmps) = true then Oper.wp Try.prog o a w K Q else E := by
  have hw : Region.wanted o (yielded ops a.tmps) = true := by simp [Region.wanted, hgd]
  rw [if_pos hw]
  obtain ⟨v', w', hr, h2, h3, h4⟩ := run_append_tl o.type base B v u ks ls hown hsrc hl hbase hB
  unfold Oper.wp execOp
  simp only [ho, resolve, invoke, builtin, Sem.run_bind, Sem.run_pure, Result.andThen_ok, List.map_toArray, List.map_cons, List.map_nil, hs, hx, hr]
  exact h v' w' h2 h3 h4


end Go.Proofs.Ytlnggaepmclbkaa
