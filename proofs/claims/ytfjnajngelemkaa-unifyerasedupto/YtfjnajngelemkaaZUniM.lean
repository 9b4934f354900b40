/-
  Terms made one, apart from memory: good terms, what they come to, their steps and runs.
-/
import Derived.Test.YtfjnajngelemkaaZStoS
import Derived.Test.YtfjnajngelemkaaZSealM
namespace Go.Proofs.Ytfjnajngelemkaa
open Go.RowKit Go.Shelf
open Classical
set_option linter.unusedVariables false
set_option linter.unusedSimpArgs false

abbrev e0 : ByteArray := ByteArray.mk #[]
theorem e0_of {s : ByteArray} (h : s.toList = []) : s = e0 := by
  have h1 : s.data.toList = [] := by rw [← ByteArray.toList_eq]; exact h
  cases s with
  | mk d => have : d = #[] := by simpa using h1
            rw [this]

/-- No variable stands in it. -/
def NoV (T : Tm) : Prop := ∀ v, ¬ Occ v T
theorem k21 : (2 : Int) ≠ 1 := by decide
theorem k31 : (3 : Int) ≠ 1 := by decide
theorem k41 : (4 : Int) ≠ 1 := by decide
theorem k13 : (1 : Int) ≠ 3 := by decide
theorem k23 : (2 : Int) ≠ 3 := by decide
theorem k43 : (4 : Int) ≠ 3 := by decide
theorem k12 : (1 : Int) ≠ 2 := by decide
theorem k32 : (3 : Int) ≠ 2 := by decide
theorem k42 : (4 : Int) ≠ 2 := by decide
theorem k14 : (1 : Int) ≠ 4 := by decide
theorem k24 : (2 : Int) ≠ 4 := by decide
theorem k34 : (3 : Int) ≠ 4 := by decide
theorem NoV.kid {k n : Int} {s : ByteArray} {ks : List Tm} (h : NoV (.mk k n s ks)) {t : Tm} (ht : t ∈ ks) : NoV t := fun v hv => h v (.kid ht hv)
theorem NoV.kind {T : Tm} (h : NoV T) : T.kind ≠ 1 := by
  obtain ⟨k, n, s, ks⟩ := T
  intro e
  have e : k = 1 := e
  subst e
  exact h n (.here rfl)

/-- Terms that may be, over N levels. -/
inductive GV (N : Nat) : Tm → Prop
  | var (n : Int) : GV N (.mk 1 n e0 [])
  | int (n : Int) : GV N (.mk 2 n e0 [])
  | fn (s : ByteArray) (ks : List Tm) (h : ∀ t ∈ ks, GV N t) : GV N (.mk 3 0 s ks)
  | box (l : Nat) (t : Tm) (hl : l < N) (h : GV N t) (hg : NoV t) : GV N (.mk 4 (l : Int) e0 [t])

theorem gv_of_valid {N : Nat} (T : Tm) : T.valid (N : Int) = true → GV N T := by
  induction T using Tm.ind with
  | h k n s ks ih =>
    intro h
    rw [valid_mk, Bool.and_eq_true] at h
    obtain ⟨hf, hk⟩ := h
    have hk' : ∀ t ∈ ks, GV N t := fun t ht => ih t ht (List.all_eq_true.1 hk t ht)
    rw [Tm.formed_eq _ k n s ks ks.length rfl] at hf
    by_cases h1 : k = 1
    · subst h1
      rw [if_pos rfl] at hf
      simp only [Bool.and_eq_true, decide_eq_true_eq] at hf
      have e1 := e0_of hf.1.2
      have e2 := List.eq_nil_of_length_eq_zero hf.2
      subst e1 e2
      exact .var n
    rw [if_neg h1] at hf
    by_cases h2 : k = 2
    · subst h2
      rw [if_pos rfl] at hf
      simp only [Bool.and_eq_true, decide_eq_true_eq] at hf
      have e1 := e0_of hf.1
      have e2 := List.eq_nil_of_length_eq_zero hf.2
      subst e1 e2
      exact .int n
    rw [if_neg h2] at hf
    by_cases h3 : k = 3
    · subst h3
      rw [if_pos rfl] at hf
      simp only [Bool.and_eq_true, decide_eq_true_eq] at hf
      have e1 := hf.1.1
      subst e1
      exact .fn s ks hk'
    rw [if_neg h3] at hf
    by_cases h4 : k = 4
    · subst h4
      rw [if_pos rfl] at hf
      simp only [Bool.and_eq_true, decide_eq_true_eq] at hf
      obtain ⟨⟨⟨⟨a1, a2⟩, a3⟩, a4⟩, a5⟩ := hf
      have e1 := e0_of a1
      subst e1
      obtain ⟨t, rfl⟩ : ∃ t, ks = [t] := by
        match ks, a4 with
        | [t], _ => exact ⟨t, rfl⟩
      obtain ⟨l, rfl⟩ : ∃ l : Nat, n = (l : Int) := ⟨n.toNat, by omega⟩
      exact .box l t (by omega) (hk' t (by simp)) fun v hv => ground_occ a5 v (.kid (by simp) hv)
    · rw [if_neg h4] at hf; cases hf

/-- What variables are bound to is good. -/
def St.Gv (N : Nat) (σ : St) : Prop := ∀ (x : Nat) (U : Tm), σ.vs[x]? = some (some U) → GV N U
theorem ends_gv {N : Nat} {σ : St} (hV : σ.Gv N) {n : Nat} {T X : Tm} (h : EndsN σ n T X) : GV N T → GV N X := by
  induction h with
  | stop _ => exact id
  | step h1 _ ih => intro _; obtain ⟨_, x, _, hx⟩ := St.val_some h1; exact ih (hV x _ hx)
theorem fin_gv {N : Nat} {σ : St} (hr : σ.Ranked) (hV : σ.Gv N) {T : Tm} (h : GV N T) : GV N (σ.fin T) := by
  obtain ⟨n, hn⟩ := hr.fin T
  exact ends_gv hV hn h
theorem fin_step {σ : St} (hr : σ.Ranked) {T U : Tm} (h : σ.val T = some U) : σ.fin T = σ.fin U := by
  obtain ⟨n, hn⟩ := hr.fin U
  exact (EndsN.step h hn).fin
theorem fin_fin {σ : St} (hr : σ.Ranked) (T : Tm) : σ.fin (σ.fin T) = σ.fin T := St.fin_free (hr.val_fin T)
theorem fin_non {σ : St} {T : Tm} (h : T.kind ≠ 1) : σ.fin T = T := St.fin_free (St.val_ne h)

/-- What a term comes to: full, and erased. -/
inductive Ev (σ : St) : Tm → Tm → Prop
  | sl {T : Tm} {n : Int} {s : ByteArray} {t x : Tm} (h : σ.fin T = .mk 4 n s [t]) (g : Ev σ t x) : Ev σ T x
  | mk {T : Tm} {k n : Int} {s : ByteArray} {ks xs : List Tm} (h : σ.fin T = .mk k n s ks) (hw : ¬ (k = 4 ∧ ks.length = 1)) (hl : xs.length = ks.length)
      (g : ∀ (i : Nat) (t u : Tm), ks[i]? = some t → xs[i]? = some u → Ev σ t u) : Ev σ T (.mk k n s xs)
theorem Ev.same {σ : St} {T x : Tm} (h : Ev σ T x) : ∀ {y : Tm}, Ev σ T y → x = y := by
  induction h with
  | sl h g ih =>
    intro y hy
    cases hy with
    | sl h' g' => rw [h] at h'; cases h'; exact ih g'
    | mk h' hw _ _ => rw [h] at h'; cases h'; exact absurd ⟨rfl, rfl⟩ hw
  | @mk T k n s ks xs h hw hl g ih =>
    intro y hy
    cases hy with
    | sl h' g' => rw [h] at h'; cases h'; exact absurd ⟨rfl, rfl⟩ hw
    | @mk _ _ _ _ _ ys h' _ hl' g' =>
      rw [h] at h'; cases h'
      congr 1
      refine List.ext_getElem? fun i => ?_
      by_cases hi : i < ks.length
      · have e1 := List.getElem?_eq_getElem hi
        have e2 := List.getElem?_eq_getElem (show i < xs.length by omega)
        have e3 := List.getElem?_eq_getElem (show i < ys.length by omega)
        rw [e2, e3, ih i _ _ e1 e2 (g' i _ _ e1 e3)]
      · rw [List.getElem?_eq_none (by omega), List.getElem?_eq_none (by omega)]
theorem Ev.of_fin {σ : St} {T U x : Tm} (h : Ev σ T x) (e : σ.fin T = σ.fin U) : Ev σ U x := by
  cases h with
  | sl h g => exact .sl (e ▸ h) g
  | mk h hw hl g => exact .mk (e ▸ h) hw hl g
def EV (σ : St) (a b : Tm) : Prop := ∃ x, Ev σ a x ∧ Ev σ b x

mutual
/-- A term in the place of a variable. -/
def Tm.sub (v : Int) (b : Tm) : Tm → Tm
  | .mk k n s ks => if k = 1 ∧ n = v then b else .mk k n s (Tm.subs v b ks)
def Tm.subs (v : Int) (b : Tm) : List Tm → List Tm
  | [] => []
  | t :: ts => Tm.sub v b t :: Tm.subs v b ts
end
theorem Tm.subs_eq (v : Int) (b : Tm) : ∀ ks : List Tm, Tm.subs v b ks = ks.map (Tm.sub v b)
  | [] => by rw [Tm.subs]; rfl
  | t :: ts => by rw [Tm.subs, Tm.subs_eq v b ts]; rfl

theorem bind_val {σ : St} {v : Nat} {B : Tm} (hv : σ.vs[v]? = some none) {T U : Tm} (h : σ.val T = some U) : (σ.bind v B).val T = some U := by
  obtain ⟨h1, x, h2, h3⟩ := St.val_some h
  unfold St.val
  rw [if_pos h1, h2, St.look_nat]
  have hne : v ≠ x := fun e => by subst e; rw [hv] at h3; cases h3
  show ((σ.vs.set v (some B))[x]?).join = _
  rw [List.getElem?_set, if_neg hne, h3]; rfl
theorem bind_val_free {σ : St} {v : Nat} {B : Tm} {T : Tm} (h : σ.val T = none) (hn : ¬ (T.kind = 1 ∧ T.num = (v : Int))) : (σ.bind v B).val T = none := by
  unfold St.val at h ⊢
  by_cases h1 : T.kind = 1
  · rw [if_pos h1] at h ⊢
    unfold St.look at h ⊢
    split
    · rename_i h0
      rw [if_pos h0] at h
      show ((σ.vs.set v (some B))[T.num.toNat]?).join = _
      rw [List.getElem?_set, if_neg (fun e => hn ⟨h1, by omega⟩)]
      exact h
    · rfl
  · rw [if_neg h1]
theorem bind_val_self {σ : St} {v : Nat} {B : Tm} (hv : σ.vs[v]? = some none) {T : Tm} (h1 : T.kind = 1) (h2 : T.num = (v : Int)) : (σ.bind v B).val T = some B := by
  unfold St.val
  rw [if_pos h1, h2, St.look_nat]
  show ((σ.vs.set v (some B))[v]?).join = _
  rw [List.getElem?_set, if_pos rfl, if_pos (List.getElem?_eq_some_iff.1 hv).1]; rfl
theorem bind_fin {σ : St} {v : Nat} {B : Tm} (hv : σ.vs[v]? = some none) (hr' : (σ.bind v B).Ranked) {n : Nat} {T X : Tm} (h : EndsN σ n T X) : (σ.bind v B).fin T = (σ.bind v B).fin X := by
  induction h with
  | stop _ => rfl
  | step h1 _ ih => rw [← ih]; exact fin_step hr' (bind_val hv h1)
theorem Ev.bind {σ : St} (hr : σ.Ranked) {v : Nat} {B b : Tm} (hv : σ.vs[v]? = some none) (hr' : (σ.bind v B).Ranked) (hb : ∀ s ks, Ev (σ.bind v B) (.mk 1 (v : Int) s ks) b) {T x : Tm} (h : Ev σ T x) : Ev (σ.bind v B) T (Tm.sub (v : Int) b x) := by
  induction h with
  | @sl T n s t x h g ih =>
    obtain ⟨m, hm⟩ := hr.fin T
    have hf := bind_fin hv hr' hm
    have h0 := hm.free
    rw [h] at hf h0
    refine .sl (n := n) (s := s) ?_ ih
    rw [hf, St.fin_free (bind_val_free h0 (fun e => absurd e.1 (by decide : (4 : Int) ≠ 1)))]
  | @mk T k n s ks xs h hw hl g ih =>
    obtain ⟨m, hm⟩ := hr.fin T
    have hf := bind_fin hv hr' hm
    have h0 := hm.free
    rw [h] at hf h0
    rw [Tm.sub]
    by_cases e : k = 1 ∧ n = (v : Int)
    · rw [if_pos e]
      obtain ⟨rfl, rfl⟩ := e
      exact (hb s ks).of_fin hf.symm
    · rw [if_neg e, Tm.subs_eq]
      refine .mk (by rw [hf, St.fin_free (bind_val_free h0 e)]) hw (by rw [List.length_map, hl]) fun i t u ht hu => ?_
      rw [List.getElem?_map] at hu
      cases hx : xs[i]? with
      | none => rw [hx] at hu; cases hu
      | some y => rw [hx] at hu; cases hu; exact ih i t y ht hx

theorem exists_list {R : Tm → Tm → Prop} : ∀ {ks : List Tm}, (∀ t ∈ ks, ∃ x, R t x) → ∃ xs : List Tm, xs.length = ks.length ∧ ∀ (i : Nat) (t u : Tm), ks[i]? = some t → xs[i]? = some u → R t u
  | [], _ => ⟨[], rfl, fun i t u h => by simp at h⟩
  | k :: ks, h => by
    obtain ⟨x, hx⟩ := h k (by simp)
    obtain ⟨xs, h1, h2⟩ := exists_list (ks := ks) fun t ht => h t (by simp [ht])
    refine ⟨x :: xs, by simp [h1], fun i t u ht hu => ?_⟩
    cases i with
    | zero => simp at ht hu; subst ht hu; exact hx
    | succ i => exact h2 i t u (by simpa using ht) (by simpa using hu)
theorem occ_Occ {y : Int} (T : Tm) : y ∈ T.occ → Occ y T := by
  induction T using Tm.ind with
  | h k n s ks ih =>
    intro h
    rcases Tm.mem_occ.1 h with ⟨rfl, rfl⟩ | ⟨_, _, t, ht, hy⟩
    · exact .here rfl
    · exact .kid ht (ih t ht hy)
theorem ev_total {N : Nat} {σ : St} (hr : σ.Ranked) (hg : σ.Gv N) {T : Tm} (hT : GV N T) : ∃ x, Ev σ T x := by
  have hr0 := hr
  obtain ⟨r, hr⟩ := hr
  suffices hs : ∀ (m : Nat) (T : Tm), GV N T → (∀ y : Nat, (y : Int) ∈ T.occ → r y < m) → ∃ x, Ev σ T x by
    refine hs ((T.occ.map fun y => r y.toNat).sum + 1) T hT fun y hy => ?_
    have := mem_le_sum (fun y => r y.toNat) _ _ hy
    simp only [Int.toNat_natCast] at this
    omega
  intro m
  induction m with
  | zero =>
    intro T hT
    induction hT with
    | var n =>
      intro ho
      cases hv : σ.val (.mk 1 n e0 []) with
      | none => exact ⟨_, .mk (xs := []) (St.fin_free hv) (fun e => by cases e.2) rfl fun i t u h => by simp at h⟩
      | some U =>
        obtain ⟨_, x, h2, h3⟩ := St.val_some hv
        exact absurd (ho x (Tm.mem_occ.2 (.inl ⟨rfl, h2.symm⟩))) (Nat.not_lt_zero _)
    | int n => intro _; exact ⟨_, .mk (xs := []) (fin_non k21) (fun e => by cases e.2) rfl fun i t u h => by simp at h⟩
    | fn s ks h ih =>
      intro ho
      obtain ⟨xs, h1, h2⟩ := exists_list (R := Ev σ) (ks := ks) fun t ht => ih t ht fun y hy => ho y (Tm.mem_occ.2 (.inr ⟨by decide, by decide, t, ht, hy⟩))
      exact ⟨_, .mk (fin_non k31) (fun e => absurd e.1 k34) h1 h2⟩
    | box l t hl h hgr ih =>
      intro _
      obtain ⟨x, hx⟩ := ih fun y hy => absurd (occ_Occ _ hy) (hgr _)
      exact ⟨x, .sl (fin_non k41) hx⟩
  | succ m ihm =>
    intro T hT
    induction hT with
    | var n =>
      intro ho
      cases hv : σ.val (.mk 1 n e0 []) with
      | none => exact ⟨_, .mk (xs := []) (St.fin_free hv) (fun e => by cases e.2) rfl fun i t u h => by simp at h⟩
      | some U =>
        obtain ⟨_, x, h2, h3⟩ := St.val_some hv
        have hx := ho x (Tm.mem_occ.2 (.inl ⟨rfl, h2.symm⟩))
        obtain ⟨z, hz⟩ := ihm U (hg x U h3) fun y hy => by have := hr x U h3 y hy; omega
        exact ⟨z, hz.of_fin (fin_step hr0 hv).symm⟩
    | int n => intro _; exact ⟨_, .mk (xs := []) (fin_non k21) (fun e => by cases e.2) rfl fun i t u h => by simp at h⟩
    | fn s ks h ih =>
      intro ho
      obtain ⟨xs, h1, h2⟩ := exists_list (R := Ev σ) (ks := ks) fun t ht => ih t ht fun y hy => ho y (Tm.mem_occ.2 (.inr ⟨by decide, by decide, t, ht, hy⟩))
      exact ⟨_, .mk (fin_non k31) (fun e => absurd e.1 k34) h1 h2⟩
    | box l t hl h hgr ih =>
      intro _
      obtain ⟨x, hx⟩ := ih fun y hy => absurd (occ_Occ _ hy) (hgr _)
      exact ⟨x, .sl (fin_non k41) hx⟩
theorem EV.refl {N : Nat} {σ : St} (hr : σ.Ranked) (hg : σ.Gv N) {T : Tm} (hT : GV N T) : EV σ T T := by
  obtain ⟨x, hx⟩ := ev_total hr hg hT
  exact ⟨x, hx, hx⟩
theorem EV.trans {σ : St} {a b c : Tm} (h : EV σ a b) (g : EV σ b c) : EV σ a c := by
  obtain ⟨x, h1, h2⟩ := h
  obtain ⟨y, g1, g2⟩ := g
  have e := h2.same g1
  subst e
  exact ⟨x, h1, g2⟩
theorem EV.symm {σ : St} {a b : Tm} (h : EV σ a b) : EV σ b a := by obtain ⟨x, h1, h2⟩ := h; exact ⟨x, h2, h1⟩

theorem fill_ev {σ : St} : ∀ f left T x l, σ.fill f left T = .ok x l → Ev σ T x.er
  | 0, left, T, a, l, h => by rw [St.fill] at h; cases h
  | f + 1, left, T, a, l, h => by
    obtain ⟨us, hus, rfl⟩ := fill_ok h
    obtain ⟨hlen, hi⟩ := fillL_each _ _ _ _ hus
    have hE : σ.fin T = .mk (σ.fin T).kind (σ.fin T).num (σ.fin T).name (σ.fin T).kids := (Tm.eta _).symm
    have key : ∀ (i : Nat) (t u : Tm), (σ.fin T).kids[i]? = some t → us[i]? = some u → Ev σ t u.er := fun i t u ht hu => by
      obtain ⟨u', l1, l2, e1, e2⟩ := hi i t ht
      rw [hu] at e1
      cases e1
      exact fill_ev f l1 t u l2 e2
    by_cases hw : (σ.fin T).kind = 4 ∧ (σ.fin T).kids.length = 1
    · obtain ⟨t, h4, ht⟩ := wraps_form (n := 0) (s := e0) hw
      rw [ht] at hlen key
      obtain ⟨u, hu⟩ : ∃ u, us = [u] := by
        match us, hlen with
        | [u], _ => exact ⟨u, rfl⟩
      subst hu
      rw [h4, Tm.er_wraps]
      rw [h4, ht] at hE
      exact .sl hE (key 0 t u rfl rfl)
    · rw [Tm.er_else (by rw [hlen]; exact hw)]
      refine .mk hE hw (by rw [List.length_map, hlen]) fun i t u ht hu => ?_
      rw [List.getElem?_map] at hu
      cases hx : us[i]? with
      | none => rw [hx] at hu; cases hu
      | some y => rw [hx] at hu; cases hu; exact key i t y ht hx

/-! Opening -/
theorem strip_gv {N : Nat} {T : Tm} (h : GV N T) : T.kind ≠ 1 → ∀ a, (∃ n, (T.strip Nat.max (lvC N) a).1 = .mk 2 n e0 []) ∨ (∃ s ks, (T.strip Nat.max (lvC N) a).1 = .mk 3 0 s ks ∧ (∀ t ∈ ks, GV N t) ∧ ((T.kind = 4 ∨ NoV T) → ∀ t ∈ ks, NoV t)) := by
  induction h with
  | var n => intro h; exact absurd rfl h
  | int n => intro _ a; rw [Tm.strip_else (fun e => absurd e.1 k24)]; exact .inl ⟨n, rfl⟩
  | fn s ks h ih =>
    intro _ a
    rw [Tm.strip_else (fun e => absurd e.1 k34)]
    refine .inr ⟨s, ks, rfl, h, fun e t ht => ?_⟩
    rcases e with e | e
    · exact absurd e k34
    · exact e.kid ht
  | box l t hl h hg ih =>
    intro _ a
    rw [Tm.strip_wraps]
    rcases ih hg.kind (Nat.max a (lvC N l)) with ⟨n, e⟩ | ⟨s, ks, e, h1, h2⟩
    · exact .inl ⟨n, e⟩
    · exact .inr ⟨s, ks, e, h1, fun _ => h2 (.inr hg)⟩
theorem GV.wraps {N : Nat} {T : Tm} (h : GV N T) : T.wrapsT = true ↔ T.kind = 4 := by
  cases h with
  | var n => exact ⟨fun e => (Bool.noConfusion (e.symm.trans (rfl : (Tm.mk 1 n e0 []).wrapsT = false))), fun e => absurd e k14⟩
  | int n => exact ⟨fun e => (Bool.noConfusion (e.symm.trans (rfl : (Tm.mk 2 n e0 []).wrapsT = false))), fun e => absurd e k24⟩
  | fn s ks h => exact ⟨fun e => (Bool.noConfusion (e.symm.trans (show (Tm.mk 3 0 s ks).wrapsT = false from decide_eq_false (p := (3 : Int) = 4 ∧ ks.length = 1) (fun e => absurd e.1 k34)))), fun e => absurd e k34⟩
  | box l t hl h hg => exact ⟨fun _ => rfl, fun _ => (rfl : (Tm.mk 4 (l : Int) e0 [t]).wrapsT = true)⟩
theorem open_gv {N : Nat} (hN : 1 ≤ N) {T : Tm} (h : GV N T) (hk : T.kind ≠ 1) : (∃ n, (T.openC N).1 = .mk 2 n e0 []) ∨ (∃ s ks, (T.openC N).1 = .mk 3 0 s ks ∧ ∀ t ∈ ks, GV N t) := by
  cases hw : T.wrapsT with
  | true =>
    rw [openC_pos hw]
    have h4 := h.wraps.1 hw
    have hl := strip_lt hN T 0 (by omega)
    rcases strip_gv h hk 0 with ⟨n, e⟩ | ⟨s, ks, e, h1, h2⟩
    · left; refine ⟨n, ?_⟩; simp only; rw [e]; rfl
    · right
      refine ⟨s, ks.map fun t => putT t ((T.strip Nat.max (lvC N) 0).2 : Nat), by simp only; rw [e]; rfl, fun u hu => ?_⟩
      obtain ⟨t, ht, rfl⟩ := List.mem_map.1 hu
      exact .box _ t hl (h1 t ht) (h2 (.inl h4) t ht)
  | false =>
    rw [openC_neg hw]
    cases h with
    | var n => exact absurd rfl hk
    | int n => exact .inl ⟨n, rfl⟩
    | fn s ks h => exact .inr ⟨s, ks, rfl, h⟩
    | box l t hl h hg => exact Bool.noConfusion (hw.symm.trans (rfl : (Tm.mk 4 (l : Int) e0 [t]).wrapsT = true))
theorem ev_strip {N : Nat} {σ : St} {T : Tm} (h : GV N T) : T.kind ≠ 1 → ∀ a x, Ev σ T x → Ev σ (T.strip Nat.max (lvC N) a).1 x := by
  induction h with
  | var n => intro h; exact absurd rfl h
  | int n => intro _ a x hx; rw [Tm.strip_else (fun e => absurd e.1 k24)]; exact hx
  | fn s ks h ih => intro _ a x hx; rw [Tm.strip_else (fun e => absurd e.1 k34)]; exact hx
  | box l t hl h hg ih =>
    intro _ a x hx
    rw [Tm.strip_wraps]
    refine ih hg.kind _ x ?_
    have hf : σ.fin (.mk 4 (l : Int) e0 [t]) = .mk 4 (l : Int) e0 [t] := fin_non k41
    cases hx with
    | sl h' g => rw [hf] at h'; cases h'; exact g
    | mk h' hw _ _ => rw [hf] at h'; cases h'; exact absurd ⟨rfl, rfl⟩ hw
theorem ev_over {σ : St} {C : Tm} (hk : C.kind ≠ 1) (hw : C.wrapsT = false) (l : Int) {x : Tm} (h : Ev σ C x) : Ev σ (C.over' l) x := by
  obtain ⟨k, n, s, ks⟩ := C
  have hw' : ¬ (k = 4 ∧ ks.length = 1) := of_decide_eq_false hw
  have hf : σ.fin (.mk k n s ks) = .mk k n s ks := fin_non hk
  cases h with
  | sl h' g => rw [hf] at h'; cases h'; exact absurd ⟨rfl, rfl⟩ hw'
  | @mk _ _ _ _ _ xs h' _ hl g =>
    rw [hf] at h'; cases h'
    refine .mk (ks := ks.map fun t => putT t l) (fin_non hk) (by rw [List.length_map]; exact hw') (by rw [List.length_map, hl]) fun i t u ht hu => ?_
    rw [List.getElem?_map] at ht
    cases hx : ks[i]? with
    | none => rw [hx] at ht; cases ht
    | some y => rw [hx] at ht; cases ht; exact .sl (t := y) (fin_non k41) (g i y u hx hu)
theorem ev_open {N : Nat} {σ : St} {T : Tm} (h : GV N T) (hk : T.kind ≠ 1) {x : Tm} (hx : Ev σ T x) : Ev σ (T.openC N).1 x := by
  cases hw : T.wrapsT with
  | true =>
    rw [openC_pos hw]
    have h1 := ev_strip h hk 0 x hx
    refine ev_over ?_ (strip_end T 0) _ h1
    rcases strip_gv h hk 0 with ⟨n, e⟩ | ⟨s, ks, e, _⟩ <;> rw [e]
    · exact k21
    · exact k31
  | false => rw [openC_neg hw]; exact hx
end Go.Proofs.Ytfjnajngelemkaa
