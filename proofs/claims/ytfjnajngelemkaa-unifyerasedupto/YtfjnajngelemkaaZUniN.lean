/-
  Steps and runs: what is good stays good; what was made one is; what is one is made one again.
-/
import Derived.Test.YtfjnajngelemkaaZUniM
namespace Go.Proofs.Ytfjnajngelemkaa
open Go.RowKit Go.Shelf
open Classical
set_option linter.unusedVariables false
set_option linter.unusedSimpArgs false

structure Stp where
  ks : List (Tm × Tm)
  lv : Nat
  ok : Bool
  σ : St

noncomputable def St.link (σ : St) (A B : Tm) : Bool × St :=
  if A.kind = 1 ∧ B.kind = 1 ∧ A.num = B.num then (true, σ)
  else if A.kind = 1 then (if σ.bindE A.num B = 0 then (true, σ.bind A.num.toNat B) else (false, σ))
  else (if σ.bindE B.num A = 0 then (true, σ.bind B.num.toNat A) else (false, σ))

noncomputable def St.stp (N : Nat) (σ : St) (A B : Tm) : Stp :=
  if A.kind = 1 ∨ B.kind = 1 then ⟨[], 0, (σ.link A B).1, (σ.link A B).2⟩
  else if (A.openC N).1.kind = 2 ∧ (B.openC N).1.kind = 2 then ⟨[], max (A.openC N).2 (B.openC N).2, decide ((A.openC N).1.num = (B.openC N).1.num), σ⟩
  else if (A.openC N).1.kind = 3 ∧ (B.openC N).1.kind = 3 ∧ (A.openC N).1.name = (B.openC N).1.name ∧ (A.openC N).1.kids.length = (B.openC N).1.kids.length then
    ⟨(A.openC N).1.kids.zip (B.openC N).1.kids, max (A.openC N).2 (B.openC N).2, true, σ⟩
  else ⟨[], max (A.openC N).2 (B.openC N).2, false, σ⟩

structure Out where
  is : Bool
  lv : Nat
  err : Int
  σ : St
noncomputable def run (N : Nat) : Nat → St → List (Tm × Tm) → Nat → Out
  | _, σ, [], lv => ⟨true, lv, 0, σ⟩
  | 0, σ, _ :: _, lv => ⟨false, lv, 3, σ⟩
  | f + 1, σ, p :: r, lv => if (σ.stp N (σ.fin p.1) (σ.fin p.2)).ok = true then run N f (σ.stp N (σ.fin p.1) (σ.fin p.2)).σ ((σ.stp N (σ.fin p.1) (σ.fin p.2)).ks ++ r) (max lv (σ.stp N (σ.fin p.1) (σ.fin p.2)).lv)
      else ⟨false, max lv (σ.stp N (σ.fin p.1) (σ.fin p.2)).lv, 0, (σ.stp N (σ.fin p.1) (σ.fin p.2)).σ⟩
theorem run_nil (N f : Nat) (σ : St) (lv : Nat) : run N f σ [] lv = ⟨true, lv, 0, σ⟩ := by cases f <;> rfl
theorem run_zero (N : Nat) (σ : St) (p : Tm × Tm) (r : List (Tm × Tm)) (lv : Nat) : run N 0 σ (p :: r) lv = ⟨false, lv, 3, σ⟩ := rfl
theorem run_succ (N f : Nat) (σ : St) (p : Tm × Tm) (r : List (Tm × Tm)) (lv : Nat) : run N (f + 1) σ (p :: r) lv = if (σ.stp N (σ.fin p.1) (σ.fin p.2)).ok = true then run N f (σ.stp N (σ.fin p.1) (σ.fin p.2)).σ ((σ.stp N (σ.fin p.1) (σ.fin p.2)).ks ++ r) (max lv (σ.stp N (σ.fin p.1) (σ.fin p.2)).lv)
      else ⟨false, max lv (σ.stp N (σ.fin p.1) (σ.fin p.2)).lv, 0, (σ.stp N (σ.fin p.1) (σ.fin p.2)).σ⟩ := rfl

theorem bindE_zero {σ : St} {v : Int} {T : Tm} (h : σ.bindE v T = 0) : ∃ n : Nat, v = (n : Int) ∧ σ.vs[n]? = some none ∧ ¬ Met σ (n : Int) T := by
  unfold St.bindE at h
  by_cases h1 : ¬ (0 ≤ v ∧ v < (σ.vs.length : Int))
  · rw [if_pos h1] at h; cases h
  rw [if_neg h1] at h
  by_cases h2 : ∃ U, σ.look v = some U
  · rw [if_pos h2] at h; cases h
  rw [if_neg h2] at h
  by_cases h3 : Met σ v T
  · rw [if_pos h3] at h; cases h
  obtain ⟨hv0, hv1⟩ : 0 ≤ v ∧ v < (σ.vs.length : Int) := Classical.not_not.1 h1
  obtain ⟨n, rfl⟩ : ∃ n : Nat, v = (n : Int) := ⟨v.toNat, by omega⟩
  refine ⟨n, rfl, ?_, h3⟩
  have hlt : n < σ.vs.length := by omega
  rw [St.look_nat] at h2
  rw [List.getElem?_eq_getElem hlt] at h2 ⊢
  cases hx : σ.vs[n] with
  | none => rfl
  | some U => exact absurd ⟨U, by rw [hx]; rfl⟩ h2

/-- What a link does: nothing, or it binds. -/
theorem link_cases (σ : St) (A B : Tm) : ((σ.link A B) = (true, σ) ∧ A.kind = 1 ∧ B.kind = 1 ∧ A.num = B.num) ∨ (σ.link A B).1 = false ∧ (σ.link A B).2 = σ ∨
    (∃ n : Nat, A.kind = 1 ∧ A.num = (n : Int) ∧ σ.vs[n]? = some none ∧ ¬ Met σ (n : Int) B ∧ σ.link A B = (true, σ.bind n B)) ∨
    (∃ n : Nat, A.kind ≠ 1 ∧ B.num = (n : Int) ∧ σ.vs[n]? = some none ∧ ¬ Met σ (n : Int) A ∧ σ.link A B = (true, σ.bind n A)) := by
  unfold St.link
  by_cases h1 : A.kind = 1 ∧ B.kind = 1 ∧ A.num = B.num
  · rw [if_pos h1]; exact .inl ⟨rfl, h1⟩
  rw [if_neg h1]
  by_cases h2 : A.kind = 1
  · rw [if_pos h2]
    by_cases h3 : σ.bindE A.num B = 0
    · rw [if_pos h3]
      obtain ⟨n, e, h4, h5⟩ := bindE_zero h3
      exact .inr (.inr (.inl ⟨n, h2, e, h4, h5, by rw [e]; rfl⟩))
    · rw [if_neg h3]; exact .inr (.inl ⟨rfl, rfl⟩)
  · rw [if_neg h2]
    by_cases h3 : σ.bindE B.num A = 0
    · rw [if_pos h3]
      obtain ⟨n, e, h4, h5⟩ := bindE_zero h3
      exact .inr (.inr (.inr ⟨n, h2, e, h4, h5, by rw [e]; rfl⟩))
    · rw [if_neg h3]; exact .inr (.inl ⟨rfl, rfl⟩)

/-- A store and a bound of its levels. -/
structure Good (N M : Nat) (σ : St) : Prop where
  ranked : σ.Ranked
  gv : σ.Gv N
  lv : ∀ (x : Nat) (U : Tm), σ.vs[x]? = some (some U) → U.jC N 0 ≤ M
structure GP (N M : Nat) (p : Tm × Tm) : Prop where
  a : GV N p.1
  b : GV N p.2
  la : p.1.jC N 0 ≤ M
  lb : p.2.jC N 0 ≤ M
theorem set_get {vs : List (Option Tm)} {v x : Nat} {B U : Tm} (h : (vs.set v (some B))[x]? = some (some U)) : (v = x ∧ U = B) ∨ vs[x]? = some (some U) := by
  rw [List.getElem?_set] at h
  split at h
  · split at h
    · rename_i e _; cases h; exact .inl ⟨e, rfl⟩
    · cases h
  · exact .inr h
theorem Good.bind {N M : Nat} {σ : St} (h : Good N M σ) {v : Nat} {B : Tm} (hv : σ.vs[v]? = some none) (hM : ¬ Met σ (v : Int) B) (hB : GV N B) (hl : B.jC N 0 ≤ M) : Good N M (σ.bind v B) := by
  refine ⟨h.ranked.bind (by rw [hv]; rfl) hM, fun x U hx => ?_, fun x U hx => ?_⟩ <;> rcases set_get hx with ⟨_, rfl⟩ | hx
  · exact hB
  · exact h.gv x U hx
  · exact hl
  · exact h.lv x U hx
theorem Good.fin {N M : Nat} {σ : St} (h : Good N M σ) {T : Tm} (hT : GV N T) (hl : T.jC N 0 ≤ M) : GV N (σ.fin T) ∧ (σ.fin T).jC N 0 ≤ M := by
  refine ⟨fin_gv h.ranked h.gv hT, ?_⟩
  obtain ⟨n, hn⟩ := h.ranked.fin T
  generalize σ.fin T = X at hn
  induction hn with
  | stop _ => exact hl
  | step h1 _ ih => obtain ⟨_, x, _, hx⟩ := St.val_some h1; exact ih (h.gv x _ hx) (h.lv x _ hx)
theorem kids_lv {N M : Nat} {T : Tm} (h : T.jC N 0 ≤ M) {t : Tm} (ht : t ∈ T.kids) : t.jC N 0 ≤ M := by
  obtain ⟨k, n, s, ks⟩ := T
  have h1 := jns_mem (N := N) (show t ∈ ks from ht)
  rw [jC_mk] at h
  split at h <;> omega
theorem open_lv {N M : Nat} (hN : 1 ≤ N) {T : Tm} (h : T.jC N 0 ≤ M) : (T.openC N).2 ≤ M ∧ ∀ t ∈ (T.openC N).1.kids, t.jC N 0 ≤ M := by
  have := openC_jC hN T
  exact ⟨by omega, fun t ht => kids_lv (by omega) ht⟩
theorem open_kids_gv {N : Nat} (hN : 1 ≤ N) {T : Tm} (h : GV N T) (hk : T.kind ≠ 1) : ∀ t ∈ (T.openC N).1.kids, GV N t := by
  rcases open_gv hN h hk with ⟨n, e⟩ | ⟨s, ks, e, h1⟩ <;> rw [e]
  · intro t ht; cases ht
  · exact h1
theorem stp_good {N M : Nat} (hN : 1 ≤ N) {σ : St} (h : Good N M σ) {A B : Tm} (hA : GV N A ∧ A.jC N 0 ≤ M) (hB : GV N B ∧ B.jC N 0 ≤ M) : Good N M (σ.stp N A B).σ ∧ (σ.stp N A B).lv ≤ M ∧ ∀ p ∈ (σ.stp N A B).ks, GP N M p := by
  unfold St.stp
  by_cases h1 : A.kind = 1 ∨ B.kind = 1
  · rw [if_pos h1]
    refine ⟨?_, Nat.zero_le _, fun p hp => by cases hp⟩
    show Good N M (σ.link A B).2
    rcases link_cases σ A B with ⟨e, _⟩ | ⟨_, e⟩ | ⟨n, _, _, h4, h5, e⟩ | ⟨n, _, _, h4, h5, e⟩
    · rw [e]; exact h
    · rw [e]; exact h
    · rw [e]; exact h.bind h4 h5 hB.1 hB.2
    · rw [e]; exact h.bind h4 h5 hA.1 hA.2
  rw [if_neg h1]
  have hAl := open_lv hN hA.2
  have hBl := open_lv hN hB.2
  have hm : max (A.openC N).2 (B.openC N).2 ≤ M := by have := hAl.1; have := hBl.1; omega
  split
  · exact ⟨h, hm, fun p hp => by cases hp⟩
  split
  · refine ⟨h, hm, fun p hp => ?_⟩
    have ha := List.of_mem_zip (a := p.1) (b := p.2) hp
    exact ⟨open_kids_gv hN hA.1 (fun e => h1 (.inl e)) _ ha.1, open_kids_gv hN hB.1 (fun e => h1 (.inr e)) _ ha.2, hAl.2 _ ha.1, hBl.2 _ ha.2⟩
  · exact ⟨h, hm, fun p hp => by cases hp⟩
theorem stp_good' {N M : Nat} (hN : 1 ≤ N) {σ : St} (h : Good N M σ) {p : Tm × Tm} (hp : GP N M p) : Good N M (σ.stp N (σ.fin p.1) (σ.fin p.2)).σ ∧ (σ.stp N (σ.fin p.1) (σ.fin p.2)).lv ≤ M ∧ ∀ q ∈ (σ.stp N (σ.fin p.1) (σ.fin p.2)).ks, GP N M q :=
  stp_good hN h (h.fin hp.a hp.la) (h.fin hp.b hp.lb)

/-- What is good stays good; the level is no higher than all. -/
theorem run_good {N M : Nat} (hN : 1 ≤ N) : ∀ f σ L lv, Good N M σ → (∀ p ∈ L, GP N M p) → lv ≤ M → Good N M (run N f σ L lv).σ ∧ (run N f σ L lv).lv ≤ M
  | f, σ, [], lv, h, _, hl => by rw [run_nil]; exact ⟨h, hl⟩
  | 0, σ, _ :: _, lv, h, _, hl => ⟨h, hl⟩
  | f + 1, σ, p :: r, lv, h, hL, hl => by
    obtain ⟨h1, h2, h3⟩ := stp_good' hN h (hL p (by simp))
    rw [run_succ]
    split
    · exact run_good hN f _ _ _ h1 (fun q hq => by
        rcases List.mem_append.1 hq with hq | hq
        · exact h3 q hq
        · exact hL q (by simp [hq])) (by omega)
    · exact ⟨h1, by show max lv _ ≤ M; omega⟩

/-- One store holds what another one holds, as far as terms come to the same. -/
def Ext (σ τ : St) : Prop := ∀ a b, EV σ a b → EV τ a b
theorem ev_fin {N : Nat} {σ : St} (hr : σ.Ranked) (hg : σ.Gv N) {T : Tm} (hT : GV N T) : EV σ T (σ.fin T) := by
  obtain ⟨x, hx⟩ := ev_total hr hg hT
  exact ⟨x, hx, hx.of_fin (fin_fin hr T).symm⟩
theorem bind_ext {N M : Nat} {σ : St} (h : Good N M σ) {v : Nat} {B : Tm} (hv : σ.vs[v]? = some none) (hM : ¬ Met σ (v : Int) B) (hB : GV N B) (hl : B.jC N 0 ≤ M) : Ext σ (σ.bind v B) ∧ ∀ A : Tm, A.kind = 1 → A.num = (v : Int) → EV (σ.bind v B) A B := by
  have h' := h.bind hv hM hB hl
  obtain ⟨b, hb⟩ := ev_total h'.ranked h'.gv hB
  have key : ∀ A : Tm, A.kind = 1 → A.num = (v : Int) → Ev (σ.bind v B) A b := fun A h1 h2 => hb.of_fin (fin_step h'.ranked (bind_val_self hv h1 h2)).symm
  refine ⟨fun a c hac => ?_, fun A h1 h2 => ⟨b, key A h1 h2, hb⟩⟩
  obtain ⟨x, hx, hy⟩ := hac
  have hb' : ∀ s ks, Ev (σ.bind v B) (.mk 1 (v : Int) s ks) b := fun s ks => key _ rfl rfl
  exact ⟨_, hx.bind h.ranked hv h'.ranked hb', hy.bind h.ranked hv h'.ranked hb'⟩
theorem gv_var {N : Nat} {A B : Tm} (hA : GV N A) (hB : GV N B) (h1 : A.kind = 1) (h2 : B.kind = 1) (e : A.num = B.num) : A = B := by
  cases hA with
  | var n =>
    cases hB with
    | var m => have e : n = m := e; rw [e]
    | int m => exact absurd h2 k21
    | fn s ks h => exact absurd h2 k31
    | box l t _ _ _ => exact absurd h2 k41
  | int m => exact absurd h1 k21
  | fn s ks h => exact absurd h1 k31
  | box l t _ _ _ => exact absurd h1 k41
theorem ev_kids {σ : St} {T x : Tm} (hk : T.kind = 3) (h : Ev σ T x) : ∃ xs, x = .mk 3 T.num T.name xs ∧ xs.length = T.kids.length ∧ ∀ (i : Nat) (t u : Tm), T.kids[i]? = some t → xs[i]? = some u → Ev σ t u := by
  obtain ⟨k, n, s, ks⟩ := T
  have hk : k = 3 := hk
  subst hk
  have hf : σ.fin (.mk 3 n s ks) = .mk 3 n s ks := fin_non k31
  cases h with
  | sl h' _ => rw [hf] at h'; cases h'
  | mk h' hw hl g => rw [hf] at h'; cases h'; exact ⟨_, rfl, hl, g⟩
theorem mem_zip_get {A B : List Tm} {i : Nat} {a b : Tm} (ha : A[i]? = some a) (hb : B[i]? = some b) : (a, b) ∈ A.zip B := by
  refine List.mem_of_getElem? (i := i) ?_
  rw [List.getElem?_zip_eq_some]
  exact ⟨ha, hb⟩
/-- Names whose kids come to the same, two by two, come to the same. -/
theorem ev_names {N : Nat} {σ : St} (hr : σ.Ranked) (hg : σ.Gv N) {P Q : Tm} (hP : GV N P) (hQ : GV N Q) (h1 : P.kind = 3) (h2 : Q.kind = 3) (hn : P.name = Q.name) (hl : P.kids.length = Q.kids.length) (h : ∀ p ∈ P.kids.zip Q.kids, EV σ p.1 p.2) : EV σ P Q := by
  obtain ⟨x, hx⟩ := ev_total hr hg hP
  obtain ⟨y, hy⟩ := ev_total hr hg hQ
  obtain ⟨xs, rfl, ex, gx⟩ := ev_kids h1 hx
  obtain ⟨ys, rfl, ey, gy⟩ := ev_kids h2 hy
  have e : xs = ys := by
    refine List.ext_getElem? fun i => ?_
    by_cases hi : i < P.kids.length
    · have e1 := List.getElem?_eq_getElem (show i < P.kids.length by omega)
      have e2 := List.getElem?_eq_getElem (show i < Q.kids.length by omega)
      have e3 := List.getElem?_eq_getElem (show i < xs.length by omega)
      have e4 := List.getElem?_eq_getElem (show i < ys.length by omega)
      obtain ⟨z, z1, z2⟩ := h _ (mem_zip_get e1 e2)
      rw [e3, e4, (gx i _ _ e1 e3).same z1, (gy i _ _ e2 e4).same z2]
    · rw [List.getElem?_eq_none (by omega), List.getElem?_eq_none (by omega)]
  subst e
  have en : P.num = Q.num := by
    cases hP with
    | fn s ks h =>
      cases hQ with
      | fn s' ks' h' => rfl
      | var m => exact absurd h2 k13
      | int m => exact absurd h2 k23
      | box l t _ _ _ => exact absurd h2 k43
    | var m => exact absurd h1 k13
    | int m => exact absurd h1 k23
    | box l t _ _ _ => exact absurd h1 k43
  refine ⟨_, hx, ?_⟩
  rw [hn, en]
  exact hy
theorem open_gv' {N : Nat} (hN : 1 ≤ N) {T : Tm} (h : GV N T) (hk : T.kind ≠ 1) : GV N (T.openC N).1 := by
  rcases open_gv hN h hk with ⟨n, e⟩ | ⟨s, ks, e, h1⟩ <;> rw [e]
  · exact .int n
  · exact .fn s ks h1
/-- What is opened comes to what it came to. -/
theorem ev_opened {N : Nat} (hN : 1 ≤ N) {σ : St} (hr : σ.Ranked) (hg : σ.Gv N) {T : Tm} (h : GV N T) (hk : T.kind ≠ 1) : EV σ T (T.openC N).1 := by
  obtain ⟨x, hx⟩ := ev_total hr hg h
  exact ⟨x, hx, ev_open h hk hx⟩
theorem stp_ext {N M : Nat} (hN : 1 ≤ N) {σ : St} (h : Good N M σ) {A B : Tm} (hA : GV N A ∧ A.jC N 0 ≤ M) (hB : GV N B ∧ B.jC N 0 ≤ M) : Ext σ (σ.stp N A B).σ := by
  unfold St.stp
  by_cases h1 : A.kind = 1 ∨ B.kind = 1
  · rw [if_pos h1]
    show Ext σ (σ.link A B).2
    rcases link_cases σ A B with ⟨e, _⟩ | ⟨_, e⟩ | ⟨n, _, _, h4, h5, e⟩ | ⟨n, _, _, h4, h5, e⟩
    · rw [e]; exact fun a b h => h
    · rw [e]; exact fun a b h => h
    · rw [e]; exact (bind_ext h h4 h5 hB.1 hB.2).1
    · rw [e]; exact (bind_ext h h4 h5 hA.1 hA.2).1
  rw [if_neg h1]
  split
  · exact fun a b h => h
  split <;> exact fun a b h => h

/-- What was made one comes to the same, and stays so. -/
theorem run_one {N M : Nat} (hN : 1 ≤ N) : ∀ f σ L lv, Good N M σ → (∀ p ∈ L, GP N M p) → Ext σ (run N f σ L lv).σ ∧ ((run N f σ L lv).is = true → ∀ p ∈ L, EV (run N f σ L lv).σ p.1 p.2)
  | f, σ, [], lv, h, _ => by rw [run_nil]; exact ⟨fun a b h => h, fun _ p hp => by cases hp⟩
  | 0, σ, _ :: _, lv, h, _ => ⟨fun a b h => h, fun e => by cases e⟩
  | f + 1, σ, p :: r, lv, h, hL => by
    have hp := hL p (by simp)
    have hA := h.fin hp.a hp.la
    have hB := h.fin hp.b hp.lb
    obtain ⟨h1, h2, h3⟩ := stp_good hN h hA hB
    have h4 := stp_ext hN h hA hB
    have ea := ev_fin h.ranked h.gv hp.a
    have eb := ev_fin h.ranked h.gv hp.b
    rw [run_succ]
    generalize σ.fin p.1 = A at *
    generalize σ.fin p.2 = B at *
    by_cases hok : (σ.stp N A B).ok = true
    · rw [if_pos hok]
      have hL' : ∀ q ∈ (σ.stp N A B).ks ++ r, GP N M q := fun q hq => by
        rcases List.mem_append.1 hq with hq | hq
        · exact h3 q hq
        · exact hL q (by simp [hq])
      obtain ⟨i1, i2⟩ := run_one hN f (σ.stp N A B).σ ((σ.stp N A B).ks ++ r) (max lv (σ.stp N A B).lv) h1 hL'
      have hR := (run_good hN f (σ.stp N A B).σ ((σ.stp N A B).ks ++ r) (max lv (σ.stp N A B).lv) (M := max M (max lv (σ.stp N A B).lv)) ⟨h1.ranked, h1.gv, fun x U hx => by have := h1.lv x U hx; omega⟩ (fun q hq => by obtain ⟨q1, q2, q3, q4⟩ := hL' q hq; exact ⟨q1, q2, by omega, by omega⟩) (by omega)).1
      refine ⟨fun a b hab => i1 a b (h4 a b hab), fun his q hq => ?_⟩
      have i2 := i2 his
      rcases List.mem_cons.1 hq with rfl | hq
      · -- the pair itself
        suffices hAB : EV (run N f (σ.stp N A B).σ ((σ.stp N A B).ks ++ r) (max lv (σ.stp N A B).lv)).σ A B from ((i1 _ _ (h4 _ _ ea)).trans hAB).trans (i1 _ _ (h4 _ _ eb)).symm
        by_cases hv : A.kind = 1 ∨ B.kind = 1
        · refine i1 _ _ ?_
          have e1 : (σ.stp N A B).σ = (σ.link A B).2 := by unfold St.stp; rw [if_pos hv]
          have e2 : (σ.stp N A B).ok = (σ.link A B).1 := by unfold St.stp; rw [if_pos hv]
          rw [e1]
          rw [e2] at hok
          rcases link_cases σ A B with ⟨e, k1, k2, k3⟩ | ⟨e, _⟩ | ⟨n, k1, k2, h6, h7, e⟩ | ⟨n, k1, k2, h6, h7, e⟩
          · rw [e]
            rw [gv_var hA.1 hB.1 k1 k2 k3]
            exact EV.refl h.ranked h.gv hB.1
          · rw [e] at hok; cases hok
          · rw [e]; exact (bind_ext h h6 h7 hB.1 hB.2).2 A k1 k2
          · rw [e]; exact ((bind_ext h h6 h7 hA.1 hA.2).2 B (hv.resolve_left k1) k2).symm
        · have hA1 : A.kind ≠ 1 := fun e => hv (.inl e)
          have hB1 : B.kind ≠ 1 := fun e => hv (.inr e)
          have oA := ev_opened hN hR.ranked hR.gv hA.1 hA1
          have oB := ev_opened hN hR.ranked hR.gv hB.1 hB1
          suffices hPQ : EV (run N f (σ.stp N A B).σ ((σ.stp N A B).ks ++ r) (max lv (σ.stp N A B).lv)).σ (A.openC N).1 (B.openC N).1 from (oA.trans hPQ).trans oB.symm
          have gA := open_gv' hN hA.1 hA1
          have gB := open_gv' hN hB.1 hB1
          by_cases h22 : (A.openC N).1.kind = 2 ∧ (B.openC N).1.kind = 2
          · have e2 : (σ.stp N A B).ok = decide ((A.openC N).1.num = (B.openC N).1.num) := by unfold St.stp; rw [if_neg hv, if_pos h22]
            rw [e2] at hok
            have en := of_decide_eq_true hok
            have : (A.openC N).1 = (B.openC N).1 := by
              rcases open_gv hN hA.1 hA1 with ⟨n, e⟩ | ⟨s, ks, e, _⟩
              · rcases open_gv hN hB.1 hB1 with ⟨m, e'⟩ | ⟨s, ks, e', _⟩
                · rw [e, e'] at en ⊢; have en : n = m := en; rw [en]
                · rw [e'] at h22; exact absurd h22.2 k32
              · rw [e] at h22; exact absurd h22.1 k32
            rw [this]
            exact EV.refl hR.ranked hR.gv gB
          · by_cases h33 : (A.openC N).1.kind = 3 ∧ (B.openC N).1.kind = 3 ∧ (A.openC N).1.name = (B.openC N).1.name ∧ (A.openC N).1.kids.length = (B.openC N).1.kids.length
            · have e3 : (σ.stp N A B).ks = (A.openC N).1.kids.zip (B.openC N).1.kids := by unfold St.stp; rw [if_neg hv, if_neg h22, if_pos h33]
              refine ev_names hR.ranked hR.gv gA gB h33.1 h33.2.1 h33.2.2.1 h33.2.2.2 fun q hq => i2 q ?_
              rw [e3]
              exact List.mem_append_left _ hq
            · have e2 : (σ.stp N A B).ok = false := by unfold St.stp; rw [if_neg hv, if_neg h22, if_neg h33]
              rw [e2] at hok; cases hok
      · exact i2 q (List.mem_append_right _ hq)
    · rw [if_neg hok]
      exact ⟨h4, fun e => by cases e⟩

theorem ev_var {N : Nat} {σ : St} (hr : σ.Ranked) {A : Tm} (hf : σ.val A = none) (hA : A.kind = 1) {x : Tm} (h : Ev σ A x) : x.kind = 1 ∧ x.num = A.num := by
  have hfA : σ.fin A = A := St.fin_free hf
  cases h with
  | sl h' _ => rw [hfA] at h'; rw [h'] at hA; exact absurd hA k41
  | mk h' _ _ _ => rw [hfA] at h'; rw [h'] at hA ⊢; exact ⟨hA, rfl⟩
theorem ev_kind {N : Nat} {σ : St} {A : Tm} (hA : GV N A) (hk : A.kind ≠ 1) : ∀ x, Ev σ A x → x.kind ≠ 1 := by
  induction hA with
  | var n => exact absurd rfl hk
  | int n =>
    intro x hx
    have hf : σ.fin (.mk 2 n e0 []) = .mk 2 n e0 [] := fin_non hk
    cases hx with
    | sl h' _ => rw [hf] at h'; cases h'
    | mk h' _ _ _ => rw [hf] at h'; cases h'; exact (show (2 : Int) ≠ 1 by decide)
  | fn s ks h ih =>
    intro x hx
    have hf : σ.fin (.mk 3 0 s ks) = .mk 3 0 s ks := fin_non hk
    cases hx with
    | sl h' _ => rw [hf] at h'; cases h'
    | mk h' _ _ _ => rw [hf] at h'; cases h'; exact (show (3 : Int) ≠ 1 by decide)
  | box l t hl h hg ih =>
    intro x hx
    have hf : σ.fin (.mk 4 (l : Int) e0 [t]) = .mk 4 (l : Int) e0 [t] := fin_non hk
    cases hx with
    | sl h' g => rw [hf] at h'; cases h'; exact ih hg.kind x g
    | mk h' hw _ _ => rw [hf] at h'; cases h'; exact absurd ⟨rfl, rfl⟩ hw
theorem ev_shape {σ : St} {P : Tm} (h1 : P.kind ≠ 1) (h4 : P.kind ≠ 4) {x : Tm} (h : Ev σ P x) : x.kind = P.kind ∧ x.num = P.num ∧ x.name = P.name ∧ x.kids.length = P.kids.length ∧ ∀ (i : Nat) (t u : Tm), P.kids[i]? = some t → x.kids[i]? = some u → Ev σ t u := by
  obtain ⟨k, n, s, ks⟩ := P
  have hf : σ.fin (.mk k n s ks) = .mk k n s ks := fin_non h1
  cases h with
  | sl h' _ => rw [hf] at h'; cases h'; exact absurd rfl h4
  | mk h' _ hl g => rw [hf] at h'; cases h'; exact ⟨rfl, rfl, rfl, hl, g⟩

/-- What comes to the same is made one, and nothing is bound then, but where there is no room. -/
theorem run_again {N M : Nat} (hN : 1 ≤ N) : ∀ f σ L lv, Good N M σ → (∀ p ∈ L, GP N M p) → (∀ p ∈ L, EV σ p.1 p.2) → (run N f σ L lv).σ = σ ∧ ((run N f σ L lv).is = true ∧ (run N f σ L lv).err = 0 ∨ (run N f σ L lv).is = false ∧ (run N f σ L lv).err = 3)
  | f, σ, [], lv, h, _, _ => by rw [run_nil]; exact ⟨rfl, .inl ⟨rfl, rfl⟩⟩
  | 0, σ, _ :: _, lv, h, _, _ => ⟨rfl, .inr ⟨rfl, rfl⟩⟩
  | f + 1, σ, p :: r, lv, h, hL, hE => by
    have hp := hL p (by simp)
    have hA := h.fin hp.a hp.la
    have hB := h.fin hp.b hp.lb
    have fA := h.ranked.val_fin p.1
    have fB := h.ranked.val_fin p.2
    obtain ⟨h1, h2, h3⟩ := stp_good hN h hA hB
    have eAB : EV σ (σ.fin p.1) (σ.fin p.2) := ((ev_fin h.ranked h.gv hp.a).symm.trans (hE p (by simp))).trans (ev_fin h.ranked h.gv hp.b)
    rw [run_succ]
    generalize σ.fin p.1 = A at *
    generalize σ.fin p.2 = B at *
    obtain ⟨x, hxA, hxB⟩ := eAB
    have key : (σ.stp N A B).ok = true ∧ (σ.stp N A B).σ = σ ∧ ∀ q ∈ (σ.stp N A B).ks, EV σ q.1 q.2 := by
      by_cases hv : A.kind = 1 ∨ B.kind = 1
      · have hb : A.kind = 1 ∧ B.kind = 1 ∧ A.num = B.num := by
          by_cases kA : A.kind = 1
          · have eA := ev_var (N := N) h.ranked fA kA hxA
            by_cases kB : B.kind = 1
            · have eB := ev_var (N := N) h.ranked fB kB hxB
              exact ⟨kA, kB, by rw [← eA.2, ← eB.2]⟩
            · exact absurd eA.1 (ev_kind hB.1 kB x hxB)
          · have kB := hv.resolve_left kA
            have eB := ev_var (N := N) h.ranked fB kB hxB
            exact absurd eB.1 (ev_kind hA.1 kA x hxA)
        have e : σ.link A B = (true, σ) := by unfold St.link; rw [if_pos hb]
        unfold St.stp
        rw [if_pos hv, e]
        exact ⟨rfl, rfl, fun q hq => by cases hq⟩
      · have hA1 : A.kind ≠ 1 := fun e => hv (.inl e)
        have hB1 : B.kind ≠ 1 := fun e => hv (.inr e)
        have gA := open_gv hN hA.1 hA1
        have gB := open_gv hN hB.1 hB1
        have xA := ev_open hA.1 hA1 hxA
        have xB := ev_open hB.1 hB1 hxB
        have k1 : (A.openC N).1.kind ≠ 1 ∧ (A.openC N).1.kind ≠ 4 := by
          rcases gA with ⟨n, e⟩ | ⟨s, ks, e, _⟩ <;> rw [e]
          · exact ⟨k21, k24⟩
          · exact ⟨k31, k34⟩
        have k2 : (B.openC N).1.kind ≠ 1 ∧ (B.openC N).1.kind ≠ 4 := by
          rcases gB with ⟨n, e⟩ | ⟨s, ks, e, _⟩ <;> rw [e]
          · exact ⟨k21, k24⟩
          · exact ⟨k31, k34⟩
        obtain ⟨a1, a2, a3, a4, a5⟩ := ev_shape k1.1 k1.2 xA
        obtain ⟨b1, b2, b3, b4, b5⟩ := ev_shape k2.1 k2.2 xB
        unfold St.stp
        rw [if_neg hv]
        rcases gA with ⟨n, e⟩ | ⟨s, ks, e, _⟩
        · have hk2 : (A.openC N).1.kind = 2 ∧ (B.openC N).1.kind = 2 := by
            have : (A.openC N).1.kind = 2 := by rw [e]; rfl
            exact ⟨this, by rw [← b1, a1, this]⟩
          rw [if_pos hk2]
          exact ⟨decide_eq_true (by rw [← a2, b2]), rfl, fun q hq => by cases hq⟩
        · have hk3 : (A.openC N).1.kind = 3 := by rw [e]; rfl
          rw [if_neg (fun h22 => by rw [hk3] at h22; exact absurd h22.1 (by decide)), if_pos ⟨hk3, by rw [← b1, a1, hk3], by rw [← a3, b3], by rw [← a4, b4]⟩]
          refine ⟨rfl, rfl, fun q hq => ?_⟩
          obtain ⟨i, hi⟩ := List.getElem?_of_mem hq
          have hz := List.getElem?_zip_eq_some.1 hi
          have hlt : i < x.kids.length := by rw [a4]; exact (List.getElem?_eq_some_iff.1 hz.1).1
          have hu := List.getElem?_eq_getElem hlt
          exact ⟨_, a5 i _ _ hz.1 hu, b5 i _ _ hz.2 hu⟩
    obtain ⟨c1, c2, c3⟩ := key
    rw [if_pos c1]
    have hL' : ∀ q ∈ (σ.stp N A B).ks ++ r, GP N M q := fun q hq => by
      rcases List.mem_append.1 hq with hq | hq
      · exact h3 q hq
      · exact hL q (by simp [hq])
    have hE' : ∀ q ∈ (σ.stp N A B).ks ++ r, EV (σ.stp N A B).σ q.1 q.2 := fun q hq => by
      rw [c2]
      rcases List.mem_append.1 hq with hq | hq
      · exact c3 q hq
      · exact hE q (by simp [hq])
    obtain ⟨i1, i2⟩ := run_again hN f (σ.stp N A B).σ ((σ.stp N A B).ks ++ r) (max lv (σ.stp N A B).lv) h1 hL' hE'
    exact ⟨by rw [i1, c2], i2⟩
end Go.Proofs.Ytfjnajngelemkaa
