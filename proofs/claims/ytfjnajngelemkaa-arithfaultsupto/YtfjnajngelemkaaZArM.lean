/-
  What an evaluation comes to, apart from memory.
-/
import Derived.Test.YtfjnajngelemkaaZUniM
namespace Go.Proofs.Ytfjnajngelemkaa
open Go.RowKit Go.Shelf
open Classical
set_option linter.unusedVariables false
set_option linter.unusedSimpArgs false

/-- A number that there is, or none. -/
def fit (x : Int) : Option Int := if -9223372036854775808 ≤ x ∧ x ≤ 9223372036854775807 then some x else none
/-- What is left of a number, with the divisor's sign. -/
def remI (a b : Int) : Int := if a.tmod b ≠ 0 ∧ (a.tmod b < 0 ↔ 0 ≤ b) then a.tmod b + b else a.tmod b
inductive A1 where
  | neg
  | abs
inductive A2 where
  | add
  | sub
  | mul
  | quo
  | rem
/-- What an operation of one number comes to. -/
def A1.run : A1 → Int → Option Int
  | .neg, a => fit (-a)
  | .abs, a => fit (if a < 0 then -a else a)
/-- What an operation of two numbers comes to. -/
def A2.run : A2 → Int → Int → Option Int
  | .add, a, b => fit (a + b)
  | .sub, a, b => fit (a - b)
  | .mul, a, b => fit (a * b)
  | .quo, a, b => if b = 0 then none else fit (a.tdiv b)
  | .rem, a, b => if b = 0 then none else some (remI a b)
noncomputable def a1 (s : ByteArray) : Option A1 := if s = ByteArray.mk #[45] then some .neg else if s = ByteArray.mk #[97, 98, 115] then some .abs else none
noncomputable def a2 (s : ByteArray) : Option A2 := if s = ByteArray.mk #[43] then some .add else if s = ByteArray.mk #[45] then some .sub else if s = ByteArray.mk #[42] then some .mul else if s = ByteArray.mk #[47, 47] then some .quo else if s = ByteArray.mk #[109, 111, 100] then some .rem else none
theorem fit_ok {x y : Int} (h : fit x = some y) : y = x ∧ i64ok x := by
  unfold fit at h
  split at h
  · rename_i h0; cases h; exact ⟨rfl, h0⟩
  · cases h
theorem fit_in {x : Int} (h : i64ok x) : fit x = some x := if_pos h
theorem fit_out {x : Int} (h : ¬ i64ok x) : fit x = none := if_neg h

/-- A number, the level, and how many terms may still be evaluated; or an error, and the level. -/
inductive ER where
  | ok (n : Int) (lv left : Nat)
  | bad (e : Int) (lv : Nat)
def ER.lv : ER → Nat
  | .ok _ l _ => l
  | .bad _ l => l
def ER.num : ER → Int
  | .ok n _ _ => n
  | .bad _ _ => 0
def ER.err : ER → Int
  | .ok _ _ _ => 0
  | .bad e _ => e
def ER.next : ER → (Int → Nat → Nat → ER) → ER
  | .ok n l r, k => k n l r
  | .bad e l, _ => .bad e l
def ER.up (lv : Nat) : ER → ER
  | .ok n l r => .ok n (max lv l) r
  | .bad e l => .bad e (max lv l)
def ER.plus (k : Nat) : ER → ER
  | .ok n l r => .ok n l (r + k)
  | .bad e l => .bad e l
def ER.low : ER → ER
  | .ok n l r => .ok n 0 r
  | .bad e l => .bad e 0
/-- What an operation came to. -/
def fin1 : Option Int → Nat → Nat → ER
  | some m, l, r => .ok m l r
  | none, l, _ => .bad 10 l
noncomputable def evF (g : Nat → Nat → Tm → ER) (left lv : Nat) (s : ByteArray) : List Tm → ER
  | [a] => match a1 s with
    | none => .bad 9 lv
    | some o => (g left lv a).next fun n l r => fin1 (o.run n) l r
  | [a, b] => match a2 s with
    | none => .bad 9 lv
    | some o => (g left lv a).next fun n l r => (g r l b).next fun m l r => fin1 (o.run n m) l r
  | _ => .bad 9 lv
/-- What a term is without the seals that it begins with, and their level. -/
noncomputable def Tm.insp (N : Nat) (X : Tm) : Tm × Nat :=
  if X.kind = 4 then ((X.strip Nat.max (lvC N) 0).1.over' (X.strip Nat.max (lvC N) 0).2, (X.strip Nat.max (lvC N) 0).2) else (X, 0)
noncomputable def evX (g : Nat → Nat → Tm → ER) (left lv : Nat) (X : Tm) : ER :=
  if X.kind = 2 then .ok X.num lv left else if X.kind = 1 then .bad 8 lv else if X.kind = 3 then evF g left lv X.name X.kids else .bad 9 lv
/-- What an evaluation comes to: at most f deep, of at most left terms, behind the level lv. -/
noncomputable def St.evl (N : Nat) (σ : St) : Nat → Nat → Nat → Tm → ER
  | 0, _, lv, _ => .bad 3 lv
  | f + 1, left, lv, T => if left = 0 then .bad 3 lv else evX (σ.evl N f) (left - 1) (max lv ((σ.fin T).insp N).2) ((σ.fin T).insp N).1
theorem evl_succ (N : Nat) (σ : St) (f left lv : Nat) (T : Tm) (h : left ≠ 0) : σ.evl N (f + 1) left lv T = evX (σ.evl N f) (left - 1) (max lv ((σ.fin T).insp N).2) ((σ.fin T).insp N).1 := by rw [St.evl, if_neg h]
theorem evl_none (N : Nat) (σ : St) (f lv : Nat) (T : Tm) : σ.evl N f 0 lv T = .bad 3 lv := by
  cases f with
  | zero => rw [St.evl]
  | succ f => rw [St.evl, if_pos rfl]

/-! Levels: behind a greater one all is the same, but for that one. -/
theorem fin1_up (lv : Nat) (o : Option Int) (l r : Nat) : fin1 o (max lv l) r = (fin1 o l r).up lv := by cases o <;> rfl
theorem evF_up {g : Nat → Nat → Tm → ER} (hg : ∀ left l lv t, g left (max lv l) t = (g left l t).up lv) (left l lv : Nat) (s : ByteArray) (ks : List Tm) : evF g left (max lv l) s ks = (evF g left l s ks).up lv := by
  match ks with
  | [] => rfl
  | [a] =>
    simp only [evF]
    cases a1 s with
    | none => rfl
    | some o =>
      simp only [hg]
      cases g left l a with
      | bad e l => rfl
      | ok n l r => exact fin1_up lv _ l r
  | [a, b] =>
    simp only [evF]
    cases a2 s with
    | none => rfl
    | some o =>
      simp only [hg]
      cases g left l a with
      | bad e l => rfl
      | ok n l r =>
        simp only [ER.up, ER.next, hg]
        cases g r l b with
        | bad e l => rfl
        | ok m l r => exact fin1_up lv _ l r
  | a :: b :: c :: ks => rfl
theorem evX_up {g : Nat → Nat → Tm → ER} (hg : ∀ left l lv t, g left (max lv l) t = (g left l t).up lv) (left l lv : Nat) (X : Tm) : evX g left (max lv l) X = (evX g left l X).up lv := by
  unfold evX
  split
  · rfl
  split
  · rfl
  split
  · exact evF_up hg ..
  · rfl
theorem evl_up (N : Nat) (σ : St) : ∀ f left l lv T, σ.evl N f left (max lv l) T = (σ.evl N f left l T).up lv
  | 0, left, l, lv, T => by rw [St.evl, St.evl]; rfl
  | f + 1, left, l, lv, T => by
    by_cases h : left = 0
    · subst h; rw [evl_none, evl_none]; rfl
    · rw [evl_succ _ _ _ _ _ _ h, evl_succ _ _ _ _ _ _ h, Nat.max_assoc]
      exact evX_up (fun left l lv t => evl_up N σ f left l lv t) ..
theorem evl_at (N : Nat) (σ : St) (f left lv : Nat) (T : Tm) : σ.evl N f left lv T = (σ.evl N f left 0 T).up lv := by
  have := evl_up N σ f left 0 lv T
  rwa [Nat.max_eq_left (Nat.zero_le _)] at this
theorem up_lv (lv : Nat) (r : ER) : (r.up lv).lv = max lv r.lv := by cases r <;> rfl
theorem evl_ge (N : Nat) (σ : St) (f left lv : Nat) (T : Tm) : lv ≤ (σ.evl N f left lv T).lv := by rw [evl_at, up_lv]; exact Nat.le_max_left ..

/-! More that may be evaluated: the same, if it was enough. -/
theorem evF_more {g g' : Nat → Nat → Tm → ER} {k : Nat} (hg : ∀ left lv t, (g left lv t).err ≠ 3 → g' (left + k) lv t = (g left lv t).plus k) (left lv : Nat) (s : ByteArray) (ks : List Tm) (h : (evF g left lv s ks).err ≠ 3) : evF g' (left + k) lv s ks = (evF g left lv s ks).plus k := by
  match ks with
  | [] => rfl
  | [a] =>
    simp only [evF] at h ⊢
    cases ha : a1 s with
    | none => rfl
    | some o =>
      rw [ha] at h
      simp only at h ⊢
      have h1 := hg left lv a
      cases hga : g left lv a with
      | bad e l =>
        rw [hga] at h h1
        rw [h1 h]; rfl
      | ok n l r =>
        rw [hga] at h h1
        rw [h1 (by simp [ER.err])]
        simp only [ER.plus, ER.next]
        cases o.run n <;> rfl
  | [a, b] =>
    simp only [evF] at h ⊢
    cases ha : a2 s with
    | none => rfl
    | some o =>
      rw [ha] at h
      simp only at h ⊢
      have h1 := hg left lv a
      cases hga : g left lv a with
      | bad e l =>
        rw [hga] at h h1
        rw [h1 h]; rfl
      | ok n l r =>
        rw [hga] at h h1
        rw [h1 (by simp [ER.err])]
        simp only [ER.plus, ER.next] at h ⊢
        have h2 := hg r l b
        cases hgb : g r l b with
        | bad e l' =>
          rw [hgb] at h h2
          rw [h2 h]; rfl
        | ok m l' r' =>
          rw [hgb] at h h2
          rw [h2 (by simp [ER.err])]
          simp only [ER.plus, ER.next]
          cases o.run n m <;> rfl
  | a :: b :: c :: ks => rfl
theorem evX_more {g g' : Nat → Nat → Tm → ER} {k : Nat} (hg : ∀ left lv t, (g left lv t).err ≠ 3 → g' (left + k) lv t = (g left lv t).plus k) (left lv : Nat) (X : Tm) (h : (evX g left lv X).err ≠ 3) : evX g' (left + k) lv X = (evX g left lv X).plus k := by
  unfold evX at h ⊢
  split
  · rfl
  rename_i h2
  rw [if_neg h2] at h
  split
  · rfl
  rename_i h1
  rw [if_neg h1] at h
  split
  · rename_i h3
    rw [if_pos h3] at h
    exact evF_more hg _ _ _ _ h
  · rfl
theorem evl_more (N : Nat) (σ : St) (k : Nat) : ∀ f j left lv T, (σ.evl N f left lv T).err ≠ 3 → σ.evl N (f + j) (left + k) lv T = (σ.evl N f left lv T).plus k
  | 0, j, left, lv, T, h => by rw [St.evl] at h; exact absurd rfl h
  | f + 1, j, left, lv, T, h => by
    by_cases h0 : left = 0
    · subst h0; rw [evl_none] at h; exact absurd rfl h
    · rw [evl_succ _ _ _ _ _ _ h0] at h ⊢
      rw [show f + 1 + j = (f + j) + 1 by omega, evl_succ _ _ _ _ _ _ (by omega), show left + k - 1 = (left - 1) + k by omega]
      exact evX_more (fun left lv t => evl_more N σ k f j left lv t) _ _ _ h

/-! What is erased comes to the same. -/
theorem evF_low {g : Nat → Nat → Tm → ER} (left lv : Nat) (s : ByteArray) (ks ls : List Tm) (hl : ls.length = ks.length) (hg : ∀ (i : Nat) (t u : Tm), ks[i]? = some t → ls[i]? = some u → ∀ left lv, g left 0 u = (g left lv t).low) : evF g left 0 s ls = (evF g left lv s ks).low := by
  match ks, ls, hl with
  | [], [], _ => rfl
  | [a], [a'], _ =>
    have h1 := hg 0 a a' rfl rfl
    simp only [evF]
    cases a1 s with
    | none => rfl
    | some o =>
      simp only [h1 left lv]
      cases g left lv a with
      | bad e l => rfl
      | ok n l r => simp only [ER.low, ER.next]; cases o.run n <;> rfl
  | [a, b], [a', b'], _ =>
    have h1 := hg 0 a a' rfl rfl
    have h2 := hg 1 b b' rfl rfl
    simp only [evF]
    cases a2 s with
    | none => rfl
    | some o =>
      simp only [h1 left lv]
      cases g left lv a with
      | bad e l => rfl
      | ok n l r =>
        simp only [ER.low, ER.next, h2 r l]
        cases g r l b with
        | bad e l => rfl
        | ok m l r => simp only [ER.low, ER.next]; cases o.run n m <;> rfl
  | a :: b :: c :: ks, a' :: b' :: c' :: ls, _ => rfl
theorem insp_neg {N : Nat} {X : Tm} (h : X.kind ≠ 4) : X.insp N = (X, 0) := if_neg h
theorem insp_pos {N : Nat} {X : Tm} (h : X.kind = 4) : X.insp N = ((X.strip Nat.max (lvC N) 0).1.over' (X.strip Nat.max (lvC N) 0).2, (X.strip Nat.max (lvC N) 0).2) := if_pos h
/-- What is left of an erased term is what is left of it, erased. -/
theorem insp_er (N : Nat) (X : Tm) : ((X.er).insp N).2 = 0 ∧ ((X.er).insp N).1.kind = (X.insp N).1.kind ∧ (((X.insp N).1.kind ≠ 4) → ((X.er).insp N).1.num = (X.insp N).1.num ∧ ((X.er).insp N).1.name = (X.insp N).1.name ∧ ((X.er).insp N).1.kids = (X.insp N).1.kids.map Tm.er) := by
  have key : ∀ C : Tm, C.wrapsT = false → ((C.er).insp N).2 = 0 ∧ ((C.er).insp N).1.kind = C.kind ∧ (C.kind ≠ 4 → ((C.er).insp N).1.num = C.num ∧ ((C.er).insp N).1.name = C.name ∧ ((C.er).insp N).1.kids = C.kids.map Tm.er) := by
    rintro ⟨k, n, s, ks⟩ hC
    have hw : ¬ (k = 4 ∧ ks.length = 1) := of_decide_eq_false (p := k = 4 ∧ ks.length = 1) hC
    rw [Tm.er_else hw]
    by_cases h4 : k = 4
    · rw [insp_pos (X := .mk k n s (ks.map Tm.er)) h4, Tm.strip_else (by rw [List.length_map]; exact hw)]
      exact ⟨rfl, rfl, fun h => absurd h4 h⟩
    · rw [insp_neg (X := .mk k n s (ks.map Tm.er)) h4]
      exact ⟨rfl, rfl, fun _ => ⟨rfl, rfl, rfl⟩⟩
  by_cases h4 : X.kind = 4
  · rw [insp_pos h4]
    have hC := strip_end (N := N) X 0
    obtain ⟨k1, k2, k3⟩ := key _ hC
    rw [strip_er] at k1 k2 k3
    refine ⟨k1, k2, fun h => ?_⟩
    obtain ⟨m1, m2, m3⟩ := k3 h
    refine ⟨m1, m2, m3.trans ?_⟩
    show _ = List.map Tm.er (List.map _ _)
    rw [List.map_map]
    refine List.map_congr_left fun t _ => ?_
    exact (Tm.er_wraps _ _ t).symm
  · rw [insp_neg h4]
    refine key X ?_
    obtain ⟨k, n, s, ks⟩ := X
    exact decide_eq_false (p := k = 4 ∧ ks.length = 1) (fun e => h4 e.1)
theorem evl_low (N : Nat) {σ : St} (hf : ∀ T, σ.fin T = T) : ∀ f left lv T, σ.evl N f left 0 T.er = (σ.evl N f left lv T).low
  | 0, left, lv, T => by rw [St.evl, St.evl]; rfl
  | f + 1, left, lv, T => by
    by_cases h0 : left = 0
    · subst h0; rw [evl_none, evl_none]; rfl
    rw [evl_succ _ _ _ _ _ _ h0, evl_succ _ _ _ _ _ _ h0, hf, hf]
    obtain ⟨h1, h2, h3⟩ := insp_er N T
    rw [h1]
    generalize (T.er.insp N).1 = Y at *
    generalize (T.insp N).1 = X at *
    generalize (T.insp N).2 = m at *
    unfold evX
    rw [h2, show max 0 0 = 0 from rfl]
    by_cases k2 : X.kind = 2
    · rw [if_pos k2, if_pos k2, (h3 (by rw [k2]; decide)).1]; rfl
    rw [if_neg k2, if_neg k2]
    by_cases k1 : X.kind = 1
    · rw [if_pos k1, if_pos k1]; rfl
    rw [if_neg k1, if_neg k1]
    by_cases k3 : X.kind = 3
    · rw [if_pos k3, if_pos k3]
      obtain ⟨e1, e2, e3⟩ := h3 (by rw [k3]; decide)
      rw [e2, e3]
      refine evF_low _ _ _ _ _ (by simp) fun i t u ht hu left lv => ?_
      rw [List.getElem?_map, ht] at hu
      cases hu
      exact evl_low N hf f left lv t
    · rw [if_neg k3, if_neg k3]; rfl

/-! Levels are no higher than all that stand in the term. -/
theorem evF_le {g : Nat → Nat → Tm → ER} {M : Nat} (left lv : Nat) (s : ByteArray) (ks : List Tm) (hlv : lv ≤ M) (hg : ∀ t ∈ ks, ∀ left lv, lv ≤ M → (g left lv t).lv ≤ M) : (evF g left lv s ks).lv ≤ M := by
  match ks with
  | [] => exact hlv
  | [a] =>
    simp only [evF]
    cases a1 s with
    | none => exact hlv
    | some o =>
      have h1 := hg a (by simp) left lv hlv
      simp only
      cases hga : g left lv a with
      | bad e l => rw [hga] at h1; exact h1
      | ok n l r =>
        rw [hga] at h1
        simp only [ER.next]
        cases o.run n <;> exact h1
  | [a, b] =>
    simp only [evF]
    cases a2 s with
    | none => exact hlv
    | some o =>
      have h1 := hg a (by simp) left lv hlv
      simp only
      cases hga : g left lv a with
      | bad e l => rw [hga] at h1; exact h1
      | ok n l r =>
        rw [hga] at h1
        simp only [ER.next]
        have h2 := hg b (by simp) r l h1
        cases hgb : g r l b with
        | bad e l => rw [hgb] at h2; exact h2
        | ok m l r =>
          rw [hgb] at h2
          simp only [ER.next]
          cases o.run n m <;> exact h2
  | a :: b :: c :: ks => exact hlv
theorem insp_jC {N : Nat} (hN : 1 ≤ N) (X : Tm) : (X.insp N).2 ≤ X.jC N 0 ∧ (X.insp N).1.jC N 0 ≤ X.jC N 0 ∧ (X.insp N).2 < N := by
  by_cases h4 : X.kind = 4
  · rw [insp_pos h4]
    have h1 := strip_jC (N := N) X
    have h2 := strip_lt (N := N) hN X 0 (by omega)
    have h3 := over_jC h2 (X.strip Nat.max (lvC N) 0).1
    refine ⟨?_, ?_, h2⟩
    · show _ ≤ _; omega
    · show ((X.strip Nat.max (lvC N) 0).1.over' (X.strip Nat.max (lvC N) 0).2).jC N 0 ≤ _; omega
  · rw [insp_neg h4]; exact ⟨Nat.zero_le _, Nat.le_refl _, by show 0 < N; omega⟩
theorem evl_le {N : Nat} (hN : 1 ≤ N) {σ : St} (hf : ∀ T, σ.fin T = T) {M : Nat} : ∀ f left lv T, lv ≤ M → T.jC N 0 ≤ M → (σ.evl N f left lv T).lv ≤ M
  | 0, left, lv, T, h, _ => by rw [St.evl]; exact h
  | f + 1, left, lv, T, h, hT => by
    by_cases h0 : left = 0
    · subst h0; rw [evl_none]; exact h
    rw [evl_succ _ _ _ _ _ _ h0, hf]
    obtain ⟨h1, h2, _⟩ := insp_jC hN T
    have hm : max lv (T.insp N).2 ≤ M := by omega
    generalize (T.insp N).1 = X at *
    unfold evX
    split
    · exact hm
    split
    · exact hm
    split
    · refine evF_le _ _ _ _ hm fun t ht left lv hlv => evl_le hN hf f left lv t hlv ?_
      have h5 := jC_mk N X.kind X.num X.name X.kids
      rw [Tm.eta] at h5
      have := jns_mem (N := N) ht
      omega
    · exact hm
theorem evF_ge {g : Nat → Nat → Tm → ER} {M : Nat} (left lv : Nat) (s : ByteArray) (ks : List Tm) (hlv : lv < M) (hg : ∀ t left lv, lv < M → (g left lv t).lv < M) : (evF g left lv s ks).lv < M := by
  have := evF_le (g := g) (M := M - 1) left lv s ks (by omega) (fun t _ left lv h => by have := hg t left lv (by omega); omega)
  omega
theorem evl_lt {N : Nat} (hN : 1 ≤ N) {σ : St} : ∀ f left lv T, lv < N → (σ.evl N f left lv T).lv < N
  | 0, left, lv, T, h => by rw [St.evl]; exact h
  | f + 1, left, lv, T, h => by
    by_cases h0 : left = 0
    · subst h0; rw [evl_none]; exact h
    rw [evl_succ _ _ _ _ _ _ h0]
    have hm : max lv ((σ.fin T).insp N).2 < N := by have := (insp_jC hN (σ.fin T)).2.2; omega
    unfold evX
    split
    · exact hm
    split
    · exact hm
    split
    · exact evF_ge _ _ _ _ hm fun t left lv hlv => evl_lt hN f left lv t hlv
    · exact hm

/-! The errors that there are; what is left. -/
theorem evF_err {g : Nat → Nat → Tm → ER} (left lv : Nat) (s : ByteArray) (ks : List Tm) (hg : ∀ t left lv, (∃ n l r, g left lv t = .ok n l r) ∨ (g left lv t).err ≠ 0) : (∃ n l r, evF g left lv s ks = .ok n l r) ∨ (evF g left lv s ks).err ≠ 0 := by
  have hf : ∀ o l r, (∃ n l' r', fin1 o l r = .ok n l' r') ∨ (fin1 o l r).err ≠ 0 := fun o l r => by
    cases o with
    | none => exact .inr (by simp [ER.err, fin1])
    | some m => exact .inl ⟨_, _, _, rfl⟩
  match ks with
  | [] => exact .inr (by simp [ER.err, evF])
  | [a] =>
    simp only [evF]
    cases a1 s with
    | none => exact .inr (by simp [ER.err])
    | some o =>
      rcases hg a left lv with ⟨n, l, r, e⟩ | h
      · simp only [e, ER.next]; exact hf _ _ _
      · cases hga : g left lv a with
        | bad e l => rw [hga] at h; exact .inr h
        | ok n l r => simp only [hga, ER.next]; exact hf _ _ _
  | [a, b] =>
    simp only [evF]
    cases a2 s with
    | none => exact .inr (by simp [ER.err])
    | some o =>
      cases hga : g left lv a with
      | bad e l =>
        rcases hg a left lv with ⟨n', l', r', e'⟩ | h
        · rw [hga] at e'; cases e'
        · rw [hga] at h; exact .inr h
      | ok n l r =>
        simp only [hga, ER.next]
        cases hgb : g r l b with
        | bad e l' =>
          rcases hg b r l with ⟨n', l', r', e'⟩ | h
          · rw [hgb] at e'; cases e'
          · rw [hgb] at h; exact .inr h
        | ok m l r => simp only [ER.next]; exact hf _ _ _
  | a :: b :: c :: ks => exact .inr (by simp [ER.err, evF])
theorem evl_err (N : Nat) (σ : St) : ∀ f left lv T, (∃ n l r, σ.evl N f left lv T = .ok n l r) ∨ (σ.evl N f left lv T).err ≠ 0
  | 0, left, lv, T => by rw [St.evl]; exact .inr (by simp [ER.err])
  | f + 1, left, lv, T => by
    by_cases h0 : left = 0
    · subst h0; rw [evl_none]; exact .inr (by simp [ER.err])
    rw [evl_succ _ _ _ _ _ _ h0]
    unfold evX
    split
    · exact .inl ⟨_, _, _, rfl⟩
    split
    · exact .inr (by simp [ER.err])
    split
    · exact evF_err _ _ _ _ fun t left lv => evl_err N σ f left lv t
    · exact .inr (by simp [ER.err])

/-! Numbers, and operations of numbers. -/
theorem evl_num (N : Nat) (σ : St) (f left lv : Nat) (n : Int) (s : ByteArray) (ks : List Tm) (h : left ≠ 0) : σ.evl N (f + 1) left lv (.mk 2 n s ks) = .ok n lv (left - 1) := by
  rw [evl_succ _ _ _ _ _ _ h, fin_non (T := .mk 2 n s ks) k21, insp_neg (X := .mk 2 n s ks) k24, Nat.max_eq_left (Nat.zero_le _)]
  rfl
theorem evl_fun (N : Nat) (σ : St) (f left lv : Nat) (n : Int) (s : ByteArray) (ks : List Tm) (h : left ≠ 0) : σ.evl N (f + 1) left lv (.mk 3 n s ks) = evF (σ.evl N f) (left - 1) lv s ks := by
  rw [evl_succ _ _ _ _ _ _ h, fin_non (T := .mk 3 n s ks) k31, insp_neg (X := .mk 3 n s ks) k34, Nat.max_eq_left (Nat.zero_le _)]
  rfl
end Go.Proofs.Ytfjnajngelemkaa
