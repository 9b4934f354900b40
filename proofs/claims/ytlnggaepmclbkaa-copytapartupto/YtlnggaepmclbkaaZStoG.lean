/-
  Stores, apart from memory: what their variables are bound to, where a walk ends, what is met on the way, what is full.
-/
import Derived.Test.YtlnggaepmclbkaaZShiftn2
namespace Go.Proofs.Ytlnggaepmclbkaa
open Go.RowKit Go.Shelf
set_option linter.unusedVariables false

/-- What a store holds: its variables' values; which were bound, in turn. -/
structure St where
  vs : List (Option Tm)
  tr : List Nat

def St.look (σ : St) (n : Int) : Option Tm := if 0 ≤ n then (σ.vs[n.toNat]?).join else none
def St.val (σ : St) (T : Tm) : Option Tm := if T.kind = 1 then σ.look T.num else none
theorem St.look_nat (σ : St) (x : Nat) : σ.look (x : Int) = (σ.vs[x]?).join := by simp [St.look]
theorem St.look_some {σ : St} {n : Int} {U : Tm} (h : σ.look n = some U) : ∃ x : Nat, n = (x : Int) ∧ σ.vs[x]? = some (some U) := by
  unfold St.look at h
  split at h
  · rename_i h0
    refine ⟨n.toNat, by omega, ?_⟩
    rcases hx : σ.vs[n.toNat]? with _ | _ | u <;> rw [hx] at h <;> simp_all
  · cases h
theorem St.val_some {σ : St} {T U : Tm} (h : σ.val T = some U) : T.kind = 1 ∧ ∃ x : Nat, T.num = (x : Int) ∧ σ.vs[x]? = some (some U) := by
  unfold St.val at h
  split at h
  · rename_i h1; exact ⟨h1, St.look_some h⟩
  · cases h
theorem St.val_ne {σ : St} {T : Tm} (h : T.kind ≠ 1) : σ.val T = none := by unfold St.val; rw [if_neg h]

/-- Where a walk ends, in how many steps. -/
inductive EndsN (σ : St) : Nat → Tm → Tm → Prop
  | stop {T : Tm} (h : σ.val T = none) : EndsN σ 0 T T
  | step {n : Nat} {T U X : Tm} (h : σ.val T = some U) (g : EndsN σ n U X) : EndsN σ (n + 1) T X
theorem EndsN.same {σ : St} {n m : Nat} {T X Y : Tm} (h : EndsN σ n T X) (g : EndsN σ m T Y) : X = Y := by
  induction h generalizing m with
  | stop h => cases g with | stop _ => rfl | step g1 _ => rw [h] at g1; cases g1
  | step h1 h2 ih => cases g with | stop g1 => rw [h1] at g1; cases g1 | step g1 g2 => rw [h1] at g1; cases g1; exact ih g2
theorem EndsN.free {σ : St} {n : Nat} {T X : Tm} (h : EndsN σ n T X) : σ.val X = none := by
  induction h with
  | stop h => exact h
  | step _ _ ih => exact ih
open Classical in
/-- Where a walk ends. -/
noncomputable def St.fin (σ : St) (T : Tm) : Tm := if h : ∃ X n, EndsN σ n T X then Classical.choose h else T
theorem EndsN.fin {σ : St} {n : Nat} {T X : Tm} (h : EndsN σ n T X) : σ.fin T = X := by
  unfold St.fin
  have hx : ∃ X n, EndsN σ n T X := ⟨X, n, h⟩
  rw [dif_pos hx]
  obtain ⟨m, hm⟩ := Classical.choose_spec hx
  exact hm.same h
theorem St.fin_free {σ : St} {T : Tm} (h : σ.val T = none) : σ.fin T = T := (EndsN.stop h).fin

/-- The variables that a term has, as they are met from outside Seals. -/
def Tm.occ : Tm → List Int
  | .mk k n _ ks => if k = 1 then [n] else if k = 4 then [] else (ks.attach.map fun t => Tm.occ t.1).flatten
termination_by t => SizeOf.sizeOf t
decreasing_by
  have := List.sizeOf_lt_of_mem t.2
  simp
  omega
theorem Tm.mem_occ {k n : Int} {s : ByteArray} {ks : List Tm} {y : Int} : y ∈ (Tm.mk k n s ks).occ ↔ (k = 1 ∧ y = n) ∨ (k ≠ 1 ∧ k ≠ 4 ∧ ∃ t ∈ ks, y ∈ t.occ) := by
  rw [Tm.occ]
  by_cases h1 : k = 1
  · simp [h1]
  · by_cases h4 : k = 4
    · simp [h4]
    · simp only [h1, h4, if_false, List.mem_flatten, List.mem_map, List.mem_attach, true_and, false_and, false_or, ne_eq, not_false_eq_true]
      constructor
      · rintro ⟨l, ⟨⟨t, ht⟩, rfl⟩, hy⟩; exact ⟨t, ht, hy⟩
      · rintro ⟨t, ht, hy⟩; exact ⟨_, ⟨⟨t, ht⟩, rfl⟩, hy⟩

/-- There is an order in which bindings lead downwards. -/
def St.Ranked (σ : St) : Prop := ∃ r : Nat → Nat, ∀ (x : Nat) (T : Tm), σ.vs[x]? = some (some T) → ∀ y : Nat, (y : Int) ∈ T.occ → r y < r x

theorem St.Ranked.ends {σ : St} (h : σ.Ranked) (T : Tm) : ∃ X n, EndsN σ n T X := by
  obtain ⟨r, hr⟩ := h
  suffices hs : ∀ m (T : Tm), (∀ x : Nat, T.kind = 1 → T.num = (x : Int) → r x < m) → ∃ X n, EndsN σ n T X by
    exact hs (r T.num.toNat + 1) T fun x _ h2 => by rw [h2]; simp
  intro m
  induction m with
  | zero =>
    intro T hT
    cases hv : σ.val T with
    | none => exact ⟨T, 0, .stop hv⟩
    | some U =>
      obtain ⟨h1, x, h2, -⟩ := St.val_some hv
      exact absurd (hT x h1 h2) (Nat.not_lt_zero _)
  | succ m ih =>
    intro T hT
    cases hv : σ.val T with
    | none => exact ⟨T, 0, .stop hv⟩
    | some U =>
      obtain ⟨h1, x, h2, h3⟩ := St.val_some hv
      obtain ⟨X, n, hX⟩ := ih U fun y hy1 hy2 => by
        have := hr x U h3 y (by cases U; exact Tm.mem_occ.2 (Or.inl ⟨hy1, hy2.symm⟩))
        have := hT x h1 h2
        omega
      exact ⟨X, n + 1, .step hv hX⟩
theorem St.Ranked.fin {σ : St} (h : σ.Ranked) (T : Tm) : ∃ n, EndsN σ n T (σ.fin T) := by
  obtain ⟨X, n, hX⟩ := h.ends T
  exact ⟨n, by rw [hX.fin]; exact hX⟩
theorem St.Ranked.val_fin {σ : St} (h : σ.Ranked) (T : Tm) : σ.val (σ.fin T) = none := by
  obtain ⟨n, hn⟩ := h.fin T
  exact hn.free
theorem St.Ranked.less {σ τ : St} (h : σ.Ranked) (hs : ∀ (x : Nat) (T : Tm), τ.vs[x]? = some (some T) → σ.vs[x]? = some (some T)) : τ.Ranked := by
  obtain ⟨r, hr⟩ := h
  exact ⟨r, fun x T hx => hr x T (hs x T hx)⟩

/-- The variable v is met from a term, in how many steps. -/
inductive RN (σ : St) (v : Int) : Nat → Tm → Prop
  | var {T : Tm} (h : σ.val T = none) (h1 : T.kind = 1) (hn : T.num = v) : RN σ v 0 T
  | bound {n : Nat} {T U : Tm} (h : σ.val T = some U) (g : RN σ v n U) : RN σ v (n + 1) T
  | kid {n : Nat} {T U : Tm} (h1 : T.kind ≠ 1) (h4 : T.kind ≠ 4) (hU : U ∈ T.kids) (g : RN σ v n U) : RN σ v (n + 1) T
def Met (σ : St) (v : Int) (T : Tm) : Prop := ∃ n, RN σ v n T

/-- What is still to be looked through, and what variables were seen. -/
structure SInv (σ : St) (v : Int) (T : Tm) (st : List Tm) (vis : List Int) : Prop where
  snd : ∀ P ∈ st, Met σ v P → Met σ v T
  cmp : Met σ v T → ∃ P ∈ st, Met σ v P
  seen : ∀ x ∈ vis, ∀ U, σ.look x = some U → ∀ n, RN σ v n U → ∃ P ∈ st, ∃ m, m ≤ n ∧ RN σ v m P

theorem SInv.start (σ : St) (v : Int) (T : Tm) : SInv σ v T [T] [] :=
  ⟨fun P hP h => by rw [List.mem_singleton.1 hP] at h; exact h, fun h => ⟨T, by simp, h⟩, fun x hx => by cases hx⟩

/-- A part gives way to others. -/
theorem SInv.turn {σ : St} {v : Int} {T P : Tm} {st L : List Tm} {vis : List Int} (h : SInv σ v T (st ++ [P]) vis) (h1 : ∀ n, RN σ v n P → ∃ Q ∈ st ++ L, ∃ m, m < n ∧ RN σ v m Q) (h2 : ∀ Q ∈ L, Met σ v Q → Met σ v P) : SInv σ v T (st ++ L) vis := by
  refine ⟨fun Q hQ hm => ?_, fun hT => ?_, fun x hx U hU n hn => ?_⟩
  · rcases List.mem_append.1 hQ with hQ | hQ
    · exact h.snd Q (by simp [hQ]) hm
    · exact h.snd P (by simp) (h2 Q hQ hm)
  · obtain ⟨Q, hQ, hm⟩ := h.cmp hT
    rcases List.mem_append.1 hQ with hQ | hQ
    · exact ⟨Q, by simp [hQ], hm⟩
    · rw [List.mem_singleton.1 hQ] at hm
      obtain ⟨n, hn⟩ := hm
      obtain ⟨R, hR, m, _, hm⟩ := h1 n hn
      exact ⟨R, hR, m, hm⟩
  · obtain ⟨Q, hQ, m, hmn, hm⟩ := h.seen x hx U hU n hn
    rcases List.mem_append.1 hQ with hQ | hQ
    · exact ⟨Q, by simp [hQ], m, hmn, hm⟩
    · rw [List.mem_singleton.1 hQ] at hm
      obtain ⟨R, hR, m', hlt, hm'⟩ := h1 m hm
      exact ⟨R, hR, m', by omega, hm'⟩
/-- A variable that is bound, and wasn't seen. -/
theorem SInv.new {σ : St} {v : Int} {T P U : Tm} {st : List Tm} {vis : List Int} (h : SInv σ v T (st ++ [P]) vis) (hv : σ.val P = some U) : SInv σ v T (st ++ [U]) (vis ++ [P.num]) := by
  have h1 := h.turn (L := [U]) (fun n hn => by
    cases hn with
    | var h' _ _ => rw [hv] at h'; cases h'
    | bound h' g => rw [hv] at h'; cases h'; exact ⟨U, by simp, _, Nat.lt_succ_self _, g⟩
    | kid h1 _ _ _ => exact absurd (St.val_some hv).1 h1) (fun Q hQ hm => by rw [List.mem_singleton.1 hQ] at hm; obtain ⟨n, hn⟩ := hm; exact ⟨n + 1, .bound hv hn⟩)
  refine ⟨h1.snd, h1.cmp, fun x hx W hW n hn => ?_⟩
  rcases List.mem_append.1 hx with hx | hx
  · exact h1.seen x hx W hW n hn
  · rw [List.mem_singleton.1 hx] at hW
    have hk := (St.val_some hv).1
    unfold St.val at hv
    rw [if_pos hk, hW] at hv
    cases hv
    exact ⟨_, by simp, n, Nat.le_refl _, hn⟩
/-- A variable that is bound, and was seen. -/
theorem SInv.old {σ : St} {v : Int} {T P U : Tm} {st : List Tm} {vis : List Int} (h : SInv σ v T (st ++ [P]) vis) (hv : σ.val P = some U) (hs : P.num ∈ vis) : SInv σ v T st vis := by
  have hl : σ.look P.num = some U := by have hk := (St.val_some hv).1; unfold St.val at hv; rwa [if_pos hk] at hv
  have key : ∀ n, RN σ v n P → ∃ Q ∈ st ++ [], ∃ m, m < n ∧ RN σ v m Q := by
    intro n
    induction n using Nat.strongRecOn with
    | _ n ih =>
      intro hn
      cases hn with
      | var h' _ _ => rw [hv] at h'; cases h'
      | kid h1 _ _ _ => exact absurd (St.val_some hv).1 h1
      | bound h' g =>
        rw [hv] at h'; cases h'
        obtain ⟨Q, hQ, m, hm, hq⟩ := h.seen _ hs U hl _ g
        rcases List.mem_append.1 hQ with hQ | hQ
        · exact ⟨Q, by simp [hQ], m, by omega, hq⟩
        · rw [List.mem_singleton.1 hQ] at hq
          obtain ⟨R, hR, m', hm', hr⟩ := ih m (by omega) hq
          exact ⟨R, hR, m', by omega, hr⟩
  have h1 := h.turn (L := []) key (fun Q hQ => by cases hQ)
  simpa using h1
/-- A variable that is free, and another one. -/
theorem SInv.other {σ : St} {v : Int} {T P : Tm} {st : List Tm} {vis : List Int} (h : SInv σ v T (st ++ [P]) vis) (hk : P.kind = 1) (hv : σ.val P = none) (hn : P.num ≠ v) : SInv σ v T st vis := by
  have h1 := h.turn (L := []) (fun n hn' => by
    cases hn' with
    | var _ _ h3 => exact absurd h3 hn
    | bound h' _ => rw [hv] at h'; cases h'
    | kid h1 _ _ _ => exact absurd hk h1) (fun Q hQ => by cases hQ)
  simpa using h1
theorem SInv.seal {σ : St} {v : Int} {T P : Tm} {st : List Tm} {vis : List Int} (h : SInv σ v T (st ++ [P]) vis) (hk : P.kind = 4) : SInv σ v T st vis := by
  have h1 := h.turn (L := []) (fun n hn' => by
    cases hn' with
    | var _ h1 _ => rw [hk] at h1; cases h1
    | bound h' _ => have := (St.val_some h').1; rw [hk] at this; cases this
    | kid _ h4 _ _ => exact absurd hk h4) (fun Q hQ => by cases hQ)
  simpa using h1
theorem SInv.kids {σ : St} {v : Int} {T P : Tm} {st : List Tm} {vis : List Int} (h : SInv σ v T (st ++ [P]) vis) (h1 : P.kind ≠ 1) (h4 : P.kind ≠ 4) : SInv σ v T (st ++ P.kids) vis :=
  h.turn (fun n hn' => by
    cases hn' with
    | var _ h _ => exact absurd h h1
    | bound h' _ => exact absurd (St.val_some h').1 h1
    | kid _ _ hU g => exact ⟨_, by simp [hU], _, Nat.lt_succ_self _, g⟩) (fun Q hQ hm => by obtain ⟨n, hn⟩ := hm; exact ⟨n + 1, .kid h1 h4 hQ hn⟩)
theorem SInv.found {σ : St} {v : Int} {T P : Tm} {st : List Tm} {vis : List Int} (h : SInv σ v T (st ++ [P]) vis) (hk : P.kind = 1) (hv : σ.val P = none) (hn : P.num = v) : Met σ v T :=
  h.snd P (by simp) ⟨0, .var hv hk hn⟩
theorem SInv.none {σ : St} {v : Int} {T : Tm} {vis : List Int} (h : SInv σ v T [] vis) : ¬ Met σ v T := fun hT => by
  obtain ⟨P, hP, _⟩ := h.cmp hT
  cases hP

/-- How much may still come of variables that weren't seen. -/
def unv (vis : List Int) : Nat → List (Option Tm) → Nat
  | _, [] => 0
  | i, o :: r => (if vis.contains (i : Int) then 0 else (o.map Tm.size).getD 0) + unv vis (i + 1) r
theorem unv_le (vis : List Int) (x : Int) : ∀ (i : Nat) (vs : List (Option Tm)), unv (vis ++ [x]) i vs ≤ unv vis i vs
  | _, [] => Nat.le_refl _
  | i, o :: r => by
    have := unv_le vis x (i + 1) r
    simp only [unv]
    by_cases h : vis.contains (i : Int) = true
    · have h2 : (vis ++ [x]).contains (i : Int) = true := by simp_all
      rw [if_pos h, if_pos h2]; omega
    · rw [if_neg h]; split <;> omega
theorem unv_add (vis : List Int) : ∀ (vs : List (Option Tm)) (i j : Nat) (U : Tm), vs[j]? = some (some U) → vis.contains ((i + j : Nat) : Int) = false → unv (vis ++ [((i + j : Nat) : Int)]) i vs + U.size ≤ unv vis i vs
  | o :: r, i, 0, U, h, hv => by
    simp at h
    subst h
    have := unv_le vis (((i + 0 : Nat)) : Int) (i + 1) r
    have h2 : (vis ++ [((i + 0 : Nat) : Int)]).contains (i : Int) = true := by simp
    have h3 : ¬ vis.contains (i : Int) = true := by simpa using hv
    simp only [unv]
    rw [if_pos h2, if_neg h3]
    simp only [Option.map_some, Option.getD_some]
    omega
  | o :: r, i, j + 1, U, h, hv => by
    have e : i + (j + 1) = i + 1 + j := by omega
    rw [e] at hv ⊢
    have := unv_add vis r (i + 1) j U (by simpa using h) hv
    simp only [unv]
    by_cases h1 : vis.contains (i : Int) = true
    · have h2 : (vis ++ [((i + 1 + j : Nat) : Int)]).contains (i : Int) = true := by simp_all
      rw [if_pos h1, if_pos h2]; omega
    · rw [if_neg h1]; split <;> omega
theorem unv_small (m : Nat) : ∀ (vs : List (Option Tm)) (i : Nat), (∀ o ∈ vs, ∀ U, o = some U → U.size ≤ m) → unv [] i vs ≤ vs.length * m
  | [], _, _ => by simp [unv]
  | o :: r, i, h => by
    have := unv_small m r (i + 1) fun o ho => h o (by simp [ho])
    have h1 : (o.map Tm.size).getD 0 ≤ m := by
      cases o with
      | none => simp
      | some U => simpa using h (some U) (by simp) U rfl
    simp only [unv, List.contains_nil, Bool.false_eq_true, if_false, List.length_cons, Nat.add_mul, Nat.one_mul]
    omega

/-- A variable is bound: an order is left, if it isn't met. -/
inductive Leads (σ : St) (v : Nat) : Nat → Prop
  | here : Leads σ v v
  | on {x y : Nat} {T : Tm} (h : σ.vs[x]? = some (some T)) (hy : (y : Int) ∈ T.occ) (g : Leads σ v y) : Leads σ v x
theorem met_var {σ : St} {v : Int} {T U : Tm} (hT : T.kind = 1) (hU : U.kind = 1) (e : T.num = U.num) (h : Met σ v T) : Met σ v U := by
  have ev : σ.val T = σ.val U := by unfold St.val; rw [if_pos hT, if_pos hU, e]
  obtain ⟨n, hn⟩ := h
  cases hn with
  | var h1 _ h3 => exact ⟨0, .var (by rw [← ev]; exact h1) hU (by rw [← e]; exact h3)⟩
  | bound h1 g => exact ⟨_, .bound (by rw [← ev]; exact h1) g⟩
  | kid h1 _ _ _ => exact absurd hT h1
theorem met_occ {σ : St} {v : Int} {y : Int} (hy : ∀ U : Tm, U.kind = 1 → U.num = y → Met σ v U) (T : Tm) : y ∈ T.occ → Met σ v T := by
  induction T using Tm.ind with
  | h k n s ks ih =>
    intro h
    rcases Tm.mem_occ.1 h with ⟨h1, rfl⟩ | ⟨h1, h4, t, ht, hy⟩
    · exact hy _ h1 rfl
    · obtain ⟨m, hm⟩ := ih t ht hy
      exact ⟨m + 1, .kid h1 h4 ht hm⟩
theorem leads_met {σ : St} {v x : Nat} (hv : (σ.vs[v]?).join = Option.none) (h : Leads σ v x) : ∀ U : Tm, U.kind = 1 → U.num = (x : Int) → Met σ (v : Int) U := by
  induction h with
  | here => exact fun U h1 h2 => ⟨0, .var (by unfold St.val; rw [if_pos h1, h2, St.look_nat, hv]) h1 h2⟩
  | on h hy g ih =>
    intro U h1 h2
    obtain ⟨n, hn⟩ := met_occ ih _ hy
    exact ⟨n + 1, .bound (by unfold St.val; rw [if_pos h1, h2, St.look_nat, h]; rfl) hn⟩
def St.bind (σ : St) (v : Nat) (T : Tm) : St := ⟨σ.vs.set v (some T), σ.tr ++ [v]⟩
theorem mem_le_sum (f : Int → Nat) : ∀ (l : List Int) (y : Int), y ∈ l → f y ≤ (l.map f).sum
  | x :: r, y, h => by
    rw [List.map_cons, List.sum_cons]
    rcases List.mem_cons.1 h with rfl | h
    · omega
    · have := mem_le_sum f r y h; omega
open Classical in
theorem St.Ranked.bind {σ : St} (h : σ.Ranked) {v : Nat} {T : Tm} (hv : (σ.vs[v]?).join = Option.none) (hT : ¬ Met σ (v : Int) T) : (σ.bind v T).Ranked := by
  obtain ⟨r, hr⟩ := h
  refine ⟨fun x => if Leads σ v x then r x + ((T.occ.map fun y => r y.toNat).sum + 1) else r x, fun x U hx y hy => ?_⟩
  have hx' : (σ.vs.set v (some T))[x]? = some (some U) := hx
  rw [List.getElem?_set] at hx'
  by_cases e : v = x
  · subst e
    rw [if_pos rfl] at hx'
    split at hx'
    · cases hx'
      have hn : ¬ Leads σ v y := fun hl => hT (met_occ (leads_met hv hl) _ hy)
      have := mem_le_sum (fun y => r y.toNat) _ _ hy
      simp only [Int.toNat_natCast] at this
      simp only [hn, Leads.here, if_false, if_true]
      omega
    · cases hx'
  · rw [if_neg e] at hx'
    have h1 := hr x U hx' y hy
    by_cases hl : Leads σ v y
    · have : Leads σ v x := .on hx' hy hl
      simp only [hl, this, if_true]; omega
    · simp only [hl, if_false]; split <;> omega

/-- What a term is full, where depth and parts are left. -/
inductive FR where
  | bad (e : Int)
  | ok (T : Tm) (left : Nat)
inductive FRs where
  | bad (e : Int)
  | ok (ks : List Tm) (left : Nat)
def FR.next (r : FR) (ks : List Tm) : FRs := match r with | .bad e => .bad e | .ok u l => .ok (ks ++ [u]) l
def fillL (g : Nat → Tm → FR) (left : Nat) : List Tm → FRs
  | ks => ks.foldl (fun a t => match a with | .bad e => .bad e | .ok us l => (g l t).next us) (.ok [] left)
theorem fillL_nil (g : Nat → Tm → FR) (left : Nat) : fillL g left [] = .ok [] left := rfl
theorem fillL_snoc (g : Nat → Tm → FR) (left : Nat) (ks : List Tm) (t : Tm) : fillL g left (ks ++ [t]) = match fillL g left ks with | .bad e => .bad e | .ok us l => (g l t).next us := by
  unfold fillL; rw [List.foldl_append]; rfl
theorem fillL_bad (g : Nat → Tm → FR) (left : Nat) (ks ls : List Tm) (e : Int) (h : fillL g left ks = .bad e) : fillL g left (ks ++ ls) = .bad e := by
  unfold fillL at h ⊢
  rw [List.foldl_append, h]
  induction ls with
  | nil => rfl
  | cons t ts ih => rw [List.foldl_cons]; exact ih
noncomputable def St.fill (σ : St) : Nat → Nat → Tm → FR
  | 0, _, _ => .bad 7
  | f + 1, left, T => if left = 0 then .bad 3 else
    match fillL (σ.fill f) (left - 1) (σ.fin T).kids with
    | .bad e => .bad e
    | .ok ks l => .ok (.mk (σ.fin T).kind (σ.fin T).num (σ.fin T).name ks) l
end Go.Proofs.Ytlnggaepmclbkaa
