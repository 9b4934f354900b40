/-
  The standard order of terms, apart from memory: of two terms which one is ahead; that it is one order; that nothing but the same is alike, of terms that may be.
-/
import Derived.Test.YtnkfjomnpnbidaaZSealM
import Derived.Lib.Bytealg
namespace Go.Proofs.Ytnkfjomnpnbidaa
open Go.RowKit Go.Shelf
set_option linter.unusedVariables false

def c3 (x y : Int) : Int := if x < y then -1 else if y < x then 1 else 0
def lx (x y : Int) : Int := if x = 0 then y else x
abbrev cB (s t : ByteArray) : Int := Lib.compareBytes s.data.toList t.data.toList
abbrev isN (k : Int) : Prop := k = 1 ∨ k = 2

/-- Two parts without what is in their kids. -/
def ownC (k n : Int) (s : ByteArray) (l : Nat) (k' n' : Int) (s' : ByteArray) (l' : Nat) : Int :=
  lx (c3 k k') (if isN k then c3 n n' else lx (c3 l l') (lx (if k = 3 then 0 else c3 n n') (cB s s')))

mutual
def Tm.cmp : Tm → Tm → Int
  | .mk k n s ks, .mk k' n' s' ks' => lx (ownC k n s ks.length k' n' s' ks'.length) (if isN k then 0 else Tm.cmps ks ks')
def Tm.cmps : List Tm → List Tm → Int
  | [], _ => 0
  | _ :: _, [] => 0
  | t :: ts, u :: us => lx (t.cmp u) (Tm.cmps ts us)
end
theorem Tm.cmp_mk (k n : Int) (s : ByteArray) (ks : List Tm) (k' n' : Int) (s' : ByteArray) (ks' : List Tm) :
    (Tm.mk k n s ks).cmp (.mk k' n' s' ks') = lx (ownC k n s ks.length k' n' s' ks'.length) (if isN k then 0 else Tm.cmps ks ks') := by rw [Tm.cmp]
theorem Tm.cmps_nil (us : List Tm) : Tm.cmps [] us = 0 := by rw [Tm.cmps]
theorem Tm.cmps_nil' (ts : List Tm) : Tm.cmps ts [] = 0 := by cases ts <;> rw [Tm.cmps]
theorem Tm.cmps_cons (t : Tm) (ts : List Tm) (u : Tm) (us : List Tm) : Tm.cmps (t :: ts) (u :: us) = lx (t.cmp u) (Tm.cmps ts us) := by rw [Tm.cmps]

/-- What the three of three things may tell. -/
structure V3 (x y z : Int) : Prop where
  a : x = 0 → z = y
  b : y = 0 → z = x
  c : x = y → z = x
theorem V3.lx {x y z x' y' z' : Int} (h : V3 x y z) (k : x = 0 → y = 0 → z = 0 → V3 x' y' z') : V3 (lx x x') (lx y y') (lx z z') := by
  obtain ⟨ha, hb, hc⟩ := h
  unfold Go.Proofs.Ytnkfjomnpnbidaa.lx
  by_cases hx : x = 0
  · by_cases hy : y = 0
    · have hz : z = 0 := by rw [ha hx, hy]
      rw [if_pos hx, if_pos hy, if_pos hz]
      exact k hx hy hz
    · have hz : z = y := ha hx
      rw [if_pos hx, if_neg hy, if_neg (by rw [hz]; exact hy), hz]
      exact ⟨fun _ => rfl, fun h => absurd h hy, fun h => h.symm⟩
  · by_cases hy : y = 0
    · have hz : z = x := hb hy
      rw [if_neg hx, if_pos hy, if_neg (by rw [hz]; exact hx), hz]
      exact ⟨fun h => absurd h hx, fun _ => rfl, fun _ => rfl⟩
    · by_cases hz : z = 0
      · rw [if_neg hx, if_neg hy, if_pos hz]
        exact ⟨fun h => absurd h hx, fun h => absurd h hy, fun h => absurd ((hc h).symm.trans hz) hx⟩
      · rw [if_neg hx, if_neg hy, if_neg hz]; exact ⟨ha, hb, hc⟩
theorem V3.zero : V3 0 0 0 := ⟨fun h => h, fun h => h, fun h => h⟩
theorem lx_neg {x y x' y' : Int} (h : x' = -x) (k : x = 0 → y' = -y) : lx x' y' = -lx x y := by
  unfold lx
  by_cases hx : x = 0
  · rw [if_pos (by omega), if_pos hx, k hx]
  · rw [if_neg (by omega), if_neg hx, h]
theorem lx_zero {x y : Int} : lx x y = 0 ↔ x = 0 ∧ y = 0 := by unfold lx; split <;> simp_all

theorem c3_v (a b c : Int) : V3 (c3 a b) (c3 b c) (c3 a c) := by
  unfold c3; constructor <;> intro h <;> (repeat' split at h) <;> (repeat' split) <;> omega
theorem c3_neg (a b : Int) : c3 b a = -c3 a b := by unfold c3; (repeat' split) <;> omega
theorem c3_zero (a b : Int) : c3 a b = 0 ↔ a = b := by unfold c3; constructor <;> intro h <;> (repeat' split at *) <;> omega
theorem c3_self (a : Int) : c3 a a = 0 := (c3_zero a a).2 rfl
theorem c3_rng (a b : Int) : c3 a b = -1 ∨ c3 a b = 0 ∨ c3 a b = 1 := by unfold c3; (repeat' split) <;> simp

theorem cb_cons (a b : UInt8) (xs ys : List UInt8) : Lib.compareBytes (a :: xs) (b :: ys) = lx (c3 (a.toNat : Int) (b.toNat : Int)) (Lib.compareBytes xs ys) := by
  rw [Lib.compareBytes]
  by_cases h : a < b
  · have h1 : a.toNat < b.toNat := h
    have : c3 (a.toNat : Int) (b.toNat : Int) = -1 := by unfold c3; rw [if_pos (by omega)]
    rw [if_pos h, this]; rfl
  · have h1 : ¬ a.toNat < b.toNat := h
    rw [if_neg h]
    by_cases g : b < a
    · have g1 : b.toNat < a.toNat := g
      have : c3 (a.toNat : Int) (b.toNat : Int) = 1 := by unfold c3; rw [if_neg (by omega), if_pos (by omega)]
      rw [if_pos g, this]; rfl
    · have g1 : ¬ b.toNat < a.toNat := g
      have : c3 (a.toNat : Int) (b.toNat : Int) = 0 := by unfold c3; rw [if_neg (by omega), if_neg (by omega)]
      rw [if_neg g, this]; rfl
theorem cb_v : ∀ a b c : List UInt8, V3 (Lib.compareBytes a b) (Lib.compareBytes b c) (Lib.compareBytes a c)
  | [], [], [] => by simp only [Lib.compareBytes]; exact V3.zero
  | [], [], _ :: _ => by simp only [Lib.compareBytes]; constructor <;> omega
  | [], _ :: _, [] => by simp only [Lib.compareBytes]; constructor <;> omega
  | [], _ :: _, _ :: _ => by simp only [Lib.compareBytes]; constructor <;> intro h <;> first | omega | rfl
  | _ :: _, [], [] => by simp only [Lib.compareBytes]; constructor <;> omega
  | _ :: _, [], _ :: _ => by simp only [Lib.compareBytes]; constructor <;> omega
  | _ :: _, _ :: _, [] => by simp only [Lib.compareBytes]; constructor <;> intro h <;> first | omega | rfl
  | x :: xs, y :: ys, z :: zs => by rw [cb_cons, cb_cons, cb_cons]; exact (c3_v _ _ _).lx fun _ _ _ => cb_v xs ys zs
theorem cb_neg : ∀ a b : List UInt8, Lib.compareBytes b a = -Lib.compareBytes a b
  | [], [] => by simp only [Lib.compareBytes]; rfl
  | [], _ :: _ => by simp only [Lib.compareBytes]; rfl
  | _ :: _, [] => by simp only [Lib.compareBytes]
  | x :: xs, y :: ys => by rw [cb_cons, cb_cons]; exact lx_neg (c3_neg _ _) fun _ => cb_neg xs ys
theorem cb_zero : ∀ a b : List UInt8, Lib.compareBytes a b = 0 ↔ a = b
  | [], [] => by simp [Lib.compareBytes]
  | [], _ :: _ => by simp [Lib.compareBytes]
  | _ :: _, [] => by simp [Lib.compareBytes]
  | x :: xs, y :: ys => by
    rw [cb_cons, lx_zero, c3_zero, cb_zero xs ys]
    constructor
    · rintro ⟨h1, rfl⟩
      have : x = y := UInt8.toNat_inj.1 (by omega)
      rw [this]
    · intro h; injection h with h1 h2; subst h1 h2; exact ⟨rfl, rfl⟩
theorem cb_rng : ∀ a b : List UInt8, Lib.compareBytes a b = -1 ∨ Lib.compareBytes a b = 0 ∨ Lib.compareBytes a b = 1
  | [], [] => by simp [Lib.compareBytes]
  | [], _ :: _ => by simp [Lib.compareBytes]
  | _ :: _, [] => by simp [Lib.compareBytes]
  | x :: xs, y :: ys => by
    rw [cb_cons]; unfold lx
    split
    · exact cb_rng xs ys
    · exact c3_rng _ _
theorem ba_eq {s t : ByteArray} (h : s.data.toList = t.data.toList) : s = t := by
  cases s with | mk a => cases t with | mk b => simp only at h; rw [Array.toList_inj.1 h]

theorem own_v (k n : Int) (s : ByteArray) (l : Nat) (k' n' : Int) (s' : ByteArray) (l' : Nat) (k'' n'' : Int) (s'' : ByteArray) (l'' : Nat) :
    V3 (ownC k n s l k' n' s' l') (ownC k' n' s' l' k'' n'' s'' l'') (ownC k n s l k'' n'' s'' l'') := by
  unfold ownC
  refine (c3_v _ _ _).lx fun h1 h2 h3 => ?_
  have e1 := (c3_zero _ _).1 h1
  have e2 := (c3_zero _ _).1 h2
  subst e1 e2
  by_cases hk : isN k
  · rw [if_pos hk, if_pos hk, if_pos hk]; exact c3_v _ _ _
  · rw [if_neg hk, if_neg hk, if_neg hk]
    refine (c3_v _ _ _).lx fun _ _ _ => V3.lx ?_ fun _ _ _ => cb_v _ _ _
    by_cases h3 : k = 3
    · rw [if_pos h3, if_pos h3, if_pos h3]; exact V3.zero
    · rw [if_neg h3, if_neg h3, if_neg h3]; exact c3_v _ _ _
theorem own_neg (k n : Int) (s : ByteArray) (l : Nat) (k' n' : Int) (s' : ByteArray) (l' : Nat) : ownC k' n' s' l' k n s l = -ownC k n s l k' n' s' l' := by
  unfold ownC
  refine lx_neg (c3_neg _ _) fun h1 => ?_
  have e1 := (c3_zero _ _).1 h1
  subst e1
  by_cases hk : isN k
  · rw [if_pos hk, if_pos hk]; exact c3_neg _ _
  · rw [if_neg hk, if_neg hk]
    refine lx_neg (c3_neg _ _) fun _ => lx_neg ?_ fun _ => cb_neg _ _
    by_cases h3 : k = 3
    · rw [if_pos h3, if_pos h3]; rfl
    · rw [if_neg h3, if_neg h3]; exact c3_neg _ _
theorem lx_rng {x y : Int} (h : x = -1 ∨ x = 0 ∨ x = 1) (k : y = -1 ∨ y = 0 ∨ y = 1) : lx x y = -1 ∨ lx x y = 0 ∨ lx x y = 1 := by unfold lx; split <;> assumption
theorem own_rng (k n : Int) (s : ByteArray) (l : Nat) (k' n' : Int) (s' : ByteArray) (l' : Nat) : ownC k n s l k' n' s' l' = -1 ∨ ownC k n s l k' n' s' l' = 0 ∨ ownC k n s l k' n' s' l' = 1 := by
  unfold ownC
  refine lx_rng (c3_rng _ _) ?_
  split
  · exact c3_rng _ _
  · refine lx_rng (c3_rng _ _) (lx_rng ?_ (cb_rng _ _))
    split
    · simp
    · exact c3_rng _ _
/-- Where two parts are alike they have one kind, and as many kids, unless they are numbered. -/
theorem own_zero {k n : Int} {s : ByteArray} {l : Nat} {k' n' : Int} {s' : ByteArray} {l' : Nat} (h : ownC k n s l k' n' s' l' = 0) : k = k' ∧ (¬ isN k → l = l' ∧ s = s' ∧ (k ≠ 3 → n = n')) ∧ (isN k → n = n') := by
  unfold ownC at h
  rw [lx_zero, c3_zero] at h
  obtain ⟨e, h⟩ := h
  refine ⟨e, fun hk => ?_, fun hk => ?_⟩
  · rw [if_neg hk, lx_zero, lx_zero, c3_zero, cb_zero] at h
    obtain ⟨h1, h2, h3⟩ := h
    refine ⟨by omega, ba_eq h3, fun h3 => ?_⟩
    rw [if_neg h3, c3_zero] at h2; exact h2
  · rw [if_pos hk, c3_zero] at h; exact h

theorem Tm.cmps_neg : ∀ (ks ks' : List Tm), (∀ t ∈ ks, ∀ u, u.cmp t = -t.cmp u) → Tm.cmps ks' ks = -Tm.cmps ks ks'
  | [], us, _ => by rw [Tm.cmps_nil, Tm.cmps_nil']; rfl
  | t :: ts, [], _ => by rw [Tm.cmps_nil, Tm.cmps_nil']; rfl
  | t :: ts, u :: us, h => by
    rw [Tm.cmps_cons, Tm.cmps_cons]
    exact lx_neg (h t (by simp) u) fun _ => Tm.cmps_neg ts us fun x hx => h x (by simp [hx])
theorem Tm.cmp_neg (T : Tm) : ∀ U : Tm, U.cmp T = -T.cmp U := by
  induction T using Tm.ind with
  | h k n s ks ih =>
    intro U
    obtain ⟨k', n', s', ks'⟩ := U
    rw [Tm.cmp_mk, Tm.cmp_mk]
    refine lx_neg (own_neg _ _ _ _ _ _ _ _) fun h => ?_
    obtain ⟨e, h1, h2⟩ := own_zero h
    subst e
    by_cases hk : isN k
    · rw [if_pos hk, if_pos hk]; rfl
    · rw [if_neg hk, if_neg hk]; exact Tm.cmps_neg ks ks' ih
theorem Tm.cmps_v : ∀ (ks ks' ks'' : List Tm), (∀ t ∈ ks, ∀ u v, V3 (t.cmp u) (u.cmp v) (t.cmp v)) → ks.length = ks'.length → ks'.length = ks''.length → V3 (Tm.cmps ks ks') (Tm.cmps ks' ks'') (Tm.cmps ks ks'')
  | [], [], [], _, _, _ => by rw [Tm.cmps_nil]; exact V3.zero
  | t :: ts, u :: us, v :: vs, h, h1, h2 => by
    rw [Tm.cmps_cons, Tm.cmps_cons, Tm.cmps_cons]
    exact (h t (by simp) u v).lx fun _ _ _ => Tm.cmps_v ts us vs (fun x hx => h x (by simp [hx])) (by simpa using h1) (by simpa using h2)
theorem Tm.cmp_v (T : Tm) : ∀ U W : Tm, V3 (T.cmp U) (U.cmp W) (T.cmp W) := by
  induction T using Tm.ind with
  | h k n s ks ih =>
    intro U W
    obtain ⟨k', n', s', ks'⟩ := U
    obtain ⟨k'', n'', s'', ks''⟩ := W
    rw [Tm.cmp_mk, Tm.cmp_mk, Tm.cmp_mk]
    refine (own_v _ _ _ _ _ _ _ _ _ _ _ _).lx fun h1 h2 h3 => ?_
    obtain ⟨e, g1, g2⟩ := own_zero h1
    obtain ⟨e', g1', g2'⟩ := own_zero h2
    subst e e'
    by_cases hk : isN k
    · rw [if_pos hk, if_pos hk, if_pos hk]; exact V3.zero
    · rw [if_neg hk, if_neg hk, if_neg hk]; exact Tm.cmps_v ks ks' ks'' ih (g1 hk).1 (g1' hk).1
theorem Tm.cmp_self (T : Tm) : T.cmp T = 0 := by have := Tm.cmp_neg T T; omega
theorem Tm.cmps_rng : ∀ (ks ks' : List Tm), (∀ t ∈ ks, ∀ u, t.cmp u = -1 ∨ t.cmp u = 0 ∨ t.cmp u = 1) → Tm.cmps ks ks' = -1 ∨ Tm.cmps ks ks' = 0 ∨ Tm.cmps ks ks' = 1
  | [], us, _ => by rw [Tm.cmps_nil]; simp
  | t :: ts, [], _ => by rw [Tm.cmps_nil']; simp
  | t :: ts, u :: us, h => by
    rw [Tm.cmps_cons]; exact lx_rng (h t (by simp) u) (Tm.cmps_rng ts us fun x hx => h x (by simp [hx]))
theorem Tm.cmp_rng (T : Tm) : ∀ U : Tm, T.cmp U = -1 ∨ T.cmp U = 0 ∨ T.cmp U = 1 := by
  induction T using Tm.ind with
  | h k n s ks ih =>
    intro U
    obtain ⟨k', n', s', ks'⟩ := U
    rw [Tm.cmp_mk]
    refine lx_rng (own_rng _ _ _ _ _ _ _ _) ?_
    split
    · simp
    · exact Tm.cmps_rng ks ks' ih

/-- A stack of pairs, the last one first: what differs first. -/
def cmpL : List (Tm × Tm) → Int
  | [] => 0
  | x :: r => lx (x.1.cmp x.2) (cmpL r)
theorem cmpL_zip : ∀ (ks ks' : List Tm) (r : List (Tm × Tm)), cmpL (ks.zip ks' ++ r) = lx (Tm.cmps ks ks') (cmpL r)
  | [], us, r => by rw [Tm.cmps_nil]; rfl
  | t :: ts, [], r => by rw [Tm.cmps_nil']; rfl
  | t :: ts, u :: us, r => by
    show lx (t.cmp u) (cmpL (ts.zip us ++ r)) = _
    rw [cmpL_zip ts us r, Tm.cmps_cons]
    unfold lx; split <;> rfl
end Go.Proofs.Ytnkfjomnpnbidaa
