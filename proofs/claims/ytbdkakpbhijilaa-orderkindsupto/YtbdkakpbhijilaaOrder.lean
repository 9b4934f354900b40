/-
  Orders of levels as tables of bits: closures, and how many bits are missing. Plain mathematics: nothing of the program.
-/
import Derived.Test.YtbdkakpbhijilaaBits
namespace Go.Proofs.Ytbdkakpbhijilaa
open Go.RowKit

/-- The reflexive and transitive closure. -/
inductive Star (R : Nat → Nat → Prop) : Nat → Nat → Prop
  | refl (a : Nat) : Star R a a
  | head {a b c : Nat} : R a b → Star R b c → Star R a c

theorem Star.trans {R : Nat → Nat → Prop} {a b c : Nat} (h : Star R a b) (k : Star R b c) : Star R a c := by
  induction h with
  | refl _ => exact k
  | head r _ ih => exact .head r (ih k)
theorem Star.one {R : Nat → Nat → Prop} {a b : Nat} (h : R a b) : Star R a b := .head h (.refl b)
theorem Star.within {R : Nat → Nat → Prop} {n a b : Nat} (hR : ∀ x y, R x y → y < n) (h : Star R a b) (ha : a < n) : b < n := by
  induction h with
  | refl _ => exact ha
  | head r _ ih => exact ih (hR _ _ r)

/-- What a table of bits says. -/
def Rel (n : Nat) (U : Nat → Nat → Bool) (a b : Nat) : Prop := a < n ∧ b < n ∧ U a b = true

theorem Rel.lt {n : Nat} {U : Nat → Nat → Bool} (x y : Nat) (h : Rel n U x y) : y < n := h.2.1

/-- U holds what U0 says, and no more than follows of it. -/
structure Inv (n : Nat) (U0 U : Nat → Nat → Bool) : Prop where
  ext : ∀ a i, a < n → i < 16 → U0 a i = true → U a i = true
  star : ∀ a i, a < n → i < 16 → U a i = true → Star (Rel n U0) a i

def ok (U : Nat → Nat → Bool) (a b : Nat) : Prop := U a b = true → ∀ i, i < 16 → U b i = true → U a i = true

theorem Inv.upd {n : Nat} {U0 U : Nat → Nat → Bool} (h : Inv n U0 U) {a b : Nat} (ha : a < n) (hb : b < n) (hn : n ≤ 16) (hab : U a b = true) :
    Inv n U0 (fun x => if x = a then union (U a) (U b) else U x) := by
  refine ⟨fun x i hx hi h0 => ?_, fun x i hx hi h0 => ?_⟩
  · by_cases e : x = a
    · subst e; simp [union, h.ext x i hx hi h0]
    · simp [e, h.ext x i hx hi h0]
  · by_cases e : x = a
    · subst e
      simp [union] at h0
      rcases h0 with h0 | h0
      · exact h.star x i hx hi h0
      · exact (h.star x b hx (by omega) hab).trans (h.star b i hb hi h0)
    · simp [e] at h0; exact h.star x i hx hi h0

/-- How many of the first k are missing. -/
def missRow (f : Nat → Bool) : Nat → Nat
  | 0 => 0
  | k + 1 => (!f k).toNat + missRow f k
def sumTo (g : Nat → Nat) : Nat → Nat
  | 0 => 0
  | k + 1 => g k + sumTo g k
def miss (U : Nat → Nat → Bool) : Nat := sumTo (fun a => missRow (U a) 16) 16

theorem missRow_congr {f g : Nat → Bool} : ∀ k, (∀ i, i < k → f i = g i) → missRow f k = missRow g k
  | 0, _ => rfl
  | k + 1, h => by rw [missRow, missRow, h k (by omega), missRow_congr k (fun i hi => h i (by omega))]
theorem missRow_le {f g : Nat → Bool} : ∀ k, (∀ i, i < k → f i = true → g i = true) → missRow g k ≤ missRow f k
  | 0, _ => Nat.le_refl _
  | k + 1, h => by
    have := missRow_le k (fun i hi => h i (by omega))
    rw [missRow, missRow]
    have hk := h k (by omega)
    cases hf : f k
    · cases g k <;> simp <;> omega
    · rw [hf] at hk; simp [hk]; exact this
theorem missRow_lt {f g : Nat → Bool} {j : Nat} : ∀ k, j < k → (∀ i, i < k → f i = true → g i = true) → f j = false → g j = true → missRow g k < missRow f k
  | 0, hj, _, _, _ => by omega
  | k + 1, hj, h, h1, h2 => by
    rw [missRow, missRow]
    by_cases e : j = k
    · subst e
      have := missRow_le j (fun i hi => h i (by omega))
      rw [h1, h2]; simp; omega
    · have := missRow_lt k (by omega) (fun i hi => h i (by omega)) h1 h2
      have hk := h k (by omega)
      cases hf : f k
      · cases g k <;> simp <;> omega
      · rw [hf] at hk; simp [hk]; exact this

theorem sumTo_congr {g h : Nat → Nat} : ∀ k, (∀ i, i < k → g i = h i) → sumTo g k = sumTo h k
  | 0, _ => rfl
  | k + 1, e => by rw [sumTo, sumTo, e k (by omega), sumTo_congr k (fun i hi => e i (by omega))]
theorem sumTo_le {g h : Nat → Nat} : ∀ k, (∀ i, i < k → g i ≤ h i) → sumTo g k ≤ sumTo h k
  | 0, _ => Nat.le_refl _
  | k + 1, e => by have := sumTo_le k (fun i hi => e i (by omega)); have := e k (by omega); rw [sumTo, sumTo]; omega
theorem sumTo_lt {g h : Nat → Nat} {j : Nat} : ∀ k, j < k → (∀ i, i < k → g i ≤ h i) → g j < h j → sumTo g k < sumTo h k
  | 0, hj, _, _ => by omega
  | k + 1, hj, e, hlt => by
    rw [sumTo, sumTo]
    by_cases e' : j = k
    · subst e'; have := sumTo_le j (fun i hi => e i (by omega)); omega
    · have := sumTo_lt k (by omega) (fun i hi => e i (by omega)) hlt
      have := e k (by omega); omega

theorem miss_upd {U : Nat → Nat → Bool} {a : Nat} {f : Nat → Bool} (ha : a < 16) (hsub : ∀ i, i < 16 → U a i = true → f i = true) {j : Nat} (hj : j < 16) (h1 : U a j = false) (h2 : f j = true) :
    miss (fun x => if x = a then f else U x) < miss U := by
  refine sumTo_lt 16 ha (fun i _ => ?_) ?_
  · by_cases e : i = a
    · subst e; simp; exact missRow_le 16 hsub
    · simp [e]
  · simp; exact missRow_lt 16 hj hsub h1 h2

end Go.Proofs.Ytbdkakpbhijilaa
