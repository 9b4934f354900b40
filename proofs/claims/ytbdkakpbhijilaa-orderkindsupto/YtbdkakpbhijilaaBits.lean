/-
  Sets of up to sixteen levels as words of 16 bits: what Go's operations on them are, as operations on sets. Plain numbers: nothing of the program.
-/
import Derived.WalkKit
import Derived.Laws.BitsAllLaws
namespace Go.Proofs.Ytbdkakpbhijilaa
open Go.RowKit

def encTo : Nat → (Nat → Bool) → Nat
  | 0, _ => 0
  | k + 1, f => 2 ^ k * (f k).toNat + encTo k f

theorem encTo_lt (f : Nat → Bool) : ∀ k, encTo k f < 2 ^ k
  | 0 => by simp [encTo]
  | k + 1 => by
    have := encTo_lt f k
    rw [encTo, Nat.pow_succ]
    cases f k <;> simp <;> omega

theorem testBit_encTo (f : Nat → Bool) (i : Nat) : ∀ k, (encTo k f).testBit i = (decide (i < k) && f i)
  | 0 => by simp [encTo]
  | k + 1 => by
    rw [encTo, Nat.testBit_two_pow_mul_add _ (encTo_lt f k), testBit_encTo f i k]
    by_cases h : i < k
    · simp [h, Nat.lt_succ_of_lt h]
    · by_cases e : i = k
      · subst e; cases f i <;> simp
      · have : ¬ i < k + 1 := by omega
        simp [h, this]
        cases f k
        · simp
        · have h3 : i - k ≠ 0 := by omega
          exact Nat.testBit_lt_two_pow (Nat.one_lt_two_pow h3)

/-- A set's word. -/
def S (f : Nat → Bool) : Int := (encTo 16 f : Nat)

theorem S_nonneg (f : Nat → Bool) : 0 ≤ S f := by unfold S; omega
theorem S_lt (f : Nat → Bool) : S f < 65536 := by
  have := encTo_lt f 16
  unfold S; omega
theorem S_toNat (f : Nat → Bool) : (S f).toNat = encTo 16 f := by unfold S; simp

theorem enc_of (x : Nat) (hx : x < 65536) (f : Nat → Bool) (h : ∀ i, i < 16 → x.testBit i = f i) : x = encTo 16 f := by
  apply Nat.eq_of_testBit_eq
  intro i
  rw [testBit_encTo]
  by_cases hi : i < 16
  · simp [hi, h i hi]
  · simp [hi]
    exact Nat.testBit_lt_two_pow (Nat.lt_of_lt_of_le hx (by
      have : (65536 : Nat) = 2 ^ 16 := by decide
      rw [this]; exact Nat.pow_le_pow_right (by decide) (by omega)))

theorem S_congr {f g : Nat → Bool} (h : ∀ i, i < 16 → f i = g i) : S f = S g := by
  unfold S
  refine congrArg (fun n : Nat => (n : Int)) ?_
  exact enc_of _ (encTo_lt f 16) g (fun i hi => by rw [testBit_encTo]; simp [hi, h i hi])

theorem S_inj {f g : Nat → Bool} (h : S f = S g) (i : Nat) (hi : i < 16) : f i = g i := by
  unfold S at h
  have h' : encTo 16 f = encTo 16 g := by omega
  have a := testBit_encTo f i 16
  have b := testBit_encTo g i 16
  rw [h'] at a
  rw [a] at b
  simpa [hi] using b

theorem S_empty : S (fun _ => false) = 0 := by simp [S, encTo]
theorem S_zero_iff (f : Nat → Bool) : S f = 0 ↔ ∀ i, i < 16 → f i = false := by
  constructor
  · intro h i hi
    exact S_inj (g := fun _ => false) (by rw [h, S_empty]) i hi
  · intro h
    rw [← S_empty]
    exact S_congr h

def inter (f g : Nat → Bool) : Nat → Bool := fun i => f i && g i
def union (f g : Nat → Bool) : Nat → Bool := fun i => f i || g i
def minus (f g : Nat → Bool) : Nat → Bool := fun i => f i && !g i

@[go_sem] theorem S_and (f g : Nat → Bool) : bits .and .u16 (S f) (S g) = S (inter f g) := by
  have e : S f = ((encTo 16 f : Nat) : Int) := rfl
  have e' : S g = ((encTo 16 g : Nat) : Int) := rfl
  rw [e, e', u16_and_nat _ _ (encTo_lt f 16) (encTo_lt g 16)]
  unfold S
  refine congrArg (fun n : Nat => (n : Int)) ?_
  refine enc_of _ (Nat.lt_of_le_of_lt Nat.and_le_left (encTo_lt f 16)) _ fun i hi => ?_
  rw [Nat.testBit_and, testBit_encTo, testBit_encTo]; simp [hi, inter]

@[go_sem] theorem S_or (f g : Nat → Bool) : bits .or .u16 (S f) (S g) = S (union f g) := by
  have e : S f = ((encTo 16 f : Nat) : Int) := rfl
  have e' : S g = ((encTo 16 g : Nat) : Int) := rfl
  rw [e, e', u16_or_nat _ _ (encTo_lt f 16) (encTo_lt g 16)]
  unfold S
  refine congrArg (fun n : Nat => (n : Int)) ?_
  refine enc_of _ (Nat.or_lt_two_pow (n := 16) (encTo_lt f 16) (encTo_lt g 16)) _ fun i hi => ?_
  rw [Nat.testBit_or, testBit_encTo, testBit_encTo]; simp [hi, union]

@[go_sem] theorem S_andNot (f g : Nat → Bool) : bits .andNot .u16 (S f) (S g) = S (minus f g) := by
  have e : S f = ((encTo 16 f : Nat) : Int) := rfl
  have e' : S g = ((encTo 16 g : Nat) : Int) := rfl
  rw [e, e', u16_andNot_nat _ _ (encTo_lt f 16) (encTo_lt g 16)]
  unfold S
  refine congrArg (fun n : Nat => (n : Int)) ?_
  refine enc_of _ (Nat.lt_of_le_of_lt Nat.and_le_left (encTo_lt f 16)) _ fun i hi => ?_
  have h2 : (65535 - encTo 16 g) = 2 ^ 16 - (encTo 16 g + 1) := by omega
  rw [Nat.testBit_and, testBit_encTo, h2, Nat.testBit_two_pow_sub_succ (encTo_lt g 16), testBit_encTo]; simp [hi, minus]

/-- The set of one level. -/
def one (a : Nat) : Nat → Bool := fun i => i == a

theorem S_one (a : Nat) (h : a < 16) : S (one a) = 2 ^ a := by
  unfold S
  have : 2 ^ a = encTo 16 (one a) := by
    refine enc_of _ ?_ _ fun i hi => ?_
    · have : (65536 : Nat) = 2 ^ 16 := by decide
      rw [this]; exact Nat.pow_lt_pow_right (by decide) h
    · rw [Nat.testBit_two_pow, one]
      by_cases e : i = a
      · simp [e]
      · have e' : ¬ a = i := fun h => e h.symm
        simp [e, e']
  rw [← this]; simp

theorem and_one_ne (f : Nat → Bool) (b : Nat) (hb : b < 16) : (S (inter f (one b)) != 0) = f b := by
  by_cases h : f b = true
  · rw [h, bne_iff_ne]
    intro e
    have := (S_zero_iff _).1 e b hb
    simp [inter, one, h] at this
  · have h' : f b = false := by simpa using h
    rw [h']
    have : S (inter f (one b)) = 0 := (S_zero_iff _).2 fun i _ => by
      by_cases e : i = b
      · subst e; simp [inter, h']
      · simp [inter, one, e]
    rw [this]; rfl

end Go.Proofs.Ytbdkakpbhijilaa
