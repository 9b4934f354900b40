/-
  The reference's Ints and Size, and the law's few.
-/
import Derived.Test.YtnkfjomnpnbidaaZOrdDn2
import Derived.Test.YtnkfjomnpnbidaaZShiftn3
import Derived.WalkKit
import Derived.Laws.BitsAllLaws
namespace Go.Proofs.Ytnkfjomnpnbidaa
open Go.RowKit Go.Shelf
set_option linter.unusedVariables false

theorem below_draws {B : Nat} {a w : World} (h : Below B a w) : ∀ n, Below B a (w.drewN n)
  | 0 => h
  | n + 1 => (below_draws h n).drew

set_option maxRecDepth 100000 in
set_option maxHeartbeats 1000000 in
theorem rsize_at (T : Tm) : ∀ (v : Value) (w : World), Has w v T → T.size ≤ 1000000000000 → Calls Try.prog 30 #[v] w (Gets w (.int .i64 (T.size : Int))) := by
  induction T using Tm.ind with
  | h k n s ks ih =>
    intro v w hv hs
    obtain ⟨k_, n_, s_, a, len, cap, ks_, rfl, e, rfl, hk, hn, hs', hc, hm, ha⟩ := hv.form
    injection e with e1 e2 e3 e4
    subst e1 e2 e3 e4
    rw [Tm.size_mk] at hs ⊢
    have hlen : ks.length ≤ 1000000000000 := by have := Tm.length_le_sizes ks; omega
    obtain ⟨w1, hw1⟩ : ∃ w1, w1 = w.alloc (.cells #[.int .i64 k, .int .i64 n, .string s, .slice a ks.length cap] 24) := ⟨_, rfl⟩
    have hB1 : Below w.heap.size w w1 := by rw [hw1]; exact (Below.refl _ w).alloc (Nat.le_refl _) _
    have hbox : w1.heap[w.heap.size]? = some (.cells #[.int .i64 k, .int .i64 n, .string s, .slice a ks.length cap] 24 (0, 0)) := by rw [hw1]; exact World.alloc_heap_new _ _
    go_enter Try.func30, Try.ntmps30
    have HH := Lib.hid (And.intro hs (And.intro hB1 hbox))
    have HW := Lib.hid hw1
    clear hs hB1 hbox hw1
    go_wp2_with fail
    rw [← HW.out]
    go_loopw [3, 4] (fun x i wr => ∃ c : Nat, x = .int .i64 ((1 + Tm.sizes (ks.take c) : Nat) : Int) ∧ i = .int .i64 c ∧ c ≤ ks.length ∧ Below w1.heap.size w1 wr) (fun _ i _ => ks.length - (intOf i).toNat)
    case atStart => exact ⟨0, by simp [Tm.sizes_nil], rfl, Nat.zero_le _, Below.refl _ _⟩
    case round =>
      obtain ⟨c, rfl, rfl, hcl, hB⟩ := hrel
      have hbr := tbox_below HH.out.2.2 hB
      obtain ⟨b0, b1, b2, b3⟩ := tbox_cells hbr
      have hwr : Below w.heap.size w wr := HH.out.2.1.trans (hB.mono HH.out.2.1.size)
      by_cases hlt : c < ks.length
      · obtain ⟨b, o, k1, n1, s1, a1, l1, c1, T1, rfl, hbn, e0, e1, e2, e3, hT1, ht1⟩ := IsTm.kid hv c hlt
        have q0 := (hwr.cell (p := ⟨b, o + c * 4, none⟩) hbn).trans e0
        have q1 := (hwr.cell (p := ⟨b, o + c * 4 + 1, none⟩) hbn).trans e1
        have q2 := (hwr.cell (p := ⟨b, o + c * 4 + 2, none⟩) hbn).trans e2
        have q3 := (hwr.cell (p := ⟨b, o + c * 4 + 3, none⟩) hbn).trans e3
        have hts := Tm.take_succ_sizes ks c T1 hT1
        have htl := Tm.sizes_take_le ks (c + 1)
        have hs0 := HH.out.1
        obtain ⟨m, hm'⟩ : ∃ m, Tm.sizes (ks.take c) = m := ⟨_, rfl⟩
        obtain ⟨m1, hm1⟩ : ∃ m1, T1.size = m1 := ⟨_, rfl⟩
        have hih := (ih T1 (List.mem_of_getElem? hT1) _ wr (IsTm.later hwr hwr.size ht1) (by omega)).mono (R' := fun e w2 => e = .returned (.int .i64 (m1 : Int)) ∧ Below w1.heap.size w1 w2) (fun e w2 h => ⟨by rw [← hm1]; exact h.1, hB.trans (h.2.mono hB.size)⟩)
        have hmb : m + m1 ≤ 1000000000000 := by omega
        have HR := Lib.hid (And.intro hts (And.intro hm' hm1))
        clear ih hv e0 e1 e2 e3 ht1 hts htl hs0 hT1
        rw [hm']
        clear hm' hm1
        have hmi : ((1 + m : Nat) : Int) + (m1 : Int) ≤ 1000000000001 := by omega
        go_wp2_with (go_at_call 30; refine hih.mono ?_; rintro e w2 ⟨rfl, hB2⟩)
        go_roundw
        case rel =>
          refine ⟨c + 1, ?_, by simp, hlt, hB2⟩
          rw [HR.out.1, HR.out.2.1, HR.out.2.2]
          exact congrArg (Value.int .i64) (by omega)
        case measure => simp [intOf]; omega
      · have hce : c = ks.length := by omega
        subst hce
        clear ih hv
        rw [List.take_length]
        go_wp2_with fail
        go_ret
        exact ⟨rfl, hwr⟩

end Go.Proofs.Ytnkfjomnpnbidaa

namespace Go.Proofs.Ytnkfjomnpnbidaa
open Go.RowKit Go.Shelf
set_option linter.unusedVariables false

theorem two_terms {w : World} {k1 n1 k2 n2 : Int} {s1 s2 : ByteArray} {a1 a2 : Option Addr} {l1 c1 l2 c2 : Nat} {T1 T2 : Tm} (h1 : Has w (.agg #[.int .i64 k1, .int .i64 n1, .string s1, .slice a1 l1 c1]) T1) (h2 : Has w (.agg #[.int .i64 k2, .int .i64 n2, .string s2, .slice a2 l2 c2]) T2) :
    HasTs (w.alloc (.cells #[.int .i64 k1, .int .i64 n1, .string s1, .slice a1 l1 c1, .int .i64 k2, .int .i64 n2, .string s2, .slice a2 l2 c2] 24)) (.slice (some ⟨w.heap.size, 0, none⟩) 2 2) [T1, T2] := by
  have hb : Below w.heap.size w (w.alloc (.cells #[.int .i64 k1, .int .i64 n1, .string s1, .slice a1 l1 c1, .int .i64 k2, .int .i64 n2, .string s2, .slice a2 l2 c2] 24)) := (Below.refl _ w).alloc (Nat.le_refl _) _
  refine ⟨some ⟨w.heap.size, 0, none⟩, 2, rfl, by simp, by unfold maxLen; omega, (fun h => by cases h), fun i hi => ?_⟩
  have hi' : i = 0 ∨ i = 1 := by simp at hi; omega
  rcases hi' with rfl | rfl
  · exact ⟨w.heap.size, 0, k1, n1, s1, a1, l1, c1, rfl, by simp, (World.cell?_alloc_new w _ _ _).trans rfl, (World.cell?_alloc_new w _ _ _).trans rfl, (World.cell?_alloc_new w _ _ _).trans rfl, (World.cell?_alloc_new w _ _ _).trans rfl, Has.below h1 hb⟩
  · exact ⟨w.heap.size, 0, k2, n2, s2, a2, l2, c2, rfl, by simp, (World.cell?_alloc_new w _ _ _).trans rfl, (World.cell?_alloc_new w _ _ _).trans rfl, (World.cell?_alloc_new w _ _ _).trans rfl, (World.cell?_alloc_new w _ _ _).trans rfl, Has.below h2 hb⟩

theorem one_term {w : World} {k1 n1 : Int} {s1 : ByteArray} {a1 : Option Addr} {l1 c1 : Nat} {T1 : Tm} (h1 : Has w (.agg #[.int .i64 k1, .int .i64 n1, .string s1, .slice a1 l1 c1]) T1) :
    HasTs (w.alloc (.cells #[.int .i64 k1, .int .i64 n1, .string s1, .slice a1 l1 c1] 24)) (.slice (some ⟨w.heap.size, 0, none⟩) 1 1) [T1] := by
  have hb : Below w.heap.size w (w.alloc (.cells #[.int .i64 k1, .int .i64 n1, .string s1, .slice a1 l1 c1] 24)) := (Below.refl _ w).alloc (Nat.le_refl _) _
  refine ⟨some ⟨w.heap.size, 0, none⟩, 1, rfl, by simp, by unfold maxLen; omega, (fun h => by cases h), fun i hi => ?_⟩
  have hi' : i = 0 := by simp at hi; omega
  subst hi'
  exact ⟨w.heap.size, 0, k1, n1, s1, a1, l1, c1, rfl, by simp, (World.cell?_alloc_new w _ _ _).trans rfl, (World.cell?_alloc_new w _ _ _).trans rfl, (World.cell?_alloc_new w _ _ _).trans rfl, (World.cell?_alloc_new w _ _ _).trans rfl, Has.below h1 hb⟩

def exG : Tm := .mk 3 0 (ByteArray.mk #[103]) [.mk 1 2 (ByteArray.mk #[]) [], .mk 1 4 (ByteArray.mk #[]) []]
def exF : Tm := .mk 3 0 (ByteArray.mk #[102]) [.mk 1 4 (ByteArray.mk #[]) [], exG]
theorem exF_size : exF.size = 5 := by decide
theorem exF_deep : exF.deep = 3 := by decide
theorem exF_vars : exF.vars = [4, 2] := by decide
theorem empty_toList : (ByteArray.mk #[]).toList = [] := by
  unfold ByteArray.toList
  rw [ByteArray.toList.loop]
  rfl
theorem exF_valid : exF.valid 1 = true := by
  have h1 : (ByteArray.mk #[102]).size = 1 := rfl
  have h2 : (ByteArray.mk #[103]).size = 1 := rfl
  simp [Tm.valid, validL, exF, exG, Tm.parts_mk, Tm.partss_cons, Tm.partss_nil, Tm.formed, Tm.kind, Tm.num, Tm.name, Tm.kids, h1, h2]
theorem exF_check : exF.check 1 = 0 := by
  rw [Tm.check, exF_size, exF_deep, exF_valid]; decide

theorem two_ints (w : World) (x y : Int) : IntsAt (w.alloc (.cells #[.int .i64 x, .int .i64 y] 3)) (.slice (some ⟨w.heap.size, 0, none⟩) 2 2) [x, y] := by
  refine ⟨some ⟨w.heap.size, 0, none⟩, 2, rfl, by simp, by unfold maxLen; omega, (fun h => by cases h), fun i hi => ?_⟩
  have hi' : i = 0 ∨ i = 1 := by simp at hi; omega
  rcases hi' with rfl | rfl
  · exact ⟨w.heap.size, 0, rfl, by simp, (World.cell?_alloc_new w _ _ _).trans rfl⟩
  · exact ⟨w.heap.size, 0, rfl, by simp, (World.cell?_alloc_new w _ _ _).trans rfl⟩
theorem one_int (w : World) (x : Int) : IntsAt (w.alloc (.cells #[.int .i64 x] 3)) (.slice (some ⟨w.heap.size, 0, none⟩) 1 1) [x] := by
  refine ⟨some ⟨w.heap.size, 0, none⟩, 1, rfl, by simp, by unfold maxLen; omega, (fun h => by cases h), fun i hi => ?_⟩
  have hi' : i = 0 := by simp at hi; omega
  subst hi'
  exact ⟨w.heap.size, 0, rfl, by simp, (World.cell?_alloc_new w _ _ _).trans rfl⟩

end Go.Proofs.Ytnkfjomnpnbidaa

namespace Go.Proofs.Ytnkfjomnpnbidaa
open Go.RowKit

def encTo : Nat → (Nat → Bool) → Nat
  | 0, _ => 0
  | k + 1, f => 2 ^ k * (f k).toNat + encTo k f

theorem encTo_lt (f : Nat → Bool) : ∀ k, encTo k f < 2 ^ k
  | 0 => by simp [encTo]
  | k + 1 => by
    have := encTo_lt f k
    rw [encTo, Nat.pow_succ]
    cases f k <;> simp <;> omega

theorem testBit_encTo (f : Nat → Bool) (i : Nat) : ∀ k, (encTo k f).testBit i = (decide (i < k) && f i)
  | 0 => by simp [encTo]
  | k + 1 => by
    rw [encTo, Nat.testBit_two_pow_mul_add _ (encTo_lt f k), testBit_encTo f i k]
    by_cases h : i < k
    · simp [h, Nat.lt_succ_of_lt h]
    · by_cases e : i = k
      · subst e; cases f i <;> simp
      · have : ¬ i < k + 1 := by omega
        simp [h, this]
        cases f k
        · simp
        · have h3 : i - k ≠ 0 := by omega
          exact Nat.testBit_lt_two_pow (Nat.one_lt_two_pow h3)

/-- A set's word. -/
def S (f : Nat → Bool) : Int := (encTo 16 f : Nat)

theorem S_nonneg (f : Nat → Bool) : 0 ≤ S f := by unfold S; omega
theorem S_lt (f : Nat → Bool) : S f < 65536 := by
  have := encTo_lt f 16
  unfold S; omega
theorem S_toNat (f : Nat → Bool) : (S f).toNat = encTo 16 f := by unfold S; simp

theorem enc_of (x : Nat) (hx : x < 65536) (f : Nat → Bool) (h : ∀ i, i < 16 → x.testBit i = f i) : x = encTo 16 f := by
  apply Nat.eq_of_testBit_eq
  intro i
  rw [testBit_encTo]
  by_cases hi : i < 16
  · simp [hi, h i hi]
  · simp [hi]
    exact Nat.testBit_lt_two_pow (Nat.lt_of_lt_of_le hx (by
      have : (65536 : Nat) = 2 ^ 16 := by decide
      rw [this]; exact Nat.pow_le_pow_right (by decide) (by omega)))

theorem S_congr {f g : Nat → Bool} (h : ∀ i, i < 16 → f i = g i) : S f = S g := by
  unfold S
  refine congrArg (fun n : Nat => (n : Int)) ?_
  exact enc_of _ (encTo_lt f 16) g (fun i hi => by rw [testBit_encTo]; simp [hi, h i hi])

theorem S_inj {f g : Nat → Bool} (h : S f = S g) (i : Nat) (hi : i < 16) : f i = g i := by
  unfold S at h
  have h' : encTo 16 f = encTo 16 g := by omega
  have a := testBit_encTo f i 16
  have b := testBit_encTo g i 16
  rw [h'] at a
  rw [a] at b
  simpa [hi] using b

theorem S_empty : S (fun _ => false) = 0 := by simp [S, encTo]
theorem S_zero_iff (f : Nat → Bool) : S f = 0 ↔ ∀ i, i < 16 → f i = false := by
  constructor
  · intro h i hi
    exact S_inj (g := fun _ => false) (by rw [h, S_empty]) i hi
  · intro h
    rw [← S_empty]
    exact S_congr h

def inter (f g : Nat → Bool) : Nat → Bool := fun i => f i && g i
def union (f g : Nat → Bool) : Nat → Bool := fun i => f i || g i
def minus (f g : Nat → Bool) : Nat → Bool := fun i => f i && !g i

@[go_sem] theorem S_and (f g : Nat → Bool) : bits .and .u16 (S f) (S g) = S (inter f g) := by
  have e : S f = ((encTo 16 f : Nat) : Int) := rfl
  have e' : S g = ((encTo 16 g : Nat) : Int) := rfl
  rw [e, e', u16_and_nat _ _ (encTo_lt f 16) (encTo_lt g 16)]
  unfold S
  refine congrArg (fun n : Nat => (n : Int)) ?_
  refine enc_of _ (Nat.lt_of_le_of_lt Nat.and_le_left (encTo_lt f 16)) _ fun i hi => ?_
  rw [Nat.testBit_and, testBit_encTo, testBit_encTo]; simp [hi, inter]

@[go_sem] theorem S_or (f g : Nat → Bool) : bits .or .u16 (S f) (S g) = S (union f g) := by
  have e : S f = ((encTo 16 f : Nat) : Int) := rfl
  have e' : S g = ((encTo 16 g : Nat) : Int) := rfl
  rw [e, e', u16_or_nat _ _ (encTo_lt f 16) (encTo_lt g 16)]
  unfold S
  refine congrArg (fun n : Nat => (n : Int)) ?_
  refine enc_of _ (Nat.or_lt_two_pow (n := 16) (encTo_lt f 16) (encTo_lt g 16)) _ fun i hi => ?_
  rw [Nat.testBit_or, testBit_encTo, testBit_encTo]; simp [hi, union]

@[go_sem] theorem S_andNot (f g : Nat → Bool) : bits .andNot .u16 (S f) (S g) = S (minus f g) := by
  have e : S f = ((encTo 16 f : Nat) : Int) := rfl
  have e' : S g = ((encTo 16 g : Nat) : Int) := rfl
  rw [e, e', u16_andNot_nat _ _ (encTo_lt f 16) (encTo_lt g 16)]
  unfold S
  refine congrArg (fun n : Nat => (n : Int)) ?_
  refine enc_of _ (Nat.lt_of_le_of_lt Nat.and_le_left (encTo_lt f 16)) _ fun i hi => ?_
  have h2 : (65535 - encTo 16 g) = 2 ^ 16 - (encTo 16 g + 1) := by omega
  rw [Nat.testBit_and, testBit_encTo, h2, Nat.testBit_two_pow_sub_succ (encTo_lt g 16), testBit_encTo]; simp [hi, minus]

/-- The set of one level. -/
def one (a : Nat) : Nat → Bool := fun i => i == a

theorem S_one (a : Nat) (h : a < 16) : S (one a) = 2 ^ a := by
  unfold S
  have : 2 ^ a = encTo 16 (one a) := by
    refine enc_of _ ?_ _ fun i hi => ?_
    · have : (65536 : Nat) = 2 ^ 16 := by decide
      rw [this]; exact Nat.pow_lt_pow_right (by decide) h
    · rw [Nat.testBit_two_pow, one]
      by_cases e : i = a
      · simp [e]
      · have e' : ¬ a = i := fun h => e h.symm
        simp [e, e']
  rw [← this]; simp

theorem and_one_ne (f : Nat → Bool) (b : Nat) (hb : b < 16) : (S (inter f (one b)) != 0) = f b := by
  by_cases h : f b = true
  · rw [h, bne_iff_ne]
    intro e
    have := (S_zero_iff _).1 e b hb
    simp [inter, one, h] at this
  · have h' : f b = false := by simpa using h
    rw [h']
    have : S (inter f (one b)) = 0 := (S_zero_iff _).2 fun i _ => by
      by_cases e : i = b
      · subst e; simp [inter, h']
      · simp [inter, one, e]
    rw [this]; rfl

end Go.Proofs.Ytnkfjomnpnbidaa
