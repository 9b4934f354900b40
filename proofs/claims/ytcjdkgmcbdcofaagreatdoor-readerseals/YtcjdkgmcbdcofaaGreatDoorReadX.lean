/-
  Sealed terms: what their texts come to, by reckoning.
-/
import Derived.Test.YtcjdkgmcbdcofaaGreatDoorReadT
namespace Go.Proofs.YtcjdkgmcbdcofaaGreatDoor
open Go.RowKit
set_option linter.unusedVariables false

mutual
def tmEq : Tm → Tm → Bool
  | .mk k n s ks, .mk k' n' s' ks' => decide (k = k') && (decide (n = n') && (decide (s.data.toList = s'.data.toList) && tmsEq ks ks'))
def tmsEq : List Tm → List Tm → Bool
  | [], [] => true
  | t :: ts, u :: us => tmEq t u && tmsEq ts us
  | _, _ => false
end
mutual
theorem tmEq_sound : ∀ (a b : Tm), tmEq a b = true → a = b
  | .mk k n s ks, .mk k' n' s' ks', h => by
    unfold tmEq at h
    simp only [Bool.and_eq_true, decide_eq_true_eq] at h
    obtain ⟨rfl, rfl, hs, hk⟩ := h
    obtain rfl := tmsEq_sound ks ks' hk
    obtain ⟨⟨sl⟩⟩ := s
    obtain ⟨⟨sl'⟩⟩ := s'
    simp at hs
    rw [hs]
theorem tmsEq_sound : ∀ (a b : List Tm), tmsEq a b = true → a = b
  | [], [], _ => rfl
  | t :: ts, u :: us, h => by
    unfold tmsEq at h
    simp only [Bool.and_eq_true] at h
    rw [tmEq_sound t u h.1, tmsEq_sound ts us h.2]
  | [], _ :: _, h => by unfold tmsEq at h; cases h
  | _ :: _, [], h => by unfold tmsEq at h; cases h
end
def tA (c j : UInt8) : List UInt8 := [102, 40, c, 41, 64, j, 32, 46]
def tB (c j : UInt8) : List UInt8 := [64, 40, 102, 40, c, 41, 44, 32, j, 41, 46]
def sealT (c : UInt8) (n : Nat) : Tm := .mk 4 n empB [.mk 3 0 (strV [102]) [.mk 3 0 (strV [c]) []]]
def chk (r : AllR) (c : UInt8) (n k : Nat) : Bool := match r with
  | .bad _ e => decide (k ≤ n) && decide (e = 4)
  | .ok ts => decide (n < k) && tmsEq ts [sealT c n]
def chkV (r : AllR) : Bool := match r with
  | .bad _ e => decide (e = 4)
  | .ok ts => false
theorem seals_all : ((List.range 26).all fun i => (List.range 10).all fun j => (List.range 12).all fun k => chk (allG (tA (UInt8.ofNat (97 + i)) (UInt8.ofNat (48 + j))) k) (UInt8.ofNat (97 + i)) j k && chk (allG (tB (UInt8.ofNat (97 + i)) (UInt8.ofNat (48 + j))) k) (UInt8.ofNat (97 + i)) j k) = true := by decide +kernel
theorem seals_var : ((List.range 10).all fun j => (List.range 12).all fun k => chkV (allG (tA 88 (UInt8.ofNat (48 + j))) k) && chkV (allG (tB 88 (UInt8.ofNat (48 + j))) k)) = true := by decide +kernel
theorem seal_case {i j k : Nat} (hi : i < 26) (hj : j < 10) (hk : k < 12) : chk (allG (tA (UInt8.ofNat (97 + i)) (UInt8.ofNat (48 + j))) k) (UInt8.ofNat (97 + i)) j k = true ∧ chk (allG (tB (UInt8.ofNat (97 + i)) (UInt8.ofNat (48 + j))) k) (UInt8.ofNat (97 + i)) j k = true := by
  have h := List.all_eq_true.1 (List.all_eq_true.1 (List.all_eq_true.1 seals_all i (List.mem_range.2 hi)) j (List.mem_range.2 hj)) k (List.mem_range.2 hk)
  simpa [Bool.and_eq_true] using h
theorem seal_var {j k : Nat} (hj : j < 10) (hk : k < 12) : chkV (allG (tA 88 (UInt8.ofNat (48 + j))) k) = true ∧ chkV (allG (tB 88 (UInt8.ofNat (48 + j))) k) = true := by
  have h := List.all_eq_true.1 (List.all_eq_true.1 seals_var j (List.mem_range.2 hj)) k (List.mem_range.2 hk)
  simpa [Bool.and_eq_true] using h
theorem chk_bad {r : AllR} {c : UInt8} {n k : Nat} (h : chk r c n k = true) (hk : k ≤ n) : ∃ p, r = .bad p 4 := by
  cases r with
  | bad p e => simp [chk] at h; exact ⟨p, by rw [h.2]⟩
  | ok ts => simp [chk] at h; omega
theorem chk_ok {r : AllR} {c : UInt8} {n k : Nat} (h : chk r c n k = true) (hk : n < k) : r = .ok [sealT c n] := by
  cases r with
  | bad p e => simp [chk] at h; omega
  | ok ts => simp only [chk, Bool.and_eq_true] at h; rw [tmsEq_sound _ _ h.2]
theorem chkV_bad {r : AllR} (h : chkV r = true) : ∃ p, r = .bad p 4 := by
  cases r with
  | bad p e => simp [chkV] at h; exact ⟨p, by rw [h]⟩
  | ok ts => cases h
end Go.Proofs.YtcjdkgmcbdcofaaGreatDoor
