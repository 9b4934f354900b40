/-
  Blanks and remarks ahead of a text, apart from memory.
-/
import Derived.Test.YtnkadfbdmffhcaaDoorTokMR
namespace Go.Proofs.YtnkadfbdmffhcaaDoor
open Go.RowKit Go.Lib
set_option linter.unusedVariables false

def padL : Nat → List UInt8
  | 0 => [32]
  | 1 => [9, 10]
  | 2 => [37, 32, 97, 32, 39, 98, 10]
  | _ => [32, 37, 37, 10, 13]
theorem skp_pad (k : Nat) (x : List UInt8) : skp false (padL k ++ x) = (padL k).length + skp false x := by
  match k with
  | 0 => simp [padL, skp, blkB]; omega
  | 1 => simp [padL, skp, blkB]; omega
  | 2 => simp [padL, skp]; omega
  | k + 3 => simp [padL, skp, blkB]; omega
theorem pad_short (k : Nat) : (padL k).length ≤ 7 := by
  match k with
  | 0 => decide
  | 1 => decide
  | 2 => decide
  | k + 3 => exact (by decide : [32, 37, 37, 10, (13 : UInt8)].length ≤ 7)
theorem scan_pad0 (k : Nat) : scan false (padL k) = .ok [] := by
  have h := skp_pad k []
  rw [List.append_nil] at h
  exact scan_nil _ (by rw [h]; simp)
theorem after_tok (r : ScanR) (ts : List Tok) (a b : Nat) : (r.after ts a).after [] b = r.after ts (b + a) := by rw [after_after]; rfl
theorem scan_pad (k : Nat) (x : List UInt8) : scan false (padL k ++ x) = (scan false x).after [] (padL k).length := by
  have h := skp_pad k x
  have hd : ∀ m, (padL k ++ x).drop ((padL k).length + m) = x.drop m := fun m => by rw [← List.drop_drop, List.drop_left]
  rw [scan_eq false (padL k ++ x), scan_eq false x, h, hd]
  split
  · rfl
  · split
    · rfl
    · rename_i t n _
      rw [Nat.add_assoc, hd, after_tok]
      simp
theorem full_pad (k : Nat) (u : List UInt8) (hu : u.length ≤ 2000) : full (padL k ++ u ++ [10] ++ padL k) = (full (u ++ [10])).after [] (padL k).length := by
  have hp := pad_short k
  rw [full_small (l := padL k ++ u ++ [10] ++ padL k) (by simp; omega), full_small (l := u ++ [10]) (by simp; omega)]
  have e : padL k ++ u ++ [10] ++ padL k = (padL k ++ u) ++ 10 :: padL k := by simp
  rw [e, scan_join _ false (padL k ++ u) (padL k) (Nat.le_refl _), scan_pad0, joinR_nil, List.append_assoc, scan_pad]
theorem scan_bad_le : ∀ (k : Nat) (b : Bool) (l : List UInt8) {p : Nat} {c : Int}, l.length ≤ k → scan b l = .bad p c → p ≤ l.length
  | k, b, l, p, c, hk, h => by
    have hsk := skp_le false l
    rw [scan_eq] at h
    split at h
    · cases h
    · split at h
      · cases h; exact hsk
      · rename_i t n ht
        have h1 := (fstR_ok ht).pos
        have h2 := (fstR_ok ht).le
        rw [List.length_drop] at h2
        cases hr : scan true (l.drop (skp false l + n)) with
        | ok ts => rw [hr] at h; cases h
        | bad p' c' =>
          rw [hr] at h
          cases h
          cases k with
          | zero => omega
          | succ k =>
            have := scan_bad_le k true _ (by rw [List.length_drop]; omega) hr
            rw [List.length_drop] at this
            omega
theorem full_bad_le {l : List UInt8} {p : Nat} {c : Int} (h : full l = .bad p c) : p ≤ 4096 := by
  unfold full at h
  split at h
  · cases h; omega
  · have := scan_bad_le _ false l (Nat.le_refl _) h; omega
end Go.Proofs.YtnkadfbdmffhcaaDoor
