/-
  Remarks and blanks behind a text, apart from memory.
-/
import Derived.Test.YtnkadfbdmffhcaaDoorTokS
namespace Go.Proofs.YtnkadfbdmffhcaaDoor
open Go.RowKit Go.Lib
set_option linter.unusedVariables false

theorem app_list (a b : ByteArray) : (a ++ b).data.toList = a.data.toList ++ b.data.toList := by
  rw [ByteArray.data_append]; simp
theorem skp_note : ∀ (n : List UInt8), (∀ c ∈ n, c ≠ 10) → skp true n = n.length ∧ skp true (n ++ [10]) = n.length + 1
  | [], _ => by simp [skp]
  | c :: n, h => by
    obtain ⟨h1, h2⟩ := skp_note n (fun d hd => h d (by simp [hd]))
    have hc : ¬ c = 10 := h c (by simp)
    simp only [skp, List.cons_append, if_neg hc, h1, h2, List.length_cons]
    exact ⟨trivial, trivial⟩
theorem scan_note (n : List UInt8) (h : ∀ c ∈ n, c ≠ 10) : scan false (37 :: n) = .ok [] ∧ scan false (37 :: n ++ [10]) = .ok [] := by
  obtain ⟨h1, h2⟩ := skp_note n h
  have e1 : skp false (37 :: n) = n.length + 1 := by rw [skp, if_pos rfl, h1]
  have e2 : skp false (37 :: n ++ [10]) = n.length + 2 := by rw [List.cons_append, skp, if_pos rfl, h2]
  exact ⟨scan_nil _ (by rw [e1]; simp), scan_nil _ (by rw [e2]; simp)⟩
theorem full_small {l : List UInt8} (h : l.length ≤ 4096) : full l = scan false l := by unfold full; rw [if_neg (by omega)]
theorem joinR_nil (r : ScanR) (n : Nat) : joinR r n (.ok []) = r := by
  cases r <;> simp [joinR, ScanR.after]
theorem full_remarks (u n : List UInt8) (hu : u.length ≤ 1000) (hn : n.length ≤ 1000) (h : ∀ c ∈ n, c ≠ 10) :
    full (u ++ [10, 37] ++ n ++ [10]) = full (u ++ [10]) ∧ full (u ++ [10, 37] ++ n) = full (u ++ [10]) := by
  obtain ⟨h1, h2⟩ := scan_note n h
  have e1 : u ++ [10, 37] ++ n ++ [10] = u ++ 10 :: (37 :: n ++ [10]) := by simp
  have e2 : u ++ [10, 37] ++ n = u ++ 10 :: (37 :: n) := by simp
  rw [full_small (l := u ++ [10, 37] ++ n ++ [10]) (by simp; omega), full_small (l := u ++ [10, 37] ++ n) (by simp; omega), full_small (l := u ++ [10]) (by simp; omega), e1, e2]
  refine ⟨?_, ?_⟩
  · rw [scan_join _ false u (37 :: n ++ [10]) (Nat.le_refl _), h2, joinR_nil]
  · rw [scan_join _ false u (37 :: n) (Nat.le_refl _), h1, joinR_nil]
end Go.Proofs.YtnkadfbdmffhcaaDoor
