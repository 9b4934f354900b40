/-
  Figures of a number, apart from memory.
-/
import Derived.Test.YtnkadfbdmffhcaaDoorTokMP
namespace Go.Proofs.YtnkadfbdmffhcaaDoor
open Go.RowKit Go.Lib
set_option linter.unusedVariables false

def dig (n : Nat) : UInt8 := UInt8.ofNat (48 + n % 10)
theorem dig_nat (n : Nat) : (dig n).toNat = 48 + n % 10 := by
  unfold dig
  rw [UInt8.toNat_ofNat']
  omega
theorem dig_digit (n : Nat) : digB (dig n) = true := by simp [digB, spanB, dig_nat]; omega
def fig (n : Nat) : List UInt8 := if h : n < 10 then [dig n] else fig (n / 10) ++ [dig n]
theorem fig_small {n : Nat} (h : n < 10) : fig n = [dig n] := by rw [fig, dif_pos h]
theorem fig_big {n : Nat} (h : ¬ n < 10) : fig n = fig (n / 10) ++ [dig n] := by rw [fig, dif_neg h]
theorem fig_all (n : Nat) : ∀ c ∈ fig n, digB c = true := by
  induction n using Nat.strongRecOn with
  | ind n ih =>
    by_cases h : n < 10
    · rw [fig_small h]; intro c hc; simp at hc; subst hc; exact dig_digit n
    · rw [fig_big h]
      intro c hc
      rcases List.mem_append.1 hc with hc | hc
      · exact ih (n / 10) (by omega) c hc
      · simp at hc; subst hc; exact dig_digit n
theorem fig_ne (n : Nat) : fig n ≠ [] := by
  by_cases h : n < 10
  · rw [fig_small h]; simp
  · rw [fig_big h]; simp
theorem fig_length : ∀ (k n : Nat), n < 10 ^ (k + 1) → (fig n).length ≤ k + 1
  | 0, n, h => by rw [fig_small (by simpa using h)]; simp
  | k + 1, n, h => by
    by_cases h10 : n < 10
    · rw [fig_small h10]; simp
    · rw [fig_big h10, List.length_append]
      have := fig_length k (n / 10) (by rw [Nat.pow_succ] at h; omega)
      simp; omega
theorem parse_append (M : Nat) : ∀ (l r : List UInt8) (acc a : Nat), Lib.parseUintM M acc l = .ok a → Lib.parseUintM M acc (l ++ r) = Lib.parseUintM M a r
  | [], r, acc, a, h => by cases h; rfl
  | c :: l, r, acc, a, h => by
    simp only [List.cons_append, Lib.parseUintM] at h ⊢
    split at h
    · split at h
      · cases h
      · split at h
        · cases h
        · rename_i h1 h2 h3
          rw [if_pos h1, if_neg h2, if_neg h3]
          exact parse_append M l r _ a h
    · cases h
theorem parse_fig (n : Nat) (h : n < 18446744073709551616) : Lib.parseUintM (2 ^ 64 - 1) 0 (fig n) = .ok n := by
  induction n using Nat.strongRecOn with
  | ind n ih =>
    have hd := dig_nat n
    by_cases h10 : n < 10
    · rw [fig_small h10]
      simp only [Lib.parseUintM, hd]
      rw [if_pos (by omega), if_neg (by omega), if_neg (by omega)]
      congr 1; omega
    · rw [fig_big h10, parse_append _ _ _ _ _ (ih (n / 10) (by omega) (by omega))]
      simp only [Lib.parseUintM, hd]
      rw [if_pos (by omega), if_neg (by omega), if_neg (by omega)]
      congr 1; omega
theorem pre_all_dig : ∀ (l r : List UInt8), (∀ c ∈ l, digB c = true) → pre digB (l ++ r) = l.length + pre digB r
  | [], r, _ => by simp
  | c :: l, r, h => by
    have := pre_all_dig l r (fun d hd => h d (by simp [hd]))
    simp only [List.cons_append, pre, h c (by simp), if_true, List.length_cons, this]
    omega
theorem digit_kinds {c : UInt8} (h : digB c = true) : lowB c = false ∧ upB c = false ∧ blkB c = false ∧ c ≠ 37 := by
  have hc : 48 ≤ c.toNat ∧ c.toNat ≤ 57 := by simpa [digB, spanB] using h
  have hne : ∀ d : UInt8, (d.toNat < 48 ∨ 57 < d.toNat) → c ≠ d := fun d hd e => by subst e; omega
  refine ⟨by simp [lowB, spanB]; omega, ?_, ?_, hne 37 (by decide)⟩
  · have h1 : c ≠ 95 := hne 95 (by decide)
    simp [upB, spanB, amongB, h1]; omega
  · simp [blkB, hne 9 (by decide), hne 10 (by decide), hne 13 (by decide), hne 32 (by decide)]
theorem fst_digit {c : UInt8} {r : List UInt8} (h : digB c = true) : fstR (c :: r) = numR (c :: r) ∧ skp false (c :: r) = 0 := by
  obtain ⟨h1, h2, h3, h4⟩ := digit_kinds h
  refine ⟨by simp only [fstR, h1, h2, h, if_true, Bool.false_eq_true, if_false], by simp [skp, h4, h3]⟩

/-- A number's figures behind a blank. -/
theorem full_int (n : Nat) (h : n < 18446744073709551616) : full (32 :: fig n) = if 9223372036854775808 < n then .bad 1 2 else .ok [⟨3, [], IntKind.i64.wrap n, false, false⟩] := by
  have hl := fig_length 19 n (by omega)
  rw [full_small (by simp; omega)]
  obtain ⟨c, r, hc⟩ := List.exists_cons_of_ne_nil (fig_ne n)
  have hdc : digB c = true := fig_all n c (by rw [hc]; simp)
  obtain ⟨f1, f2⟩ := fst_digit (r := r) hdc
  rw [← hc] at f1 f2
  have hs : skp false (32 :: fig n) = 1 := by simp [skp, blkB, f2]
  have hp : pre digB (fig n) = (fig n).length := by have := pre_all_dig (fig n) [] (fig_all n); simpa [pre] using this
  have hn : numR (fig n) = if 9223372036854775808 < n then .bad 2 else .tok ⟨3, [], IntKind.i64.wrap n, false, false⟩ (fig n).length := by
    unfold numR
    rw [hp, List.drop_length, List.take_length]
    have : Lib.parseUintB 64 (fig n) = .ok n := by unfold Lib.parseUintB; rw [if_neg (fig_ne n)]; exact parse_fig n h
    rw [this]
    simp [frac]
  rw [scan_eq, hs]
  have hd1 : (32 :: fig n).drop 1 = fig n := rfl
  rw [hd1, if_neg (fig_ne n), f1, hn]
  by_cases hb : 9223372036854775808 < n
  · rw [if_pos hb, if_pos hb]
  · rw [if_neg hb, if_neg hb]
    have hd2 : (32 :: fig n).drop (1 + (fig n).length) = [] := by simp; omega
    simp only [hd2]
    have hnil : scan true [] = .ok [] := scan_nil _ (by simp)
    rw [hnil]
    rfl
/-- .. with a point, and figures behind it. -/
theorem full_point (n m : Nat) (hl : (fig n).length ≤ 20) (hm : (fig m).length ≤ 20) : full (fig n ++ [46] ++ fig m) = .bad 0 4 := by
  rw [full_small (by simp; omega)]
  obtain ⟨c, r, hc⟩ := List.exists_cons_of_ne_nil (fig_ne n)
  obtain ⟨d, q, hd⟩ := List.exists_cons_of_ne_nil (fig_ne m)
  have hdc : digB c = true := fig_all n c (by rw [hc]; simp)
  have hdd : digB d = true := fig_all m d (by rw [hd]; simp)
  have e : fig n ++ [46] ++ fig m = c :: (r ++ [46] ++ fig m) := by rw [hc]; simp
  obtain ⟨f1, f2⟩ := fst_digit (r := r ++ [46] ++ fig m) hdc
  rw [← e] at f1 f2
  have hp : pre digB (fig n ++ [46] ++ fig m) = (fig n).length := by
    rw [List.append_assoc, pre_all_dig (fig n) _ (fig_all n)]
    have : pre digB ([46] ++ fig m) = 0 := by simp [pre, digB, spanB]
    omega
  have hn : numR (fig n ++ [46] ++ fig m) = .bad 4 := by
    unfold numR
    have hdr : (fig n ++ [46] ++ fig m).drop (fig n).length = 46 :: fig m := by rw [List.append_assoc, List.drop_left]; rfl
    rw [hp, hdr]
    have hf : frac (46 :: fig m) = true := by rw [hd]; simp [frac, hdd]
    rw [if_pos hf]
  rw [scan_eq, f2, List.drop_zero, if_neg (by rw [e]; simp), f1, hn]
end Go.Proofs.YtnkadfbdmffhcaaDoor
