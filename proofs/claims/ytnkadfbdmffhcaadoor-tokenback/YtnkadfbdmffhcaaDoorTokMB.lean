/-
  A name that is written is read as it was, apart from memory.
-/
import Derived.Test.YtnkadfbdmffhcaaDoorTokMR
import Derived.Test.YtnkadfbdmffhcaaDoorTokQ
namespace Go.Proofs.YtnkadfbdmffhcaaDoor
open Go.RowKit Go.Lib
set_option linter.unusedVariables false

theorem pre_then (p : UInt8 → Bool) (hp : p 32 = false) : ∀ l : List UInt8, l.all p = true → pre p (l ++ [32]) = l.length
  | [], _ => by simp [pre, hp]
  | c :: l, h => by
    simp only [List.all_cons, Bool.and_eq_true] at h
    simp only [List.cons_append, pre, h.1, if_true, List.length_cons, pre_then p hp l h.2]
theorem all_of_pre {p : UInt8 → Bool} : ∀ {l : List UInt8}, pre p l = l.length → l.all p = true
  | [], _ => rfl
  | c :: l, h => by
    by_cases hc : p c = true
    · simp only [pre, hc, if_true, List.length_cons] at h
      simp [hc, all_of_pre (p := p) (l := l) (by omega)]
    · simp [pre, hc] at h
theorem scan32 : scan true [32] = .ok [] := by decide +kernel
/-- One token that takes all but the blank behind it. -/
theorem scan_one {x : List UInt8} {t : Tok} (hk : skp false (x ++ [32]) = 0) (hf : fstR (x ++ [32]) = .tok t x.length) : scan false (x ++ [32]) = .ok [{ t with tight := false }] := by
  have hd : (x ++ [32]).drop (skp false (x ++ [32])) = x ++ [32] := by rw [hk]; rfl
  rw [scan_tok (l := x ++ [32]) false (by rw [hd]; exact hf), hk, Nat.zero_add, List.drop_left, scan32]
  simp [ScanR.after]
theorem sym_not {c : UInt8} (h : symB c = true) : lowB c = false ∧ upB c = false ∧ digB c = false ∧ ¬ c = 39 ∧ punB c = false ∧ sinB c = false ∧ ¬ c = 37 ∧ blkB c = false := by
  have hm : c ∈ ([43, 45, 42, 47, 92, 94, 60, 62, 61, 126, 58, 46, 63, 64, 35, 38, 36] : List UInt8) := by simpa [symB, amongB] using h
  simp only [List.mem_cons, List.not_mem_nil, or_false] at hm
  rcases hm with rfl | rfl | rfl | rfl | rfl | rfl | rfl | rfl | rfl | rfl | rfl | rfl | rfl | rfl | rfl | rfl | rfl <;> decide
theorem low_not {c : UInt8} (h : lowB c = true) : ¬ c = 37 ∧ blkB c = false := by
  have hr : 97 ≤ c.toNat ∧ c.toNat ≤ 122 := by simpa [lowB, spanB] using h
  refine ⟨fun e => by subst e; revert hr; decide, ?_⟩
  by_cases hb : blkB c = true
  · have : c = 9 ∨ c = 10 ∨ c = 13 ∨ c = 32 := by simpa [blkB] using hb
    rcases this with rfl | rfl | rfl | rfl <;> (revert hr; decide)
  · simpa using hb

theorem esc_step (c : UInt8) (rest : List UInt8) (h : 32 ≤ c.toNat ∨ c = 10) : escB c ++ rest ≠ [] ∧ closB (escB c ++ rest) = false ∧ meanR (escB c ++ rest) = some (c, (escB c).length) := by
  unfold escB
  by_cases h1 : c = 39 ∨ c = 92
  · rw [if_pos h1]
    rcases h1 with rfl | rfl
    · exact ⟨by simp, by simp [closB], by simp [meanR_cons]⟩
    · exact ⟨by simp, by simp [closB], by simp [meanR_cons]⟩
  · rw [if_neg h1]
    by_cases h2 : c = 10
    · subst h2
      rw [if_pos rfl]
      exact ⟨by simp, by simp [closB], by simp [meanR_cons]⟩
    · rw [if_neg h2]
      have h3 : 32 ≤ c.toNat := h.resolve_right h2
      have n39 : ¬ c = 39 := fun e => h1 (Or.inl e)
      have n92 : ¬ c = 92 := fun e => h1 (Or.inr e)
      refine ⟨by simp, ?_, ?_⟩
      · cases rest <;> simp [closB, n39]
      · rw [List.singleton_append, meanR_cons]
        simp [n39, n92]
        omega
theorem quo_esc : ∀ (l acc : List UInt8) (a : Nat), (∀ c ∈ l, 32 ≤ c.toNat ∨ c = 10) → quo acc (escL l ++ [39, 32]) a = limR ⟨1, acc ++ l, 0, true, false⟩ (a + (escL l).length + 1)
  | [], acc, a, _ => by
    rw [quo_ne _ _ (show escL [] ++ [39, 32] ≠ [] by simp [escL])]
    have : closB (escL [] ++ [39, 32]) = true := by decide
    rw [if_pos this]
    simp [escL]
  | c :: l, acc, a, h => by
    obtain ⟨h1, h2, h3⟩ := esc_step c (escL l ++ [39, 32]) (h c (by simp))
    have e : escL (c :: l) ++ [39, 32] = escB c ++ (escL l ++ [39, 32]) := by simp [escL]
    rw [e, quo_ne _ _ h1, h2, h3]
    simp only [Bool.false_eq_true, if_false]
    rw [List.drop_left, quo_esc l (acc ++ [c]) _ (fun d hd => h d (by simp [hd]))]
    simp [escL, Nat.add_assoc]

theorem full_back (l : List UInt8) (hl : l.length ≤ 64) (h : ∀ c ∈ l, 32 ≤ c.toNat ∨ c = 10) (hb : l ≠ [91, 93]) :
    full (quoteL l ++ [32]) = .ok [⟨1, l, 0, !plainB l, false⟩] := by
  have hq : (quoteL l ++ [32]).length ≤ 4096 := by
    have := escL_length l
    unfold quoteL
    split <;> simp <;> omega
  rw [full_small hq]
  have hw : wrt 1 l = .tok ⟨1, l, 0, false, false⟩ l.length := by
    unfold wrt limR; rw [if_neg (by simp; omega)]
  by_cases hp : plainB l = true
  · have hql : quoteL l = l := by unfold quoteL; rw [if_pos hp]
    rw [hql, hp]
    unfold plainB at hp
    split at hp
    · cases hp
    · rename_i h0
      have hne : l ≠ [] := fun e => h0 (Or.inl e)
      have h46 : l ≠ [46] := fun e => h0 (Or.inr e)
      split at hp
      · rename_i h3
        rcases h3 with rfl | rfl | rfl
        · exact absurd rfl hb
        · decide +kernel
        · decide +kernel
      · obtain ⟨c, r, rfl⟩ := List.exists_cons_of_ne_nil hne
        simp only [List.headD_cons, Bool.or_eq_true, Bool.and_eq_true, decide_eq_true_eq] at hp
        rcases hp with ⟨hc, ha⟩ | ha
        · obtain ⟨n1, n2⟩ := low_not hc
          have e := pre_then wordB (by decide) _ (all_of_pre ha)
          refine scan_one (x := c :: r) (t := ⟨1, c :: r, 0, false, false⟩) ?_ ?_
          · rw [List.cons_append, skp, if_neg n1, n2]; simp
          · rw [List.cons_append]
            unfold fstR
            simp only [hc, if_true]
            rw [← List.cons_append, e, List.take_left, hw]
        · have hall := all_of_pre ha
          have hc : symB c = true := by simp only [List.all_cons, Bool.and_eq_true] at hall; exact hall.1
          obtain ⟨n1, n2, n3, n4, n5, n6, n7, n8⟩ := sym_not hc
          have e := pre_then symB (by decide) _ hall
          have hend : endsB (c :: r ++ [32]) = false := by
            show (c == 46 && (decide (r ++ [32] = []) || decide (0 < skp false (r ++ [32])))) = false
            by_cases h6 : c = 46
            · subst h6
              cases r with
              | nil => exact absurd rfl h46
              | cons d r =>
                have hd : symB d = true := by simp only [List.all_cons, Bool.and_eq_true] at hall; exact hall.2.1
                obtain ⟨_, _, _, _, _, _, m7, m8⟩ := sym_not hd
                have : skp false (d :: r ++ [32]) = 0 := by rw [List.cons_append, skp, if_neg m7, m8]; simp
                rw [this]; simp
            · simp [h6]
          refine scan_one (x := c :: r) (t := ⟨1, c :: r, 0, false, false⟩) ?_ ?_
          · rw [List.cons_append, skp, if_neg n7, n8]; simp
          · rw [List.cons_append] at hend ⊢
            unfold fstR
            simp only [n1, n2, n3, n5, n6, hend, hc, if_neg n4, Bool.false_eq_true, if_false, if_true]
            rw [← List.cons_append, e, List.take_left, hw]
  · have hql : quoteL l = 39 :: escL l ++ [39] := by unfold quoteL; rw [if_neg hp]
    have hpf : plainB l = false := by simpa using hp
    rw [hql, hpf]
    have hsc := scan_one (x := 39 :: escL l ++ [39]) (t := ⟨1, l, 0, true, false⟩) (by simp [skp, blkB]) (by
      have hx : 39 :: escL l ++ [39] ++ [32] = 39 :: (escL l ++ [39, 32]) := by simp
      rw [hx]
      have hz : fstR (39 :: (escL l ++ [39, 32])) = quo [] (escL l ++ [39, 32]) 1 := by
        unfold fstR
        simp only [show lowB 39 = false by decide, show upB 39 = false by decide, show digB 39 = false by decide, Bool.false_eq_true, if_false, if_true]
        rfl
      rw [hz, quo_esc l [] 1 h]
      unfold limR
      rw [if_neg (by simp; omega)]
      simp
      omega)
    rw [hsc]
    rfl
end Go.Proofs.YtnkadfbdmffhcaaDoor
