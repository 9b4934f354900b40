/-
  WriterNames: names are told apart by their texts.
-/
import Derived.Test.YtfencolokfghfaaDoorWrH
namespace Go.Proofs.YtfencolokfghfaaDoor
open Go.Shelf Go.RowKit Go.Sort
set_option linter.unusedVariables false

/-! ### What names' texts are like -/
theorem esc_no10 : ∀ (l : List UInt8), 10 ∉ escL l
  | [] => by simp [escL]
  | c :: l => by
    have := esc_no10 l
    rw [escL, List.mem_append]
    rintro (h | h)
    · unfold escB at h
      split at h
      · rename_i hc
        rcases hc with rfl | rfl <;> simp at h
      · split at h
        · simp at h
        · rename_i h1 h2
          simp at h
          exact h2 h.symm
    · exact this h
theorem pre_mem {p : UInt8 → Bool} : ∀ {l : List UInt8}, pre p l = l.length → ∀ c ∈ l, p c = true
  | [], _, c, h => by cases h
  | d :: l, e, c, h => by
    unfold pre at e
    split at e
    · rename_i hd
      rcases List.mem_cons.1 h with rfl | h
      · exact hd
      · exact pre_mem (by simpa using e) c h
    · simp at e
/-- A plain name: its bytes. -/
theorem plain_cases {l : List UInt8} (h : plainB l = true) : (l = [91, 93] ∨ l = [33] ∨ l = [59]) ∨ (l ≠ [] ∧ lowB (l.headD 0) = true ∧ ∀ c ∈ l, wordB c = true) ∨ (l ≠ [] ∧ ∀ c ∈ l, symB c = true) := by
  unfold plainB at h
  split at h
  · cases h
  · rename_i h0
    have hne : l ≠ [] := fun e => h0 (.inl e)
    split at h
    · rename_i h1; exact .inl h1
    · simp only [Bool.or_eq_true, Bool.and_eq_true, decide_eq_true_eq] at h
      rcases h with ⟨h1, h2⟩ | h2
      · exact .inr (.inl ⟨hne, h1, pre_mem h2⟩)
      · exact .inr (.inr ⟨hne, pre_mem h2⟩)
theorem plain_not {l : List UInt8} (h : plainB l = true) {c : UInt8} (hc : c = 10 ∨ c = 32 ∨ c = 39) : c ∉ l := by
  intro hm
  rcases plain_cases h with (rfl | rfl | rfl) | ⟨-, -, hw⟩ | ⟨-, hw⟩
  · rcases hc with rfl | rfl | rfl <;> simp at hm
  · rcases hc with rfl | rfl | rfl <;> simp at hm
  · rcases hc with rfl | rfl | rfl <;> simp at hm
  · have := hw c hm
    rcases hc with rfl | rfl | rfl <;> exact absurd this (by decide)
  · have := hw c hm
    rcases hc with rfl | rfl | rfl <;> exact absurd this (by decide)
theorem quote_no10 (l : List UInt8) : 10 ∉ quoteL l := by
  unfold quoteL
  split
  · rename_i h; exact plain_not h (.inl rfl)
  · have := esc_no10 l
    simp [this]
theorem quote_head {l : List UInt8} (h : 32 ∈ quoteL l) : (quoteL l)[0]? = some 39 := by
  unfold quoteL at h ⊢
  split at h
  · rename_i hp; exact absurd h (plain_not hp (.inr (.inl rfl)))
  · rename_i hp; rw [if_neg hp]; rfl
theorem escB_ne (c : UInt8) : ∃ d r, escB c = d :: r := by
  unfold escB
  split
  · exact ⟨_, _, rfl⟩
  · split <;> exact ⟨_, _, rfl⟩
theorem esc_inj : ∀ (l m : List UInt8), escL l = escL m → l = m
  | [], [], _ => rfl
  | [], d :: m, h => by obtain ⟨e, r, he⟩ := escB_ne d; rw [escL, escL, he] at h; simp at h
  | c :: l, [], h => by obtain ⟨e, r, he⟩ := escB_ne c; rw [escL, escL, he] at h; simp at h
  | c :: l, d :: m, h => by
    rw [escL, escL] at h
    have key : c = d ∧ escL l = escL m := by
      unfold escB at h
      by_cases c1 : c = 39 ∨ c = 92
      · rw [if_pos c1] at h
        by_cases d1 : d = 39 ∨ d = 92
        · rw [if_pos d1] at h
          simp at h
          exact h
        · rw [if_neg d1] at h
          by_cases d2 : d = 10
          · rw [if_pos d2] at h
            simp at h
            rcases c1 with rfl | rfl <;> simp at h
          · rw [if_neg d2] at h
            simp at h
            rw [h.1] at c1
            exact absurd c1 d1
      · rw [if_neg c1] at h
        by_cases d1 : d = 39 ∨ d = 92
        · rw [if_pos d1] at h
          by_cases c2 : c = 10
          · rw [if_pos c2] at h
            simp at h
            rcases d1 with rfl | rfl <;> simp at h
          · rw [if_neg c2] at h
            simp at h
            rw [← h.1] at d1
            exact absurd d1 c1
        · rw [if_neg d1] at h
          by_cases c2 : c = 10
          · rw [if_pos c2] at h
            by_cases d2 : d = 10
            · rw [if_pos d2] at h
              simp at h
              exact ⟨c2.trans d2.symm, h⟩
            · rw [if_neg d2] at h
              simp at h
              exact absurd (.inr h.1.symm) d1
          · rw [if_neg c2] at h
            by_cases d2 : d = 10
            · rw [if_pos d2] at h
              simp at h
              exact absurd (.inr h.1) c1
            · rw [if_neg d2] at h
              simp at h
              exact h
    rw [key.1, esc_inj l m key.2]
theorem quote_inj {l m : List UInt8} (h : quoteL l = quoteL m) : l = m := by
  unfold quoteL at h
  by_cases hl : plainB l = true
  · rw [if_pos hl] at h
    by_cases hm : plainB m = true
    · rw [if_pos hm] at h; exact h
    · rw [if_neg hm] at h
      exact absurd (by rw [h]; simp : (39 : UInt8) ∈ l) (plain_not hl (.inr (.inr rfl)))
  · rw [if_neg hl] at h
    by_cases hm : plainB m = true
    · rw [if_pos hm] at h
      exact absurd (by rw [← h]; simp : (39 : UInt8) ∈ m) (plain_not hm (.inr (.inr rfl)))
    · rw [if_neg hm] at h
      simp at h
      exact esc_inj l m h
theorem dec_dig (u : Nat) : ∀ c ∈ Lib.decDigits u, digB c = true := by
  intro c hc
  rw [Lib.decDigits_eq] at hc
  obtain ⟨t, -, rfl⟩ := List.mem_map.1 hc
  unfold Lib.dg
  simp only [digB, spanB, Bool.and_eq_true, decide_eq_true_eq]
  rw [UInt8.toNat_ofNat']
  omega
/-- A number's text has a figure, and begins with one, or with a hyphen. -/
theorem itoa_dig (n : Int) : (∃ c ∈ Lib.itoa n, digB c = true) ∧ ∃ c r, Lib.itoa n = c :: r ∧ (digB c = true ∨ c = 45) := by
  have hd : ∀ u, ∃ c r, Lib.decDigits u = c :: r ∧ digB c = true := fun u => by
    cases h : Lib.decDigits u with
    | nil => exact absurd h (dec_ne u)
    | cons c r => exact ⟨c, r, rfl, dec_dig u c (by rw [h]; simp)⟩
  unfold Lib.itoa
  split
  · obtain ⟨c, r, h1, h2⟩ := hd n.natAbs
    exact ⟨⟨c, by rw [h1]; simp, h2⟩, 45, _, rfl, .inr rfl⟩
  · obtain ⟨c, r, h1, h2⟩ := hd n.toNat
    exact ⟨⟨c, by rw [h1]; simp, h2⟩, c, r, h1, .inl h2⟩
theorem quote_num (l : List UInt8) (n : Int) : quoteL l ≠ Lib.itoa n := by
  intro h
  obtain ⟨⟨c, hc, hd⟩, d, r, he, hdr⟩ := itoa_dig n
  unfold quoteL at h
  split at h
  · rename_i hp
    rcases plain_cases hp with (rfl | rfl | rfl) | ⟨-, hlow, -⟩ | ⟨-, hw⟩
    · rw [he] at h; simp at h; rcases hdr with h1 | h1
      · rw [← h.1] at h1; exact absurd h1 (by decide)
      · rw [h1] at h; simp at h
    · rw [he] at h; simp at h; rcases hdr with h1 | h1
      · rw [← h.1] at h1; exact absurd h1 (by decide)
      · rw [h1] at h; simp at h
    · rw [he] at h; simp at h; rcases hdr with h1 | h1
      · rw [← h.1] at h1; exact absurd h1 (by decide)
      · rw [h1] at h; simp at h
    · rw [h, he] at hlow
      simp only [List.headD_cons] at hlow
      rcases hdr with h1 | h1
      · simp only [lowB, digB, spanB, Bool.and_eq_true, decide_eq_true_eq] at hlow h1; omega
      · rw [h1] at hlow; exact absurd hlow (by decide)
    · rw [← h] at hc
      have := hw c hc
      have h48 : 48 ≤ c.toNat ∧ c.toNat ≤ 57 := by simpa [digB, spanB] using hd
      unfold symB amongB at this
      simp at this
      rcases this with rfl | rfl | rfl | rfl | rfl | rfl | rfl | rfl | rfl | rfl | rfl | rfl | rfl | rfl | rfl | rfl | rfl <;> exact absurd h48 (by decide)
  · rw [he] at h
    simp at h
    rcases hdr with h1 | h1
    · rw [← h.1] at h1; exact absurd h1 (by decide)
    · rw [h1] at h; simp at h
theorem num_var (n : Int) : Lib.itoa n ≠ 95 :: Lib.itoa n := by
  intro h
  have := congrArg List.length h
  simp at this
theorem atom_txt (s : ByteArray) : (Tm.mk 3 0 s []).txt = quoteL s.data.toList := by rw [Tm.txt_mk]; rfl
theorem num_txt (n : Int) : (Tm.mk 2 n (ByteArray.mk #[]) []).txt = Lib.itoa n := by rw [Tm.txt_mk]; rfl
theorem let_txt (n : Int) : (Tm.mk 1 n (ByteArray.mk #[]) []).txt = 95 :: Lib.itoa n := by rw [Tm.txt_mk]; rfl
theorem str_ne {a b : List UInt8} (h : a ≠ b) : ((strV a).toList == (strV b).toList) = false := by
  rw [ByteArray.toList_eq, ByteArray.toList_eq]
  simp only [beq_eq_false_iff_ne, ne_eq]
  exact h
theorem one_byt (k n : Int) (s : ByteArray) : (Tm.mk k n s []).byt = s.size := by rw [Tm.byt_mk, Tm.byts_nil]; rfl
theorem one_size (k n : Int) (s : ByteArray) : (Tm.mk k n s []).size = 1 := by rw [Tm.size_mk, Tm.sizes_nil]
end Go.Proofs.YtfencolokfghfaaDoor
