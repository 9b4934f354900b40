/-
  Texts of terms are told apart: apart from memory.
-/
import Derived.Test.YtfencolokfghfaaDoorLawWNames
namespace Go.Proofs.YtfencolokfghfaaDoor
open Go.Shelf Go.RowKit Go.Sort
set_option linter.unusedVariables false

/-! ### Figures -/
theorem dec_step {u : Nat} (h : ¬ u < 10) : Lib.decDigits u = Lib.decDigits (u / 10) ++ [UInt8.ofNat (48 + u % 10)] := by rw [Lib.decDigits, dif_neg h]
theorem dig_inj {a b : Nat} (ha : a < 10) (hb : b < 10) (h : UInt8.ofNat (48 + a) = UInt8.ofNat (48 + b)) : a = b := by
  have := congrArg UInt8.toNat h
  rw [UInt8.toNat_ofNat', UInt8.toNat_ofNat'] at this
  omega
theorem dec_inj : ∀ (u v : Nat), Lib.decDigits u = Lib.decDigits v → u = v := by
  intro u
  induction u using Nat.strongRecOn with
  | ind u ih =>
    intro v h
    by_cases hu : u < 10
    · rw [Lib.decDigits_one hu] at h
      by_cases hv : v < 10
      · rw [Lib.decDigits_one hv] at h
        injection h with h
        exact dig_inj hu hv h
      · rw [dec_step hv] at h
        have := congrArg List.length h
        have h2 : 0 < (Lib.decDigits (v / 10)).length := List.length_pos_iff.2 (dec_ne _)
        simp only [List.length_append, List.length_cons, List.length_nil] at this
        omega
    · rw [dec_step hu] at h
      by_cases hv : v < 10
      · rw [Lib.decDigits_one hv] at h
        have := congrArg List.length h
        have h2 : 0 < (Lib.decDigits (u / 10)).length := List.length_pos_iff.2 (dec_ne _)
        simp only [List.length_append, List.length_cons, List.length_nil] at this
        omega
      · rw [dec_step hv] at h
        have h1 := List.append_inj' h rfl
        have e1 := ih (u / 10) (by omega) (v / 10) h1.1
        have e2 : UInt8.ofNat (48 + u % 10) = UInt8.ofNat (48 + v % 10) := by have := h1.2; injection this
        have := dig_inj (by omega) (by omega) e2
        omega
theorem itoa_inj {n m : Int} (h : Lib.itoa n = Lib.itoa m) : n = m := by
  have h45 : ∀ u r, Lib.decDigits u ≠ 45 :: r := fun u r e => by
    have := dec_dig u 45 (by rw [e]; simp)
    exact absurd this (by decide)
  unfold Lib.itoa at h
  split at h
  · split at h
    · injection h with _ h
      have := dec_inj _ _ h
      omega
    · exact absurd h.symm (h45 _ _)
  · split at h
    · exact absurd h (h45 _ _)
    · have := dec_inj _ _ h
      omega
/-! ### Tokens -/
def stop8 (c : UInt8) : Bool := c == 40 || (c == 41 || c == 44)
/-- What may stand behind a token. -/
def behind8 (x : List UInt8) : Prop := x = [] ∨ ∃ c r, x = c :: r ∧ stop8 c = true
/-- A token without marks. -/
def Simple (a : List UInt8) : Prop := a ≠ [] ∧ ∀ c ∈ a, stop8 c = false ∧ c ≠ 39
theorem simple_take : ∀ {a x : List UInt8}, (∀ c ∈ a, stop8 c = false) → behind8 x → (a ++ x).takeWhile (fun c => !stop8 c) = a
  | [], x, _, hx => by
    rcases hx with rfl | ⟨c, r, rfl, hc⟩
    · rfl
    · simp [hc]
  | c :: a, x, h, hx => by
    have h1 := h c (by simp)
    have ih := simple_take (a := a) (fun d hd => h d (by simp [hd])) hx
    simp [h1, ih]
theorem simple_two {a b x y : List UInt8} (ha : Simple a) (hb : Simple b) (hx : behind8 x) (hy : behind8 y) (h : a ++ x = b ++ y) : a = b ∧ x = y := by
  have h1 := simple_take (fun c hc => (ha.2 c hc).1) hx
  have h2 := simple_take (fun c hc => (hb.2 c hc).1) hy
  have e : a = b := by rw [← h1, ← h2, h]
  subst e
  exact ⟨rfl, List.append_cancel_left h⟩
theorem esc_two : ∀ (l m x y : List UInt8), behind8 x → behind8 y → escL l ++ 39 :: x = escL m ++ 39 :: y → l = m ∧ x = y
  | [], [], x, y, _, _, h => by simp [escL] at h; exact ⟨rfl, h⟩
  | [], d :: m, x, y, hx, hy, h => by
    exfalso
    rw [escL, escL] at h
    unfold escB at h
    have h39 : x.head? ≠ some 39 := by
      rcases hx with rfl | ⟨c, r, rfl, hc⟩
      · simp
      · intro e; simp at e; subst e; exact absurd hc (by decide)
    split at h
    · rename_i hd
      rcases hd with rfl | rfl
      · simp at h; rw [h] at h39; simp at h39
      · simp at h
    · split at h
      · simp at h
      · rename_i h1 h2
        simp at h
        exact h1 (.inl h.1.symm)
  | c :: l, [], x, y, hx, hy, h => by
    exfalso
    rw [escL, escL] at h
    unfold escB at h
    have h39 : y.head? ≠ some 39 := by
      rcases hy with rfl | ⟨c, r, rfl, hc⟩
      · simp
      · intro e; simp at e; subst e; exact absurd hc (by decide)
    split at h
    · rename_i hd
      rcases hd with rfl | rfl
      · simp at h; rw [← h] at h39; simp at h39
      · simp at h
    · split at h
      · simp at h
      · rename_i h1 h2
        simp at h
        exact h1 (.inl h.1)
  | c :: l, d :: m, x, y, hx, hy, h => by
    rw [escL, escL, List.append_assoc, List.append_assoc] at h
    have key : c = d ∧ escL l ++ 39 :: x = escL m ++ 39 :: y := by
      unfold escB at h
      by_cases c1 : c = 39 ∨ c = 92
      · rw [if_pos c1] at h
        by_cases d1 : d = 39 ∨ d = 92
        · rw [if_pos d1] at h
          simp at h
          exact h
        · rw [if_neg d1] at h
          by_cases d2 : d = 10
          · rw [if_pos d2] at h
            simp at h
            rcases c1 with rfl | rfl <;> simp at h
          · rw [if_neg d2] at h
            simp at h
            rw [h.1] at c1
            exact absurd c1 d1
      · rw [if_neg c1] at h
        by_cases d1 : d = 39 ∨ d = 92
        · rw [if_pos d1] at h
          by_cases c2 : c = 10
          · rw [if_pos c2] at h
            simp at h
            rcases d1 with rfl | rfl <;> simp at h
          · rw [if_neg c2] at h
            simp at h
            rw [← h.1] at d1
            exact absurd d1 c1
        · rw [if_neg d1] at h
          by_cases c2 : c = 10
          · rw [if_pos c2] at h
            by_cases d2 : d = 10
            · rw [if_pos d2] at h
              simp at h
              exact ⟨c2.trans d2.symm, h⟩
            · rw [if_neg d2] at h
              simp at h
              exact absurd (.inr h.1.symm) d1
          · rw [if_neg c2] at h
            by_cases d2 : d = 10
            · rw [if_pos d2] at h
              simp at h
              exact absurd (.inr h.1) c1
            · rw [if_neg d2] at h
              simp at h
              exact h
    have ih := esc_two l m x y hx hy key.2
    exact ⟨by rw [key.1, ih.1], ih.2⟩
/-- A token: without marks, or within. -/
def TokL (a : List UInt8) : Prop := Simple a ∨ ∃ l, a = 39 :: (escL l ++ [39])
theorem tok_two {a b x y : List UInt8} (ha : TokL a) (hb : TokL b) (hx : behind8 x) (hy : behind8 y) (h : a ++ x = b ++ y) : a = b ∧ x = y := by
  rcases ha with ha | ⟨l, rfl⟩
  · rcases hb with hb | ⟨m, rfl⟩
    · exact simple_two ha hb hx hy h
    · exfalso
      obtain ⟨c, r, rfl⟩ := List.exists_cons_of_ne_nil ha.1
      simp at h
      exact (ha.2 c (by simp)).2 h.1
  · rcases hb with hb | ⟨m, rfl⟩
    · exfalso
      obtain ⟨c, r, rfl⟩ := List.exists_cons_of_ne_nil hb.1
      simp at h
      exact (hb.2 c (by simp)).2 h.1.symm
    · simp at h
      obtain ⟨e1, e2⟩ := esc_two l m x y hx hy h
      rw [e1]
      exact ⟨rfl, e2⟩
theorem itoa_chars (n : Int) : ∀ c ∈ Lib.itoa n, digB c = true ∨ c = 45 := by
  intro c hc
  unfold Lib.itoa at hc
  split at hc
  · rcases List.mem_cons.1 hc with rfl | hc
    · exact .inr rfl
    · exact .inl (dec_dig _ c hc)
  · exact .inl (dec_dig _ c hc)
theorem dig_stop {c : UInt8} (h : digB c = true ∨ c = 45) : stop8 c = false ∧ c ≠ 39 := by
  rcases h with h | rfl
  · have h48 : 48 ≤ c.toNat ∧ c.toNat ≤ 57 := by simpa [digB, spanB] using h
    refine ⟨?_, fun e => by subst e; exact absurd h48 (by decide)⟩
    unfold stop8
    simp only [Bool.or_eq_false_iff, beq_eq_false_iff_ne, ne_eq]
    exact ⟨fun e => by subst e; exact absurd h48 (by decide), fun e => by subst e; exact absurd h48 (by decide), fun e => by subst e; exact absurd h48 (by decide)⟩
  · decide
theorem tok_int (n : Int) : Simple (Lib.itoa n) := ⟨itoa_ne n, fun c hc => dig_stop (itoa_chars n c hc)⟩
theorem tok_var (n : Int) : Simple (95 :: Lib.itoa n) := ⟨by simp, fun c hc => by
  rcases List.mem_cons.1 hc with rfl | hc
  · decide
  · exact dig_stop (itoa_chars n c hc)⟩
theorem word_stop (c : UInt8) (h : wordB c = true ∨ symB c = true) : stop8 c = false ∧ c ≠ 39 := by
  constructor
  · cases hs : stop8 c with
    | false => rfl
    | true =>
      exfalso
      unfold stop8 at hs
      simp at hs
      rcases hs with rfl | rfl | rfl <;> (rcases h with h | h <;> exact absurd h (by decide))
  · rintro rfl
    rcases h with h | h <;> exact absurd h (by decide)
theorem tok_quote (l : List UInt8) : TokL (quoteL l) := by
  unfold quoteL
  split
  · rename_i h
    refine .inl ?_
    rcases plain_cases h with (rfl | rfl | rfl) | ⟨h0, -, hw⟩ | ⟨h0, hw⟩
    · exact ⟨by simp, by decide⟩
    · exact ⟨by simp, by decide⟩
    · exact ⟨by simp, by decide⟩
    · exact ⟨h0, fun c hc => word_stop c (.inl (hw c hc))⟩
    · exact ⟨h0, fun c hc => word_stop c (.inr (hw c hc))⟩
  · exact .inr ⟨l, by simp⟩
theorem tok_fn (l : List UInt8) : TokL (fnL l) := by
  unfold fnL
  split
  · exact .inr ⟨[91, 93], by decide⟩
  · exact tok_quote l
theorem fn_inj {l m : List UInt8} (h : fnL l = fnL m) : l = m := by
  unfold fnL at h
  have key : ∀ l, l ≠ [91, 93] → quoteL l ≠ [39, 91, 93, 39] := by
    intro l hl e
    unfold quoteL at e
    split at e
    · rename_i hp
      exact absurd (by rw [e]; simp : (39 : UInt8) ∈ l) (plain_not hp (.inr (.inr rfl)))
    · have e2 : escL l = escL [91, 93] := by
        have : (39 :: escL l ++ [39] : List UInt8) = 39 :: escL [91, 93] ++ [39] := by rw [e]; decide
        simp at this
        exact this
      exact hl (esc_inj _ _ e2)
  split at h
  · split at h
    · rename_i h1 h2; rw [h1, h2]
    · rename_i h1 h2; exact absurd h.symm (key m h2)
  · split at h
    · rename_i h1 h2; exact absurd h (key l h1)
    · exact quote_inj h
/-! ### Terms -/
mutual
/-- As its kind asks, and no Fun @ of two, all through. -/
def Tm.okw : Tm → Bool
  | .mk k n s ks => ((decide (k = 1) && decide (s.data.toList = []) && decide (ks.length = 0)) || (decide (k = 2) && decide (s.data.toList = []) && decide (ks.length = 0)) || (decide (k = 3) && decide (n = 0) && !(decide (s.data.toList = [64]) && decide (ks.length = 2))) || (decide (k = 4) && decide (s.data.toList = []) && decide (ks.length = 1))) && Tm.okws ks
def Tm.okws : List Tm → Bool
  | [] => true
  | t :: ts => t.okw && Tm.okws ts
end
theorem Tm.okws_mem : ∀ {ks : List Tm}, Tm.okws ks = true → ∀ t ∈ ks, t.okw = true
  | u :: us, h, t, ht => by
    rw [Tm.okws, Bool.and_eq_true] at h
    rcases List.mem_cons.1 ht with rfl | ht
    · exact h.1
    · exact Tm.okws_mem h.2 t ht
/-- The kinds that a term may have, with their parts. -/
theorem Tm.okw_cases {k n : Int} {s : ByteArray} {ks : List Tm} (h : (Tm.mk k n s ks).okw = true) : Tm.okws ks = true ∧
    ((k = 1 ∧ s = ByteArray.mk #[] ∧ ks = []) ∨ (k = 2 ∧ s = ByteArray.mk #[] ∧ ks = []) ∨ (k = 3 ∧ n = 0 ∧ ¬ (s.data.toList = [64] ∧ ks.length = 2)) ∨ (k = 4 ∧ s = ByteArray.mk #[] ∧ ∃ t, ks = [t])) := by
  rw [Tm.okw] at h
  simp only [Bool.and_eq_true, Bool.or_eq_true, decide_eq_true_eq, Bool.not_eq_true', Bool.and_eq_false_iff, decide_eq_false_iff_not] at h
  obtain ⟨h, hks⟩ := h
  refine ⟨hks, ?_⟩
  rcases h with ((⟨⟨h1, h2⟩, h3⟩ | ⟨⟨h1, h2⟩, h3⟩) | ⟨⟨h1, h2⟩, h3⟩) | ⟨⟨h1, h2⟩, h3⟩
  · exact .inl ⟨h1, str_ext h2, List.eq_nil_of_length_eq_zero h3⟩
  · exact .inr (.inl ⟨h1, str_ext h2, List.eq_nil_of_length_eq_zero h3⟩)
  · exact .inr (.inr (.inl ⟨h1, h2, fun e => h3.elim (fun h => h e.1) (fun h => h e.2)⟩))
  · refine .inr (.inr (.inr ⟨h1, str_ext h2, ?_⟩))
    match ks, h3 with
    | [t], _ => exact ⟨t, rfl⟩
/-- What may stand behind a term. -/
def end8 (r : List UInt8) : Prop := r = [] ∨ ∃ c x, r = c :: x ∧ (c = 41 ∨ c = 44)
theorem end8.behind {r : List UInt8} (h : end8 r) : behind8 r := by
  rcases h with rfl | ⟨c, x, rfl, hc⟩
  · exact .inl rfl
  · exact .inr ⟨c, x, rfl, by rcases hc with rfl | rfl <;> decide⟩
/-- A term's first token, and what stands behind it. -/
def hd8 : Tm → List UInt8
  | .mk k n s ks => if k = 1 then 95 :: Lib.itoa n else if k = 2 then Lib.itoa n else if k = 3 then (if ks.length = 0 then quoteL s.data.toList else fnL s.data.toList) else [64]
def tl8 : Tm → List UInt8
  | .mk k n s ks => if k = 1 then [] else if k = 2 then [] else if k = 3 then (if ks.length = 0 then [] else 40 :: ((Tm.txtc ks).tail ++ [41])) else 40 :: ((Tm.txtc ks).tail ++ (44 :: (Lib.itoa n ++ [41])))
theorem hd8_mk (k n : Int) (s : ByteArray) (ks : List Tm) : hd8 (.mk k n s ks) = if k = 1 then 95 :: Lib.itoa n else if k = 2 then Lib.itoa n else if k = 3 then (if ks.length = 0 then quoteL s.data.toList else fnL s.data.toList) else [64] := rfl
theorem tl8_mk (k n : Int) (s : ByteArray) (ks : List Tm) : tl8 (.mk k n s ks) = if k = 1 then [] else if k = 2 then [] else if k = 3 then (if ks.length = 0 then [] else 40 :: ((Tm.txtc ks).tail ++ [41])) else 40 :: ((Tm.txtc ks).tail ++ (44 :: (Lib.itoa n ++ [41]))) := rfl
theorem txt_split {T : Tm} (h : T.okw = true) : T.txt = hd8 T ++ tl8 T := by
  obtain ⟨k, n, s, ks⟩ := T
  obtain ⟨-, ⟨rfl, rfl, rfl⟩ | ⟨rfl, rfl, rfl⟩ | ⟨rfl, rfl, -⟩ | ⟨rfl, rfl, t, rfl⟩⟩ := Tm.okw_cases h
  · rw [Tm.txt_mk]; simp [hd8, tl8]
  · rw [Tm.txt_mk]; simp [hd8, tl8]
  · rw [Tm.txt_mk]
    by_cases h0 : ks.length = 0
    · simp [hd8, tl8, h0]
    · simp [hd8, tl8, h0]
  · rw [Tm.txt_mk]; simp [hd8, tl8]
theorem hd_tok {T : Tm} (h : T.okw = true) : TokL (hd8 T) := by
  obtain ⟨k, n, s, ks⟩ := T
  obtain ⟨-, ⟨rfl, rfl, rfl⟩ | ⟨rfl, rfl, rfl⟩ | ⟨rfl, rfl, -⟩ | ⟨rfl, rfl, t, rfl⟩⟩ := Tm.okw_cases h
  · exact .inl (tok_var n)
  · exact .inl (tok_int n)
  · rw [hd8_mk, if_neg (by decide), if_neg (by decide), if_pos rfl]
    split
    · exact tok_quote _
    · exact tok_fn _
  · exact .inl (show Simple [64] from ⟨by simp, fun c hc => by simp at hc; subst hc; decide⟩)
theorem tl_behind (T : Tm) {r : List UInt8} (hr : end8 r) : behind8 (tl8 T ++ r) := by
  obtain ⟨k, n, s, ks⟩ := T
  rw [tl8_mk]
  split
  · exact hr.behind
  · split
    · exact hr.behind
    · split
      · split
        · exact hr.behind
        · exact .inr ⟨40, _, rfl, by decide⟩
      · exact .inr ⟨40, _, rfl, by decide⟩
/-- What a first token may begin with. -/
theorem quote_first (l : List UInt8) : ∃ c r, quoteL l = c :: r ∧ c ≠ 95 := by
  cases h : quoteL l with
  | nil => exact absurd h (quoteL_ne l)
  | cons c r =>
    refine ⟨c, r, rfl, ?_⟩
    rintro rfl
    unfold quoteL at h
    split at h
    · rename_i hp
      rcases plain_cases hp with (rfl | rfl | rfl) | ⟨-, hl, -⟩ | ⟨-, hw⟩
      · simp at h
      · simp at h
      · simp at h
      · rw [h] at hl; exact absurd (show lowB 95 = true from hl) (by decide)
      · have := hw 95 (by rw [h]; simp); exact absurd this (by decide)
    · simp at h
theorem fn_first (l : List UInt8) : ∃ c r, fnL l = c :: r ∧ c ≠ 95 := by
  unfold fnL
  split
  · exact ⟨39, _, rfl, by decide⟩
  · exact quote_first l
theorem fn_num (l : List UInt8) (n : Int) : fnL l ≠ Lib.itoa n := by
  unfold fnL
  split
  · intro h
    have := itoa_chars n 39 (by rw [← h]; simp)
    rcases this with h | h
    · exact absurd h (by decide)
    · exact absurd h (by decide)
  · exact quote_num l n
theorem var_num (n m : Int) : 95 :: Lib.itoa n ≠ Lib.itoa m := by
  intro h
  have := itoa_chars m 95 (by rw [← h]; simp)
  rcases this with h | h
  · exact absurd h (by decide)
  · exact absurd h (by decide)
theorem fn_at : fnL [64] = [64] := by decide
theorem quote_at64 : quoteL [64] = [64] := by decide
theorem num_at64 (n : Int) : Lib.itoa n ≠ [64] := by
  intro h
  have := itoa_chars n 64 (by rw [h]; simp)
  rcases this with h | h
  · exact absurd h (by decide)
  · exact absurd h (by decide)
/-- The text of one term, and what stands behind it, tell both. -/
def One (T : Tm) : Prop := ∀ U r s, U.okw = true → end8 r → end8 s → T.txt ++ r = U.txt ++ s → T = U ∧ r = s
theorem kids_one : ∀ (ks : List Tm), (∀ t ∈ ks, One t) → ∀ (us : List Tm) (r s : List UInt8), Tm.okws us = true → Tm.txtc ks ++ 41 :: r = Tm.txtc us ++ 41 :: s → ks = us ∧ r = s
  | [], _, [], r, s, _, h => by rw [Tm.txtc_nil] at h; simp at h; exact ⟨rfl, h⟩
  | [], _, u :: us, r, s, _, h => by rw [Tm.txtc_nil, Tm.txtc_cons] at h; simp at h
  | k :: ks, _, [], r, s, _, h => by rw [Tm.txtc_nil, Tm.txtc_cons] at h; simp at h
  | k :: ks, ih, u :: us, r, s, hu, h => by
    rw [Tm.okws, Bool.and_eq_true] at hu
    rw [Tm.txtc_cons, Tm.txtc_cons] at h
    simp only [List.cons_append, List.append_assoc, List.cons.injEq, true_and] at h
    have he : ∀ (l : List Tm) (x : List UInt8), end8 (Tm.txtc l ++ 41 :: x) := by
      intro l x
      cases l with
      | nil => rw [Tm.txtc_nil]; exact .inr ⟨41, x, rfl, .inl rfl⟩
      | cons t ts => rw [Tm.txtc_cons]; exact .inr ⟨44, _, rfl, .inr rfl⟩
    obtain ⟨e1, e2⟩ := ih k (by simp) u _ _ hu.1 (he ks r) (he us s) h
    obtain ⟨e3, e4⟩ := kids_one ks (fun t ht => ih t (by simp [ht])) us r s hu.2 e2
    exact ⟨by rw [e1, e3], e4⟩
theorem end_c (l : List Tm) (x : List UInt8) : end8 (Tm.txtc l ++ 41 :: x) := by
  cases l with
  | nil => rw [Tm.txtc_nil]; exact .inr ⟨41, x, rfl, .inl rfl⟩
  | cons t ts => rw [Tm.txtc_cons]; exact .inr ⟨44, _, rfl, .inr rfl⟩
theorem end_40 {r x : List UInt8} (h : end8 r) : r ≠ 40 :: x := by
  rintro rfl
  rcases h with h | ⟨c, y, h, hc⟩
  · cases h
  · injection h with h1 h2
    subst h1
    rcases hc with h | h <;> exact absurd h (by decide)
/-- Both texts by their first tokens. -/
theorem by_first {T U : Tm} {r s : List UInt8} (hT : T.okw = true) (hU : U.okw = true) (hr : end8 r) (hs : end8 s) (h : T.txt ++ r = U.txt ++ s) : hd8 T = hd8 U ∧ tl8 T ++ r = tl8 U ++ s := by
  have h' : hd8 T ++ (tl8 T ++ r) = hd8 U ++ (tl8 U ++ s) := by
    rw [txt_split hT, txt_split hU] at h
    simpa [List.append_assoc] using h
  exact tok_two (hd_tok hT) (hd_tok hU) (tl_behind _ hr) (tl_behind _ hs) h'
theorem hd1 (n : Int) : hd8 (.mk 1 n (ByteArray.mk #[]) []) = 95 :: Lib.itoa n := rfl
theorem hd2 (n : Int) : hd8 (.mk 2 n (ByteArray.mk #[]) []) = Lib.itoa n := rfl
theorem hd30 (s : ByteArray) : hd8 (.mk 3 0 s []) = quoteL s.data.toList := rfl
theorem hd31 (s : ByteArray) (k : Tm) (ks : List Tm) : hd8 (.mk 3 0 s (k :: ks)) = fnL s.data.toList := rfl
theorem hd4 (n : Int) (t : Tm) : hd8 (.mk 4 n (ByteArray.mk #[]) [t]) = [64] := rfl
theorem tl1 (n : Int) : tl8 (.mk 1 n (ByteArray.mk #[]) []) = [] := rfl
theorem tl2 (n : Int) : tl8 (.mk 2 n (ByteArray.mk #[]) []) = [] := rfl
theorem tl30 (s : ByteArray) : tl8 (.mk 3 0 s []) = [] := rfl
theorem tl31 (s : ByteArray) (k : Tm) (ks : List Tm) : tl8 (.mk 3 0 s (k :: ks)) = 40 :: (k.txt ++ (Tm.txtc ks ++ [41])) := by
  rw [tl8_mk, if_neg (by decide), if_neg (by decide), if_pos rfl, if_neg (by simp), Tm.txtc_cons]
  simp
theorem tl4 (n : Int) (t : Tm) : tl8 (.mk 4 n (ByteArray.mk #[]) [t]) = 40 :: (t.txt ++ (44 :: (Lib.itoa n ++ [41]))) := by
  rw [tl8_mk, if_neg (by decide), if_neg (by decide), if_neg (by decide), Tm.txtc_cons, Tm.txtc_nil]
  simp
/-- The shapes of a term that may be. -/
inductive Shape : Tm → Prop where
  | var (n : Int) : Shape (.mk 1 n (ByteArray.mk #[]) [])
  | int (n : Int) : Shape (.mk 2 n (ByteArray.mk #[]) [])
  | atom (s : ByteArray) : Shape (.mk 3 0 s [])
  | fn (s : ByteArray) (k : Tm) (ks : List Tm) (hk : k.okw = true) (hks : Tm.okws ks = true) (hat : ¬ (s.data.toList = [64] ∧ ks.length = 1)) : Shape (.mk 3 0 s (k :: ks))
  | sl (n : Int) (t : Tm) (ht : t.okw = true) : Shape (.mk 4 n (ByteArray.mk #[]) [t])
theorem shape_of {T : Tm} (h : T.okw = true) : Shape T := by
  obtain ⟨k, n, s, ks⟩ := T
  obtain ⟨hks, ⟨rfl, rfl, rfl⟩ | ⟨rfl, rfl, rfl⟩ | ⟨rfl, rfl, hat⟩ | ⟨rfl, rfl, t, rfl⟩⟩ := Tm.okw_cases h
  · exact .var n
  · exact .int n
  · cases ks with
    | nil => exact .atom s
    | cons k ks =>
      rw [Tm.okws, Bool.and_eq_true] at hks
      exact .fn s k ks hks.1 hks.2 (fun e => hat ⟨e.1, by simp [e.2]⟩)
  · rw [Tm.okws, Bool.and_eq_true] at hks
    exact .sl n t hks.1
theorem int_okw (n : Int) : (Tm.mk 2 n (ByteArray.mk #[]) []).okw = true := by rw [Tm.okw, Tm.okws]; rfl
theorem one_int (n : Int) : One (.mk 2 n (ByteArray.mk #[]) []) := by
  intro U r s hU hr hs h
  obtain ⟨e1, e2⟩ := by_first (T := .mk 2 n (ByteArray.mk #[]) []) (int_okw n) hU hr hs h
  rw [hd2, tl2] at *
  cases shape_of hU with
  | var m => rw [hd1] at e1; exact absurd e1.symm (var_num _ _)
  | int m =>
    rw [hd2] at e1
    rw [tl2] at e2
    exact ⟨by rw [itoa_inj e1], by simpa using e2⟩
  | atom q => rw [hd30] at e1; exact absurd e1.symm (quote_num _ _)
  | fn q k ks => rw [hd31] at e1; exact absurd e1.symm (fn_num _ _)
  | sl m t => rw [hd4] at e1; exact absurd e1 (num_at64 _)
/-- A Fun @ and a Seal have not the same text behind the bracket. -/
theorem fn_sl {k : Tm} {ks : List Tm} {t : Tm} {n : Int} {r s : List UInt8} (hk : One k) (hks : ∀ u ∈ ks, One u) (ht : t.okw = true) (hl : ks.length ≠ 1) (h : k.txt ++ (Tm.txtc ks ++ 41 :: r) = t.txt ++ (44 :: (Lib.itoa n ++ 41 :: s))) : False := by
  obtain ⟨-, e⟩ := hk t _ _ ht (end_c ks r) (.inr ⟨44, _, rfl, .inr rfl⟩) h
  cases ks with
  | nil => rw [Tm.txtc_nil] at e; simp at e
  | cons k1 ks =>
    rw [Tm.txtc_cons] at e
    simp only [List.cons_append, List.append_assoc, List.cons.injEq, true_and] at e
    have e' : k1.txt ++ (Tm.txtc ks ++ 41 :: r) = (Tm.mk 2 n (ByteArray.mk #[]) []).txt ++ 41 :: s := by rw [num_txt]; exact e
    obtain ⟨-, e2⟩ := hks k1 (by simp) _ _ _ (int_okw n) (end_c ks r) (.inr ⟨41, _, rfl, .inl rfl⟩) e'
    cases ks with
    | nil => exact hl rfl
    | cons k2 ks => rw [Tm.txtc_cons] at e2; simp at e2
theorem sl_fn {k : Tm} {ks : List Tm} {t : Tm} {n : Int} {r s : List UInt8} (ht : One t) (hk : k.okw = true) (hks : Tm.okws ks = true) (hl : ks.length ≠ 1) (h : t.txt ++ (44 :: (Lib.itoa n ++ 41 :: r)) = k.txt ++ (Tm.txtc ks ++ 41 :: s)) : False := by
  obtain ⟨-, e⟩ := ht k _ _ hk (.inr ⟨44, _, rfl, .inr rfl⟩) (end_c ks s) h
  cases ks with
  | nil => rw [Tm.txtc_nil] at e; simp at e
  | cons k1 ks =>
    rw [Tm.okws, Bool.and_eq_true] at hks
    rw [Tm.txtc_cons] at e
    simp only [List.cons_append, List.append_assoc, List.cons.injEq, true_and] at e
    have e' : (Tm.mk 2 n (ByteArray.mk #[]) []).txt ++ 41 :: r = k1.txt ++ (Tm.txtc ks ++ 41 :: s) := by rw [num_txt]; exact e
    obtain ⟨-, e2⟩ := one_int n _ _ _ hks.1 (.inr ⟨41, _, rfl, .inl rfl⟩) (end_c ks s) e'
    cases ks with
    | nil => exact hl rfl
    | cons k2 ks => rw [Tm.txtc_cons] at e2; simp at e2
theorem quote_64 {l : List UInt8} (h : quoteL l = [64]) : l = [64] := quote_inj (h.trans quote_at64.symm)
theorem fn_64 {l : List UInt8} (h : fnL l = [64]) : l = [64] := fn_inj (h.trans fn_at.symm)
/-- TEXTS ARE TOLD APART. -/
theorem txt_one (T : Tm) : T.okw = true → One T := by
  induction T using Tm.ind with
  | h k n s ks ih =>
    intro hT U r s' hU hr hs h
    have ihk : ∀ t ∈ ks, One t := fun t ht => ih t ht (Tm.okws_mem (Tm.okw_cases hT).1 t ht)
    obtain ⟨e1, e2⟩ := by_first hT hU hr hs h
    clear h
    cases shape_of hT with
    | var =>
      rw [hd1] at e1
      rw [tl1] at e2
      cases shape_of hU with
      | var m =>
        rw [hd1] at e1
        rw [tl1] at e2
        injection e1 with _ e1
        exact ⟨by rw [itoa_inj e1], by simpa using e2⟩
      | int m => rw [hd2] at e1; exact absurd e1 (var_num _ _)
      | atom q => rw [hd30] at e1; obtain ⟨c, x, h1, h2⟩ := quote_first q.data.toList; rw [h1] at e1; injection e1 with e1; exact absurd e1.symm h2
      | fn q k ks => rw [hd31] at e1; obtain ⟨c, x, h1, h2⟩ := fn_first q.data.toList; rw [h1] at e1; injection e1 with e1; exact absurd e1.symm h2
      | sl m t => rw [hd4] at e1; simp at e1
    | int => exact one_int n U r s' hU hr hs (by rw [txt_split hT, txt_split hU, List.append_assoc, List.append_assoc, e1, e2])
    | atom =>
      rw [hd30] at e1
      rw [tl30] at e2
      cases shape_of hU with
      | var m => rw [hd1] at e1; obtain ⟨c, x, h1, h2⟩ := quote_first s.data.toList; rw [h1] at e1; injection e1 with e1; exact absurd e1 h2
      | int m => rw [hd2] at e1; exact absurd e1 (quote_num _ _)
      | atom q =>
        rw [hd30] at e1
        rw [tl30] at e2
        exact ⟨by rw [str_ext (quote_inj e1)], by simpa using e2⟩
      | fn q k ks => rw [tl31] at e2; exact absurd e2 (end_40 hr)
      | sl m t => rw [tl4] at e2; exact absurd e2 (end_40 hr)
    | fn _ k ks hk hks hat =>
      rw [hd31] at e1
      rw [tl31] at e2
      cases shape_of hU with
      | var m => rw [hd1] at e1; obtain ⟨c, x, h1, h2⟩ := fn_first s.data.toList; rw [h1] at e1; injection e1 with e1; exact absurd e1 h2
      | int m => rw [hd2] at e1; exact absurd e1 (fn_num _ _)
      | atom q => rw [tl30] at e2; exact absurd e2.symm (end_40 hs)
      | fn q u us hu hus hat' =>
        rw [hd31] at e1
        rw [tl31] at e2
        simp only [List.cons_append, List.append_assoc, List.nil_append, List.cons.injEq, true_and] at e2
        obtain ⟨e3, e4⟩ := ihk k (by simp) u _ _ hu (end_c ks r) (end_c us s') e2
        obtain ⟨e5, e6⟩ := kids_one ks (fun t ht => ihk t (by simp [ht])) us r s' hus e4
        exact ⟨by rw [str_ext (fn_inj e1), e3, e5], e6⟩
      | sl m t ht =>
        rw [hd4] at e1
        rw [tl4] at e2
        simp only [List.cons_append, List.append_assoc, List.nil_append, List.cons.injEq, true_and] at e2
        exact (fn_sl (ihk k (by simp)) (fun u hu => ihk u (by simp [hu])) ht (fun e => hat ⟨fn_64 e1, e⟩) e2).elim
    | sl _ t ht =>
      rw [hd4] at e1
      rw [tl4] at e2
      cases shape_of hU with
      | var m => rw [hd1] at e1; simp at e1
      | int m => rw [hd2] at e1; exact absurd e1.symm (num_at64 _)
      | atom q => rw [tl30] at e2; exact absurd e2.symm (end_40 hs)
      | fn q u us hu hus hat' =>
        rw [hd31] at e1
        rw [tl31] at e2
        simp only [List.cons_append, List.append_assoc, List.nil_append, List.cons.injEq, true_and] at e2
        exact (sl_fn (ihk t (by simp)) hu hus (fun e => hat' ⟨fn_64 e1.symm, e⟩) e2).elim
      | sl m u hu =>
        rw [tl4] at e2
        simp only [List.cons_append, List.append_assoc, List.nil_append, List.cons.injEq, true_and] at e2
        obtain ⟨e3, e4⟩ := ihk t (by simp) u _ _ hu (.inr ⟨44, _, rfl, .inr rfl⟩) (.inr ⟨44, _, rfl, .inr rfl⟩) e2
        simp only [List.cons.injEq, true_and] at e4
        obtain ⟨e5, e6⟩ := simple_two (tok_int _) (tok_int _) (.inr ⟨41, _, rfl, by decide⟩) (.inr ⟨41, _, rfl, by decide⟩) e4
        injection e6 with _ e6
        exact ⟨by rw [e3, itoa_inj e5], e6⟩
/-- WRITERONES, apart from memory. -/
theorem txt_inj {T U : Tm} (hT : T.okw = true) (hU : U.okw = true) : T.txt = U.txt ↔ T = U :=
  ⟨fun h => (txt_one T hT U [] [] hU (.inl rfl) (.inl rfl) (by rw [h])).1, fun h => by rw [h]⟩
end Go.Proofs.YtfencolokfghfaaDoor
