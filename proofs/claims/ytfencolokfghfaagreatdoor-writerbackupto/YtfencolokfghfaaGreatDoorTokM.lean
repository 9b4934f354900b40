/-
  What is told of tokens, apart from memory: texts one behind another, blanks and comments, what a token may be.
-/
import Derived.Test.YtfencolokfghfaaGreatDoorTokG
namespace Go.Proofs.YtfencolokfghfaaGreatDoor
open Go.RowKit
set_option linter.unusedVariables false

/-! ### A byte 10 ends every token -/
theorem not10 {p : UInt8 → Bool} (hp : p 10 = false) : ∀ (u v : List UInt8), pre p (u ++ 10 :: v) = pre p (u ++ [10]) ∧ pre p (u ++ [10]) ≤ u.length
  | [], v => by simp [pre, hp]
  | c :: u, v => by
    have ih := not10 hp u v
    by_cases h : p c = true
    · simp only [List.cons_append, pre, h, if_true]
      exact ⟨by rw [ih.1], by simp; exact ih.2⟩
    · simp [pre, h]
theorem take_same (u v : List UInt8) (n : Nat) (h : n ≤ u.length) : (u ++ 10 :: v).take n = (u ++ [10]).take n := by
  rw [List.take_append_of_le_length h, List.take_append_of_le_length h]
theorem drop_same (u v : List UInt8) (n : Nat) (h : n ≤ u.length) : (u ++ 10 :: v).drop n = u.drop n ++ 10 :: v := by
  rw [List.drop_append_of_le_length h]

theorem frac_same : ∀ (u v : List UInt8), frac (u ++ 10 :: v) = frac (u ++ [10])
  | [], v => by cases v <;> simp [frac]
  | [a], v => by simp [frac]
  | a :: b :: u, v => by simp [frac]
theorem digB10 : digB 10 = false := by decide
theorem wordB10 : wordB 10 = false := by decide
theorem symB10 : symB 10 = false := by decide

theorem numR_same (u v : List UInt8) : numR (u ++ 10 :: v) = numR (u ++ [10]) := by
  obtain ⟨h1, h2⟩ := not10 digB10 u v
  unfold numR
  rw [h1, drop_same u v _ h2, drop_same u [] _ h2, frac_same, take_same u v _ h2]

theorem quo_ne (acc : List UInt8) {l : List UInt8} (a : Nat) (h : l ≠ []) : quo acc l a =
    if closB l then limR ⟨1, acc, 0, true, false⟩ (a + 1)
    else match meanR l with
      | none => .bad 4
      | some (c, n) => quo (acc ++ [c]) (l.drop n) (a + n) := by rw [quo_eq, if_neg h]; rfl
theorem closB_same (c : UInt8) (u v : List UInt8) : closB (c :: u ++ 10 :: v) = closB (c :: u ++ [10]) := by
  cases u <;> simp [closB]
theorem meanR_same (c : UInt8) (u v : List UInt8) : meanR (c :: u ++ 10 :: v) = meanR (c :: u ++ [10]) := by
  rw [List.cons_append, List.cons_append, meanR_cons, meanR_cons]
  have e : (u ++ 10 :: v).head? = (u ++ [10]).head? := by cases u <;> simp
  rw [e]
theorem meanR_10 (c : UInt8) (u : List UInt8) {d : UInt8} {n : Nat} (h : meanR (c :: u ++ [10]) = some (d, n)) : n ≤ (c :: u).length := by
  have hl := meanR_size h
  cases u with
  | nil =>
    rw [List.cons_append, meanR_cons] at h
    simp at h
    obtain ⟨_, _, rfl⟩ := h
    simp
  | cons e u =>
    have : n ≤ 2 := by
      rw [List.cons_append, meanR_cons] at h
      split at h
      · cases h; omega
      · split at h
        · cases h; omega
        · split at h
          · cases h; omega
          · split at h
            · cases h
            · cases h; omega
    simp; omega
theorem quo_same : ∀ (k : Nat) (u v acc : List UInt8) (a : Nat), u.length ≤ k → quo acc (u ++ 10 :: v) a = quo acc (u ++ [10]) a
  | k, [], v, acc, a, _ => by
    rw [quo_ne _ _ (show [] ++ 10 :: v ≠ [] by simp), quo_ne _ _ (show [] ++ [10] ≠ ([] : List UInt8) by simp)]
    have h1 : closB ([] ++ 10 :: v) = false := by cases v <;> simp [closB]
    have h2 : closB ([] ++ [10]) = false := by decide
    have h3 : meanR ([] ++ 10 :: v) = none := by rw [List.nil_append, meanR_cons]; simp
    have h4 : meanR ([] ++ [10]) = none := by decide
    rw [h1, h2, h3, h4]
  | 0, c :: u, v, acc, a, h => by simp at h
  | k + 1, c :: u, v, acc, a, h => by
    rw [quo_ne _ _ (show c :: u ++ 10 :: v ≠ [] by simp), quo_ne _ _ (show c :: u ++ [10] ≠ [] by simp), closB_same, meanR_same]
    split
    · rfl
    · cases hm : meanR (c :: u ++ [10]) with
      | none => rfl
      | some dn =>
        obtain ⟨d, n⟩ := dn
        have h1 := meanR_10 c u hm
        have h2 := meanR_size hm
        simp only
        rw [drop_same (c :: u) v n h1, drop_same (c :: u) [] n h1]
        exact quo_same k _ _ _ _ (by simp at h ⊢; omega)
theorem quo_le : ∀ (k : Nat) (u acc : List UInt8) (a : Nat) {t : Tok} {n : Nat}, u.length ≤ k → quo acc (u ++ [10]) a = .tok t n → n ≤ a + u.length
  | k, [], acc, a, t, n, _, h => by
    rw [quo_ne _ _ (show [] ++ [10] ≠ ([] : List UInt8) by simp)] at h
    have h2 : closB ([] ++ [10]) = false := by decide
    have h4 : meanR ([] ++ [10]) = none := by decide
    rw [h2, h4] at h
    simp at h
  | 0, c :: u, acc, a, t, n, h, _ => by simp at h
  | k + 1, c :: u, acc, a, t, n, h, hq => by
    rw [quo_ne _ _ (show c :: u ++ [10] ≠ [] by simp)] at hq
    split at hq
    · obtain ⟨_, rfl, _⟩ := limR_size hq
      rw [List.length_cons]; omega
    · cases hm : meanR (c :: u ++ [10]) with
      | none => rw [hm] at hq; cases hq
      | some dn =>
        obtain ⟨d, m⟩ := dn
        have h1 := meanR_10 c u hm
        have h2 := meanR_size hm
        rw [hm] at hq
        simp only at hq
        rw [drop_same (c :: u) [] m h1] at hq
        have h5 := quo_le k _ _ _ (by simp at h ⊢; omega) hq
        rw [List.length_drop] at h5
        omega

theorem skp_same : ∀ (b : Bool) (u v : List UInt8), skp b (u ++ 10 :: v) = (if skp b (u ++ [10]) = u.length + 1 then u.length + 1 + skp false v else skp b (u ++ [10])) ∧ skp b (u ++ [10]) ≤ u.length + 1
  | true, [], v => by simp [skp]; omega
  | false, [], v => by simp [skp, blkB]; omega
  | true, c :: u, v => by
    have i1 := skp_same false u v
    have i2 := skp_same true u v
    simp only [List.cons_append, skp]
    by_cases h : c = 10
    · simp only [if_pos h]
      rw [i1.1]
      by_cases e : skp false (u ++ [10]) = u.length + 1
      · simp [e]; omega
      · simp [e]; exact i1.2
    · simp only [if_neg h]
      rw [i2.1]
      by_cases e : skp true (u ++ [10]) = u.length + 1
      · simp [e]; omega
      · simp [e]; exact i2.2
  | false, c :: u, v => by
    have i1 := skp_same false u v
    have i2 := skp_same true u v
    simp only [List.cons_append, skp]
    by_cases h : c = 37
    · simp only [if_pos h]
      rw [i2.1]
      by_cases e : skp true (u ++ [10]) = u.length + 1
      · simp [e]; omega
      · simp [e]; exact i2.2
    · simp only [if_neg h]
      by_cases hb : blkB c = true
      · simp only [if_pos hb]
        rw [i1.1]
        by_cases e : skp false (u ++ [10]) = u.length + 1
        · simp [e]; omega
        · simp [e]; exact i1.2
      · simp [hb]

theorem endsB_same (c : UInt8) (u v : List UInt8) : endsB (c :: u ++ 10 :: v) = endsB (c :: u ++ [10]) := by
  show (c == 46 && (decide (u ++ 10 :: v = []) || decide (0 < skp false (u ++ 10 :: v)))) = (c == 46 && (decide (u ++ [10] = []) || decide (0 < skp false (u ++ [10]))))
  have e : decide (0 < skp false (u ++ 10 :: v)) = decide (0 < skp false (u ++ [10])) := by
    obtain ⟨h1, h2⟩ := skp_same false u v
    rw [h1]
    split
    · rename_i h; rw [h]; simp; omega
    · rfl
  rw [e]
  simp

theorem fstR_mark {c : UInt8} (r : List UInt8) : quoF (c :: r).length [] r 1 = quo [] r 1 := rfl
theorem fstR_same (c : UInt8) (u v : List UInt8) : fstR (c :: u ++ 10 :: v) = fstR (c :: u ++ [10]) := by
  obtain ⟨w1, w2⟩ := not10 wordB10 (c :: u) v
  obtain ⟨s1, s2⟩ := not10 symB10 (c :: u) v
  have hn := numR_same (c :: u) v
  have hq : quoF (c :: (u ++ 10 :: v)).length [] (u ++ 10 :: v) 1 = quoF (c :: (u ++ [10])).length [] (u ++ [10]) 1 := quo_same _ u v [] 1 (Nat.le_refl _)
  have he := endsB_same c u v
  have t1 := take_same (c :: u) v _ w2
  have t2 := take_same (c :: u) v _ s2
  simp only [List.cons_append] at *
  unfold fstR
  simp only
  rw [w1, s1, hn, hq, he, t1, t2]
theorem fstR_10 (c : UInt8) (u : List UInt8) {t : Tok} {n : Nat} (h : fstR (c :: u ++ [10]) = .tok t n) : n ≤ (c :: u).length := by
  obtain ⟨w1, w2⟩ := not10 wordB10 (c :: u) []
  obtain ⟨s1, s2⟩ := not10 symB10 (c :: u) []
  obtain ⟨d1, d2⟩ := not10 digB10 (c :: u) []
  have hw : ∀ {k : Int} {l : List UInt8}, wrt k l = .tok t n → l.length ≤ (c :: u).length → n ≤ (c :: u).length := fun h hl => by
    obtain ⟨_, rfl, _⟩ := limR_size h; exact hl
  have h1 : [c].length ≤ (c :: u).length := by simp
  rw [List.cons_append] at h
  unfold fstR at h
  simp only at h
  rw [← List.cons_append] at h
  split at h
  · exact hw h (by rw [List.length_take]; omega)
  · split at h
    · exact hw h (by rw [List.length_take]; omega)
    · split at h
      · unfold numR at h
        split at h
        · cases h
        · split at h
          · split at h
            · cases h
            · cases h; exact d2
          · cases h
      · split at h
        · have := quo_le _ u [] 1 (Nat.le_refl _) h
          simp; omega
        · split at h
          · exact hw h h1
          · split at h
            · exact hw h h1
            · split at h
              · exact hw h h1
              · split at h
                · exact hw h (by rw [List.length_take]; omega)
                · cases h

theorem scan_nil (b : Bool) {l : List UInt8} (h : l.drop (skp false l) = []) : scan b l = .ok [] := by rw [scan_eq, if_pos h]
theorem scan_bad (b : Bool) {l : List UInt8} {c : Int} (h : l.drop (skp false l) ≠ []) (hf : fstR (l.drop (skp false l)) = .bad c) : scan b l = .bad (skp false l) c := by rw [scan_eq, if_neg h, hf]
theorem scan_tok (b : Bool) {l : List UInt8} {t : Tok} {n : Nat} (hf : fstR (l.drop (skp false l)) = .tok t n) :
    scan b l = (scan true (l.drop (skp false l + n))).after [{ t with tight := decide (skp false l = 0) && b }] (skp false l + n) := by
  have h : l.drop (skp false l) ≠ [] := by intro e; rw [e] at hf; cases hf
  rw [scan_eq, if_neg h, hf]

/-- What two texts are, out of what each is. -/
def joinR (r : ScanR) (n : Nat) (r' : ScanR) : ScanR :=
  match r with
  | .bad p c => .bad p c
  | .ok ts => r'.after ts n
theorem joinR_after (ts : List Tok) (e n : Nat) (r r' : ScanR) : joinR (r.after ts e) (e + n) r' = (joinR r n r').after ts e := by
  cases r with
  | bad p c => rfl
  | ok us =>
    show r'.after (ts ++ us) (e + n) = (r'.after us n).after ts e
    rw [after_after]

/-- TWO TEXTS WITH A BYTE 10 BETWEEN: the tokens of both; what is wrong with the first is wrong with both. -/
theorem scan_join : ∀ (k : Nat) (b : Bool) (u v : List UInt8), u.length ≤ k → scan b (u ++ 10 :: v) = joinR (scan b (u ++ [10])) (u.length + 1) (scan false v)
  | k, b, u, v, hk => by
    obtain ⟨h1, h2⟩ := skp_same false u v
    by_cases hs : skp false (u ++ [10]) = u.length + 1
    · rw [if_pos hs] at h1
      have e0 : (u ++ [10]).drop (skp false (u ++ [10])) = [] := by rw [hs]; simp
      rw [scan_nil b e0]
      show _ = (scan false v).after [] (u.length + 1)
      have hd : (u ++ 10 :: v).drop (skp false (u ++ 10 :: v)) = v.drop (skp false v) := by
        rw [h1]
        have : u ++ 10 :: v = (u ++ [10]) ++ v := by simp
        have e1 : (u ++ [(10 : UInt8)]).drop (u.length + 1) = [] := by simp
        rw [this, ← List.drop_drop, List.drop_append_of_le_length (by simp), e1]
        simp
      by_cases hv : v.drop (skp false v) = []
      · rw [scan_nil false hv, scan_nil (l := u ++ 10 :: v) b (hd.trans hv)]; rfl
      · cases hf : fstR (v.drop (skp false v)) with
        | bad c =>
          rw [scan_bad false hv hf, scan_bad (l := u ++ 10 :: v) b (by rw [hd]; exact hv) (by rw [hd]; exact hf), h1]
          rfl
        | tok t n =>
          have hd2 : (u ++ 10 :: v).drop (skp false (u ++ 10 :: v) + n) = v.drop (skp false v + n) := by
            rw [← List.drop_drop, hd, List.drop_drop]
          rw [scan_tok false hf, scan_tok (l := u ++ 10 :: v) b (by rw [hd]; exact hf), hd2, h1, after_after]
          have e1 : decide (u.length + 1 + skp false v = 0) = false := by simp
          rw [e1]
          simp [Nat.add_assoc]
    · rw [if_neg hs] at h1
      have hle : skp false (u ++ [10]) ≤ u.length := by omega
      have hA : (u ++ 10 :: v).drop (skp false (u ++ 10 :: v)) = u.drop (skp false (u ++ [10])) ++ 10 :: v := by rw [h1]; exact drop_same u v _ hle
      have hB : (u ++ [10]).drop (skp false (u ++ [10])) = u.drop (skp false (u ++ [10])) ++ [10] := drop_same u [] _ hle
      by_cases hu : u.drop (skp false (u ++ [10])) = []
      · exfalso
        have e := skp_stop false (u ++ [10])
        rw [hB, hu] at e
        simp [skp, blkB] at e
      · obtain ⟨c, u', hcu⟩ := List.exists_cons_of_ne_nil hu
        rw [hcu] at hA hB
        cases hf : fstR (c :: u' ++ [10]) with
        | bad cd =>
          rw [scan_bad (l := u ++ [10]) b (by rw [hB]; simp) (by rw [hB]; exact hf), scan_bad (l := u ++ 10 :: v) b (by rw [hA]; simp) (by rw [hA, fstR_same]; exact hf), h1]
          rfl
        | tok t n =>
          have hn := fstR_10 c u' hf
          have hpos := (fstR_ok hf).pos
          have hlen : (c :: u').length = u.length - skp false (u ++ [10]) := by rw [← hcu]; simp
          have hd1 : (u ++ 10 :: v).drop (skp false (u ++ [10]) + n) = u.drop (skp false (u ++ [10]) + n) ++ 10 :: v := drop_same u v _ (by omega)
          have hd2 : (u ++ [10]).drop (skp false (u ++ [10]) + n) = u.drop (skp false (u ++ [10]) + n) ++ [10] := drop_same u [] _ (by omega)
          rw [scan_tok (l := u ++ [10]) b (by rw [hB]; exact hf), scan_tok (l := u ++ 10 :: v) b (by rw [hA, fstR_same]; exact hf), h1, hd1, hd2]
          cases k with
          | zero =>
            have : u = [] := List.eq_nil_of_length_eq_zero (by omega)
            subst this
            simp at hlen
          | succ k =>
            rw [scan_join k true (u.drop (skp false (u ++ [10]) + n)) v (by simp; omega), ← joinR_after]
            have e : skp false (u ++ [10]) + n + ((u.drop (skp false (u ++ [10]) + n)).length + 1) = u.length + 1 := by simp; omega
            rw [e]
end Go.Proofs.YtfencolokfghfaaGreatDoor
