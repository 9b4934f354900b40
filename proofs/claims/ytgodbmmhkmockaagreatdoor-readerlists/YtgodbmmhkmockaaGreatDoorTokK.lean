/-
  A blank ends every token, but within marks; a text without points has no end: apart from memory.
-/
import Derived.Test.YtgodbmmhkmockaaGreatDoorTokM
namespace Go.Proofs.YtgodbmmhkmockaaGreatDoor
open Go.RowKit
set_option linter.unusedVariables false

theorem pre_bl {p : UInt8 → Bool} (h1 : p 10 = false) (h2 : p 32 = false) : ∀ (u v : List UInt8), pre p (u ++ 32 :: v) = pre p (u ++ 10 :: v)
  | [], v => by simp [pre, h1, h2]
  | c :: u, v => by simp only [List.cons_append, pre, pre_bl h1 h2 u v]
theorem take_bl (u v : List UInt8) (n : Nat) (h : n ≤ u.length) : (u ++ 32 :: v).take n = (u ++ 10 :: v).take n := by
  rw [List.take_append_of_le_length h, List.take_append_of_le_length h]
theorem drop_bl (u v : List UInt8) (c : UInt8) (n : Nat) (h : n ≤ u.length) : (u ++ c :: v).drop n = u.drop n ++ c :: v := by
  rw [List.drop_append_of_le_length h]
theorem drop_bl2 (u v : List UInt8) (c : UInt8) (m : Nat) : (u ++ c :: v).drop (u.length + 1 + m) = v.drop m := by
  have : u ++ c :: v = (u ++ [c]) ++ v := by simp
  rw [this, ← List.drop_drop, show u.length + 1 = (u ++ [c]).length by simp, List.drop_left]
theorem skp_bl : ∀ (u v : List UInt8), 37 ∉ u → skp false (u ++ 32 :: v) = skp false (u ++ 10 :: v)
  | [], v, _ => by simp [skp, blkB]
  | c :: u, v, h => by
    have hc : c ≠ 37 := fun e => h (by simp [e])
    have ih := skp_bl u v (fun e => h (by simp [e]))
    simp only [List.cons_append, skp, if_neg hc, ih]
theorem frac_bl : ∀ (u v : List UInt8), frac (u ++ 32 :: v) = frac (u ++ 10 :: v)
  | [], v => by cases v <;> simp [frac]
  | [a], v => by simp [frac, digB, spanB]
  | a :: b :: u, v => by simp [frac]
theorem numR_bl (u v : List UInt8) : numR (u ++ 32 :: v) = numR (u ++ 10 :: v) := by
  obtain ⟨h1, h2⟩ := not10 digB10 u v
  rw [← h1] at h2
  unfold numR
  rw [pre_bl digB10 (by decide) u v, drop_bl u v 32 _ h2, drop_bl u v 10 _ h2, frac_bl, take_bl u v _ h2]
theorem quo_no39 : ∀ (k : Nat) (l acc : List UInt8) (a : Nat), l.length ≤ k → 39 ∉ l → ∀ t n, quo acc l a ≠ .tok t n
  | k, [], acc, a, _, _, t, n => by rw [quo_eq]; simp
  | 0, c :: l, acc, a, h, _, t, n => by simp at h
  | k + 1, c :: l, acc, a, h, h9, t, n => by
    rw [quo_ne _ _ (by simp)]
    have hc : c ≠ 39 := fun e => h9 (by simp [e])
    have h1 : closB (c :: l) = false := by cases l <;> simp [closB, hc]
    rw [h1]
    simp only [Bool.false_eq_true, if_false]
    cases hm : meanR (c :: l) with
    | none => simp
    | some dn =>
      obtain ⟨d, m⟩ := dn
      have hs := meanR_size hm
      simp only
      exact quo_no39 k _ _ _ (by simp at h ⊢; omega) (fun e => h9 (List.mem_of_mem_drop e)) t n
theorem quo_bl {v : List UInt8} (hv : 39 ∉ v) : ∀ (k : Nat) (u acc : List UInt8) (a : Nat), u.length ≤ k → ∀ t n, quo acc (u ++ 32 :: v) a = .tok t n ↔ quo acc (u ++ 10 :: v) a = .tok t n
  | k, [], acc, a, _, t, n => by
    constructor
    · intro h
      exact absurd h (quo_no39 _ _ acc a (Nat.le_refl _) (by simp [hv]) t n)
    · intro h
      rw [quo_ne _ _ (show [] ++ 10 :: v ≠ [] by simp)] at h
      have h1 : closB ([] ++ 10 :: v) = false := by cases v <;> simp [closB]
      have h3 : meanR ([] ++ 10 :: v) = none := by rw [List.nil_append, meanR_cons]; simp
      rw [h1, h3] at h
      simp at h
  | 0, c :: u, acc, a, h, t, n => by simp at h
  | k + 1, c :: u, acc, a, h, t, n => by
    rw [quo_ne _ _ (show c :: u ++ 32 :: v ≠ [] by simp), quo_ne _ _ (show c :: u ++ 10 :: v ≠ [] by simp)]
    have e1 : closB (c :: u ++ 32 :: v) = closB (c :: u ++ 10 :: v) := by cases u <;> simp [closB]
    have e2 : meanR (c :: u ++ 32 :: v) = meanR (c :: u ++ 10 :: v) := by
      rw [List.cons_append, List.cons_append, meanR_cons, meanR_cons]
      cases u with
      | nil => simp
      | cons d u => simp
    rw [e1, e2]
    split
    · exact Iff.rfl
    · cases hm : meanR (c :: u ++ 10 :: v) with
      | none => exact Iff.rfl
      | some dn =>
        obtain ⟨d, m⟩ := dn
        have h1 := meanR_10 c u (by rw [← meanR_same c u v]; exact hm)
        have h2 := meanR_size hm
        simp only
        rw [drop_bl (c :: u) v 32 m h1, drop_bl (c :: u) v 10 m h1]
        exact quo_bl hv k _ _ _ (by simp at h ⊢; omega) t n
theorem endsB_bl (c : UInt8) (u v : List UInt8) (h : 37 ∉ u) : endsB (c :: u ++ 32 :: v) = endsB (c :: u ++ 10 :: v) := by
  show (c == 46 && (decide (u ++ 32 :: v = []) || decide (0 < skp false (u ++ 32 :: v)))) = (c == 46 && (decide (u ++ 10 :: v = []) || decide (0 < skp false (u ++ 10 :: v))))
  rw [skp_bl u v h]
  simp
theorem fstR_39 (r : List UInt8) : fstR (39 :: r) = quo [] r 1 := by
  unfold fstR
  simp only
  rw [if_neg (by decide), if_neg (by decide), if_neg (by decide), if_pos trivial]
  exact fstR_mark r
theorem fstR_bl (c : UInt8) {u v : List UInt8} (h : 37 ∉ u) (hv : 39 ∉ v) (t : Tok) (n : Nat) : fstR (c :: u ++ 32 :: v) = .tok t n ↔ fstR (c :: u ++ 10 :: v) = .tok t n := by
  by_cases hm : c = 39
  · subst hm
    rw [List.cons_append, List.cons_append, fstR_39, fstR_39]
    exact quo_bl hv _ u [] 1 (Nat.le_refl _) t n
  · have w1 := pre_bl wordB10 (by decide) (c :: u) v
    have s1 := pre_bl symB10 (by decide) (c :: u) v
    have w2 := (not10 wordB10 (c :: u) v)
    have s2 := (not10 symB10 (c :: u) v)
    have t1 := take_bl (c :: u) v _ (w2.1 ▸ w2.2)
    have t2 := take_bl (c :: u) v _ (s2.1 ▸ s2.2)
    have hn := numR_bl (c :: u) v
    have he := endsB_bl c u v h
    have : fstR (c :: u ++ 32 :: v) = fstR (c :: u ++ 10 :: v) := by
      simp only [List.cons_append] at *
      unfold fstR
      simp only
      rw [w1, s1, hn, he, t1, t2, if_neg hm, if_neg hm]
    rw [this]
theorem after_ok {r : ScanR} {ts us : List Tok} {e : Nat} : r.after ts e = .ok us ↔ ∃ vs, r = .ok vs ∧ us = ts ++ vs := by
  cases r with
  | bad p c => simp [ScanR.after]
  | ok vs => simp [ScanR.after, eq_comm]
theorem scan_bl : ∀ (k : Nat) (b : Bool) (u v : List UInt8), u.length ≤ k → 37 ∉ u → 39 ∉ v → ∀ ts, scan b (u ++ 32 :: v) = .ok ts ↔ scan b (u ++ 10 :: v) = .ok ts
  | k, b, u, v, hk, h7, h9, ts => by
    have hsk := skp_bl u v h7
    by_cases hs : u.length < skp false (u ++ 10 :: v)
    · obtain ⟨m, hm⟩ : ∃ m, skp false (u ++ 10 :: v) = u.length + 1 + m := ⟨skp false (u ++ 10 :: v) - (u.length + 1), by omega⟩
      have hd : ∀ n, (u ++ 32 :: v).drop (skp false (u ++ 10 :: v) + n) = (u ++ 10 :: v).drop (skp false (u ++ 10 :: v) + n) := fun n => by rw [hm, Nat.add_assoc, drop_bl2, drop_bl2]
      have hd0 := hd 0
      rw [Nat.add_zero] at hd0
      rw [scan_eq b (u ++ 32 :: v), scan_eq b (u ++ 10 :: v), hsk, hd0]
      simp only [hd]
    · have hle : skp false (u ++ 10 :: v) ≤ u.length := by omega
      have hA : (u ++ 32 :: v).drop (skp false (u ++ 32 :: v)) = u.drop (skp false (u ++ 10 :: v)) ++ 32 :: v := by rw [hsk]; exact drop_bl u v 32 _ hle
      have hB : (u ++ 10 :: v).drop (skp false (u ++ 10 :: v)) = u.drop (skp false (u ++ 10 :: v)) ++ 10 :: v := drop_bl u v 10 _ hle
      by_cases hu : u.drop (skp false (u ++ 10 :: v)) = []
      · exfalso
        have e := skp_stop false (u ++ 10 :: v)
        rw [hB, hu] at e
        simp [skp, blkB] at e
      · obtain ⟨c, u', hcu⟩ := List.exists_cons_of_ne_nil hu
        have h7' : 37 ∉ u' := fun e => h7 (List.mem_of_mem_drop (i := skp false (u ++ 10 :: v)) (by rw [hcu]; simp [e]))
        rw [hcu] at hA hB
        cases hf : fstR (c :: u' ++ 10 :: v) with
        | bad cd =>
          rw [scan_bad (l := u ++ 10 :: v) b (by rw [hB]; simp) (by rw [hB]; exact hf)]
          cases hg : fstR (c :: u' ++ 32 :: v) with
          | bad ce => rw [scan_bad (l := u ++ 32 :: v) b (by rw [hA]; simp) (by rw [hA]; exact hg)]; simp
          | tok t n => rw [(fstR_bl c h7' h9 t n).1 hg] at hf; cases hf
        | tok t n =>
          have hg := (fstR_bl c h7' h9 t n).2 hf
          have hn := fstR_10 c u' (by rw [← fstR_same c u' v]; exact hf)
          have hpos := (fstR_ok hf).pos
          have hlen : (c :: u').length = u.length - skp false (u ++ 10 :: v) := by rw [← hcu]; simp
          have hd1 := drop_bl u v 32 (skp false (u ++ 10 :: v) + n) (by omega)
          have hd2 := drop_bl u v 10 (skp false (u ++ 10 :: v) + n) (by omega)
          rw [scan_tok (l := u ++ 32 :: v) b (by rw [hA]; exact hg), scan_tok (l := u ++ 10 :: v) b (by rw [hB]; exact hf), hsk, hd1, hd2, after_ok, after_ok]
          cases k with
          | zero => simp at hlen; omega
          | succ k =>
            have ih := scan_bl k true (u.drop (skp false (u ++ 10 :: v) + n)) v (by simp; omega) (fun e => h7 (List.mem_of_mem_drop e)) h9
            simp only [ih]
/-- Two texts with a blank between: the tokens of both, if there is no comment in the first one, and no mark in the other. -/
theorem scan_two {b : Bool} {u v : List UInt8} (h7 : 37 ∉ u) (h9 : 39 ∉ v) (ts : List Tok) : scan b (u ++ 32 :: v) = .ok ts ↔ ∃ us vs, scan b (u ++ [10]) = .ok us ∧ scan false v = .ok vs ∧ ts = us ++ vs := by
  rw [scan_bl _ b u v (Nat.le_refl _) h7 h9, scan_join _ b u v (Nat.le_refl _)]
  cases hr : scan b (u ++ [10]) with
  | bad p c => simp [joinR]
  | ok us =>
    show (scan false v).after us (u.length + 1) = .ok ts ↔ _
    rw [after_ok]
    constructor
    · rintro ⟨vs, h1, h2⟩; exact ⟨us, vs, rfl, h1, h2⟩
    · rintro ⟨us', vs, h0, h1, h2⟩; cases h0; exact ⟨vs, h1, h2⟩
theorem scan_blank (b : Bool) (x : List UInt8) : scan b (32 :: x) = (scan false x).after [] 1 := by
  have h : skp false (32 :: x) = skp false x + 1 := by simp [skp, blkB]
  rw [scan_eq b (32 :: x), scan_eq false x, h, List.drop_succ_cons]
  split
  · rfl
  · split
    · simp [ScanR.after, Nat.add_comm]
    · rename_i t n _
      have e : decide (skp false x + 1 = 0) = false := by simp
      rw [show skp false x + 1 + n = (skp false x + n) + 1 by omega, List.drop_succ_cons, after_after, e]
      simp [Nat.add_comm]
def tP (c : UInt8) : Tok := ⟨4, [c], 0, false, false⟩
def tE : Tok := ⟨5, [46], 0, false, false⟩
theorem fst_pun {c : UInt8} (hc : c = 40 ∨ c = 41) (x : List UInt8) : fstR (c :: x) = .tok (tP c) 1 := by
  rcases hc with rfl | rfl
  · unfold fstR
    simp only
    rw [if_neg (by decide), if_neg (by decide), if_neg (by decide), if_neg (by decide), if_pos (by decide)]
    rfl
  · unfold fstR
    simp only
    rw [if_neg (by decide), if_neg (by decide), if_neg (by decide), if_neg (by decide), if_pos (by decide)]
    rfl
theorem scan_pun {c : UInt8} (hc : c = 40 ∨ c = 41) (x : List UInt8) : scan false (c :: 32 :: x) = (scan false x).after [tP c] 2 := by
  have h0 : skp false (c :: 32 :: x) = 0 := by rcases hc with rfl | rfl <;> simp [skp, blkB]
  rw [scan_tok (l := c :: 32 :: x) false (t := tP c) (n := 1) (by rw [h0]; exact fst_pun hc _), h0]
  simp only [Nat.zero_add, List.drop_succ_cons, List.drop_zero]
  rw [scan_blank, after_after]
  simp [tP]
theorem scan_end : scan false [46] = .ok [tE] := by decide +kernel
theorem scan_end2 : scan false [46, 10] = .ok [tE] := by decide +kernel
theorem fstR_5 {c : UInt8} {r : List UInt8} {t : Tok} {n : Nat} (h : fstR (c :: r) = .tok t n) (h5 : t.kind = 5) : c = 46 := by
  have hw : ∀ {k : Int} {l : List UInt8}, wrt k l = .tok t n → k ≠ 5 → False := fun h hk => by
    obtain ⟨rfl, -, -⟩ := limR_size h
    exact hk h5
  unfold fstR at h
  simp only at h
  split at h
  · exact (hw h (by decide)).elim
  · split at h
    · exact (hw h (by decide)).elim
    · split at h
      · unfold numR at h
        split at h
        · cases h
        · split at h
          · split at h
            · cases h
            · cases h; simp at h5
          · cases h
      · split at h
        · have := (quoF_ok (L := c :: r) h (by simp; omega))
          exfalso
          have hk : ∀ {f : Nat} {acc l : List UInt8} {a : Nat}, quoF f acc l a = .tok t n → t.kind = 1 := by
            intro f
            induction f with
            | zero => intro acc l a h; cases h
            | succ f ih =>
              intro acc l a h
              unfold quoF at h
              split at h
              · cases h
              · split at h
                · obtain ⟨rfl, -, -⟩ := limR_size h; rfl
                · split at h
                  · cases h
                  · exact ih h
          rw [hk h] at h5
          simp at h5
        · split at h
          · exact (hw h (by decide)).elim
          · split at h
            · exact (hw h (by decide)).elim
            · split at h
              · rename_i he
                unfold endsB at he
                simp at he
                exact he.1
              · split at h
                · exact (hw h (by decide)).elim
                · cases h
theorem scan_no46 : ∀ (k : Nat) (b : Bool) (l : List UInt8) (ts : List Tok), l.length ≤ k → 46 ∉ l → scan b l = .ok ts → ∀ t ∈ ts, t.kind ≠ 5
  | k, b, l, ts, hk, h6, h => by
    by_cases hd : l.drop (skp false l) = []
    · rw [scan_nil b hd] at h
      cases h
      intro t ht; cases ht
    · cases hf : fstR (l.drop (skp false l)) with
      | bad c => rw [scan_bad b hd hf] at h; cases h
      | tok t n =>
        rw [scan_tok b hf, after_ok] at h
        obtain ⟨us, hr, rfl⟩ := h
        have O := fstR_ok hf
        have h1 := O.pos
        have h2 := O.le
        rw [List.length_drop] at h2
        cases k with
        | zero => omega
        | succ k =>
          have ih := scan_no46 k true _ us (by simp; omega) (fun e => h6 (List.mem_of_mem_drop e)) hr
          intro t' ht
          simp only [List.singleton_append, List.mem_cons] at ht
          rcases ht with rfl | ht
          · intro h5
            obtain ⟨c, r, hcr⟩ := List.exists_cons_of_ne_nil hd
            rw [hcr] at hf
            exact h6 (List.mem_of_mem_drop (i := skp false l) (by rw [hcr, fstR_5 hf h5]; simp))
          · exact ih t' ht
theorem skp_all : ∀ (l : List UInt8), 37 ∉ l → skp false l = l.length → skp false (l ++ [10]) = l.length + 1
  | [], _, _ => by simp [skp, blkB]
  | c :: l, h, e => by
    have hc : c ≠ 37 := fun e => h (by simp [e])
    have ih := skp_all l (fun e => h (by simp [e]))
    simp only [skp, if_neg hc, List.length_cons] at e
    by_cases hb : blkB c = true
    · rw [if_pos hb] at e
      simp only [List.cons_append, skp, if_neg hc, if_pos hb, List.length_cons]
      rw [ih (by omega)]
    · rw [if_neg hb] at e; omega
theorem scan_empty {b : Bool} {l : List UInt8} (h7 : 37 ∉ l) (h : scan b l = .ok []) : scan b (l ++ [10]) = .ok [] := by
  have hd : l.drop (skp false l) = [] := by
    refine Decidable.byContradiction fun hd => ?_
    cases hf : fstR (l.drop (skp false l)) with
    | bad c => rw [scan_bad b hd hf] at h; cases h
    | tok t n =>
      rw [scan_tok b hf, after_ok] at h
      obtain ⟨us, hr, e⟩ := h
      cases e
  have hl := List.drop_eq_nil_iff.1 hd
  have := skp_le false l
  have e := skp_all l h7 (by omega)
  exact scan_nil b (by rw [e]; simp)
end Go.Proofs.YtgodbmmhkmockaaGreatDoor
