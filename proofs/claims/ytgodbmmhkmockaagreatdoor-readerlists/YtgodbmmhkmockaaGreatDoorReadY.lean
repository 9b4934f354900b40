/-
  Sums of figures, and figures in square brackets: their tokens, and what these read as, apart from memory.
-/
import Derived.Test.YtgodbmmhkmockaaGreatDoorReadV
namespace Go.Proofs.YtgodbmmhkmockaaGreatDoor
open Go.RowKit
set_option linter.unusedVariables false

/-- A figure. -/
def dgt (b : UInt8) : UInt8 := UInt8.ofNat (48 + b.toNat % 10)
def tN (b : UInt8) (g : Bool) : Tok := ⟨3, [], ((b.toNat % 10 : Nat) : Int), false, g⟩
def tO (c : UInt8) : Tok := ⟨1, [c], 0, false, false⟩
def nM (n : Nat) : Tm := .mk 2 (n : Int) empB []
theorem dig_facts : ∀ k, k < 10 → lowB (UInt8.ofNat (48 + k)) = false ∧ upB (UInt8.ofNat (48 + k)) = false ∧ digB (UInt8.ofNat (48 + k)) = true ∧ IntKind.i64.wrap (k : Int) = (k : Int) ∧ blkB (UInt8.ofNat (48 + k)) = false ∧ UInt8.ofNat (48 + k) ≠ 37 := by decide +kernel
theorem dig_parse {k : Nat} (h : k < 10) : Lib.parseUintB 64 [UInt8.ofNat (48 + k)] = .ok k := by
  match k, h with
  | 0, _ => rfl
  | 1, _ => rfl
  | 2, _ => rfl
  | 3, _ => rfl
  | 4, _ => rfl
  | 5, _ => rfl
  | 6, _ => rfl
  | 7, _ => rfl
  | 8, _ => rfl
  | 9, _ => rfl
  | k + 10, h => omega
/-- What stands behind a figure is no figure, and no point with one. -/
def past (r : List UInt8) : Prop := pre digB r = 0 ∧ frac r = false
theorem fst_dig {k : Nat} (h : k < 10) {r : List UInt8} (hr : past r) : fstR (UInt8.ofNat (48 + k) :: r) = .tok ⟨3, [], (k : Int), false, false⟩ 1 := by
  obtain ⟨f1, f2, f3, f4, -, -⟩ := dig_facts k h
  have hp : pre digB (UInt8.ofNat (48 + k) :: r) = 1 := by rw [pre, if_pos f3, hr.1]
  unfold fstR
  simp only
  rw [if_neg (by rw [f1]; decide), if_neg (by rw [f2]; decide), if_pos f3]
  unfold numR
  rw [hp]
  simp only [List.drop_succ_cons, List.drop_zero, List.take_succ_cons, List.take_zero]
  rw [if_neg (by rw [hr.2]; decide), dig_parse h]
  simp only
  rw [if_neg (by omega), f4]
theorem scan_dig (c : Bool) (b : UInt8) {r : List UInt8} (hr : past r) : scan c (dgt b :: r) = (scan true r).after [tN b c] 1 := by
  have hk : b.toNat % 10 < 10 := Nat.mod_lt _ (by decide)
  obtain ⟨-, -, -, -, f5, f6⟩ := dig_facts _ hk
  have h0 : skp false (dgt b :: r) = 0 := by
    unfold dgt
    rw [skp, if_neg f6, if_neg (by rw [f5]; decide)]
  rw [scan_tok (l := dgt b :: r) c (t := ⟨3, [], ((b.toNat % 10 : Nat) : Int), false, false⟩) (n := 1) (by rw [h0]; exact fst_dig hk hr), h0]
  simp [tN]
theorem past32 (r : List UInt8) : past (32 :: r) := ⟨by simp [pre, digB, spanB], by cases r <;> simp [frac]⟩
theorem past46 : past [46] := ⟨by decide, by decide⟩
theorem past_pun {c : UInt8} (hc : c = 44 ∨ c = 93 ∨ c = 124) (r : List UInt8) : past (c :: r) := by
  rcases hc with rfl | rfl | rfl
  · exact ⟨by simp [pre, digB, spanB], by cases r <;> simp [frac]⟩
  · exact ⟨by simp [pre, digB, spanB], by cases r <;> simp [frac]⟩
  · exact ⟨by simp [pre, digB, spanB], by cases r <;> simp [frac]⟩
/-- A sign with blanks on both sides. -/
theorem scan_op (b : Bool) {c : UInt8} (hc : c = 43 ∨ c = 45 ∨ c = 42) (x : List UInt8) : scan b (32 :: c :: 32 :: x) = (scan false x).after [tO c] 3 := by
  have h0 : skp false (c :: 32 :: x) = 0 := by rcases hc with rfl | rfl | rfl <;> simp [skp, blkB]
  have hf : fstR (c :: 32 :: x) = .tok (tO c) 1 := by
    rcases hc with rfl | rfl | rfl
    · unfold fstR
      simp only
      rw [if_neg (by decide), if_neg (by decide), if_neg (by decide), if_neg (by decide), if_neg (by decide), if_neg (by decide), if_neg (by simp [endsB]), if_pos (by decide)]
      have : pre symB (43 :: 32 :: x) = 1 := by simp [pre, symB, amongB]
      rw [this]; rfl
    · unfold fstR
      simp only
      rw [if_neg (by decide), if_neg (by decide), if_neg (by decide), if_neg (by decide), if_neg (by decide), if_neg (by decide), if_neg (by simp [endsB]), if_pos (by decide)]
      have : pre symB (45 :: 32 :: x) = 1 := by simp [pre, symB, amongB]
      rw [this]; rfl
    · unfold fstR
      simp only
      rw [if_neg (by decide), if_neg (by decide), if_neg (by decide), if_neg (by decide), if_neg (by decide), if_neg (by decide), if_neg (by simp [endsB]), if_pos (by decide)]
      have : pre symB (42 :: 32 :: x) = 1 := by simp [pre, symB, amongB]
      rw [this]; rfl
  rw [scan_blank, scan_tok (l := c :: 32 :: x) false (t := tO c) (n := 1) (by rw [h0]; exact hf), h0]
  simp only [Nat.zero_add, List.drop_succ_cons, List.drop_zero]
  rw [scan_blank, after_after, after_after]
  simp [tO]
def pcT (b : UInt8) : List UInt8 := if 128 ≤ b.toNat then [32, 43, 32, 50, 32, 42, 32, dgt b] else [32, 45, 32, dgt b]
def pcK (b : UInt8) : List Tok := if 128 ≤ b.toNat then [tO 43, tN 2 false, tO 42, tN b false] else [tO 45, tN b false]
def pcM (t : Tm) (b : UInt8) : Tm := if 128 ≤ b.toNat then .mk 3 0 (strV [43]) [t, .mk 3 0 (strV [42]) [nM 2, nM (b.toNat % 10)]] else .mk 3 0 (strV [45]) [t, nM (b.toNat % 10)]
def tE' : Tok := ⟨5, [46], 0, false, true⟩
theorem past_pc (l : List UInt8) : past (l.flatMap pcT ++ [46]) := by
  cases l with
  | nil => exact past46
  | cons b l =>
    rw [List.flatMap_cons]
    unfold pcT
    split
    · exact past32 _
    · exact past32 _
theorem scan_pcs : ∀ (l : List UInt8), scan true (l.flatMap pcT ++ [46]) = .ok (l.flatMap pcK ++ [tE'])
  | [] => by decide +kernel
  | b :: l => by
    have ih := scan_pcs l
    have hp := past_pc l
    rw [List.flatMap_cons, List.flatMap_cons, List.append_assoc, List.append_assoc]
    generalize l.flatMap pcT ++ [46] = r at ih hp
    generalize l.flatMap pcK ++ [tE'] = ts at ih
    unfold pcT pcK
    split
    · show scan true (32 :: 43 :: 32 :: (dgt 2 :: 32 :: 42 :: 32 :: dgt b :: r)) = _
      rw [scan_op true (.inl rfl), scan_dig false 2 (past32 _), scan_op true (.inr (.inr rfl)), scan_dig false b hp, ih]
      simp [ScanR.after]
    · show scan true (32 :: 45 :: 32 :: (dgt b :: r)) = _
      rw [scan_op true (.inr (.inl rfl)), scan_dig false b hp, ih]
      simp [ScanR.after]
theorem scan_sum (b : UInt8) (l : List UInt8) : scan false (dgt b :: (l.flatMap pcT ++ [46])) = .ok (tN b false :: (l.flatMap pcK ++ [tE'])) := by
  rw [scan_dig false b (past_pc l), scan_pcs]; simp [ScanR.after]

/-! ### What they read as -/
theorem ahd_drop (L : List Tok) (i x : Nat) : ahd L (i + x) = ahd (L.drop i) x := by
  unfold ahd
  rw [List.getD_eq_getElem?_getD, List.getD_eq_getElem?_getD, List.getElem?_drop]
theorem ahd_at {L ts : List Tok} {t : Tok} {i : Nat} (h : L.drop i = t :: ts) : ahd L i = t ∧ L.drop (i + 1) = ts := by
  have := ahd_drop L i 0
  rw [h] at this
  refine ⟨this, ?_⟩
  rw [← List.drop_drop, h]; rfl
/-- A number, with nothing behind it that is an operator here. -/
theorem rd_num {L : List Tok} {lv : Int} {d most i : Nat} {ns : Nms} {b : UInt8} {g : Bool} (h : ahd L i = tN b g) (ho : opG L most 0 (i + 1) = none) : rd L lv (d + 2) most i ns = .ok (nM (b.toNat % 10)) (i + 1) ns := by
  rw [rd]
  unfold primG
  rw [if_pos (by rw [h]; rfl)]
  unfold numG
  rw [h, if_neg (by show ¬ ((b.toNat % 10 : Nat) : Int) < 0; omega)]
  show loopG L lv (rd L lv (d + 1)) most (L.length + 1 - (i + 1)) (nM (b.toNat % 10)) 0 (i + 1) ns = _
  cases hn : L.length + 1 - (i + 1) with
  | zero => rfl
  | succ n => unfold loopG; rw [ho]
theorem loop_stop {L : List Tok} {lv : Int} {r : Rdr} {most n pri i : Nat} {t : Tm} {ns : Nms} (ho : opG L most pri i = none) : loopG L lv r most n t pri i ns = .ok t i ns := by
  cases n with
  | zero => rfl
  | succ n => unfold loopG; rw [ho]
theorem op_none {L : List Tok} {most pri i : Nat} {t : Tok} (h : ahd L i = t) (hb : bare t = false) (hc : isP t [44] = false) : opG L most pri i = none := by
  unfold opG
  rw [h, hb, hc, if_neg (by decide)]
theorem op_some {L : List Tok} {most pri i left own right : Nat} {c : UInt8} (h : ahd L i = tO c) (hi : infR [c] = some (left, own, right)) : opG L most pri i = if own ≤ most ∧ pri ≤ left then some (own, right) else none := by
  unfold opG
  rw [h, if_pos (.inl (by rfl))]
  show (match infR [c] with | some (left, own, right) => if own ≤ most ∧ pri ≤ left then some (own, right) else none | none => none) = _
  rw [hi]
theorem inf43 : infR [43] = some (500, 500, 499) := by decide
theorem inf45 : infR [45] = some (500, 500, 499) := by decide
theorem inf42 : infR [42] = some (400, 400, 399) := by decide
/-- What stands at the head of what is left of a sum binds less than a product, and a sum. -/
theorem pc_none {L : List Tok} {most pri i : Nat} (l : List UInt8) (h : L.drop i = l.flatMap pcK ++ [tE']) (hm : most < 500) : opG L most pri i = none := by
  cases l with
  | nil => exact op_none (ahd_at h).1 (by decide) (by decide)
  | cons b l =>
    rw [List.flatMap_cons, List.append_assoc] at h
    unfold pcK at h
    split at h
    · rw [op_some (ahd_at h).1 inf43, if_neg (by omega)]
    · rw [op_some (ahd_at h).1 inf45, if_neg (by omega)]
theorem funG_two {lv : Int} {c : UInt8} (hc : c ≠ 64) (t u : Tm) (i : Nat) (ns : Nms) : funG lv [c] [t, u] i ns = .ok (.mk 3 0 (strV [c]) [t, u]) i ns := by
  show (if [c] = [64] then _ else _) = _
  rw [if_neg (by simp [hc])]
theorem loop_pcs {L : List Tok} {lv : Int} {d : Nat} : ∀ (l : List UInt8) (n : Nat) (t : Tm) (pri i : Nat) (ns : Nms), L.drop i = l.flatMap pcK ++ [tE'] → l.length ≤ n → pri ≤ 500 → ∃ j, loopG L lv (rd L lv (d + 4)) 1200 n t pri i ns = .ok (l.foldl pcM t) j ns ∧ ahd L j = tE' ∧ L.drop (j + 1) = []
  | [], n, t, pri, i, ns, h, hn, hp => by
    obtain ⟨h1, h2⟩ := ahd_at h
    exact ⟨i, loop_stop (op_none h1 (by decide) (by decide)), h1, h2⟩
  | b :: l, 0, t, pri, i, ns, h, hn, hp => by simp at hn
  | b :: l, n + 1, t, pri, i, ns, h, hn, hp => by
    rw [List.flatMap_cons, List.append_assoc] at h
    unfold loopG
    rw [List.foldl_cons]
    by_cases hb : 128 ≤ b.toNat
    · have e1 : pcK b = [tO 43, tN 2 false, tO 42, tN b false] := by unfold pcK; rw [if_pos hb]
      have e2 : pcM t b = .mk 3 0 (strV [43]) [t, .mk 3 0 (strV [42]) [nM 2, nM (b.toNat % 10)]] := by unfold pcM; rw [if_pos hb]
      rw [e1] at h
      obtain ⟨a1, h⟩ := ahd_at h
      obtain ⟨a2, h⟩ := ahd_at h
      obtain ⟨a3, h⟩ := ahd_at h
      obtain ⟨a4, h⟩ := ahd_at h
      change L.drop (i + 1 + 1 + 1 + 1) = l.flatMap pcK ++ [tE'] at h
      rw [op_some a1 inf43, if_pos (by omega)]
      simp only
      -- the product
      have hr : rd L lv (d + 4) 499 (i + 1) ns = .ok (.mk 3 0 (strV [42]) [nM 2, nM (b.toNat % 10)]) (i + 1 + 1 + 1 + 1) ns := by
        have hq : rd L lv (d + 3) 399 (i + 1 + 1 + 1) ns = .ok (nM (b.toNat % 10)) (i + 1 + 1 + 1 + 1) ns := rd_num (d := d + 1) a4 (pc_none l h (by decide))
        rw [rd]
        unfold primG
        rw [if_pos (by rw [a2]; rfl)]
        unfold numG
        rw [a2, if_neg (by decide)]
        show loopG L lv (rd L lv (d + 2 + 1)) 499 (L.length + 1 - (i + 1 + 1)) (nM 2) 0 (i + 1 + 1) ns = _
        have hlt : i + 1 + 1 < L.length := ahd_lt (by rw [a3]; decide)
        obtain ⟨m, hm⟩ : ∃ m, L.length + 1 - (i + 1 + 1) = m + 1 := ⟨L.length - (i + 1 + 1), by omega⟩
        rw [hm]
        unfold loopG
        rw [op_some a3 inf42, if_pos (by decide)]
        simp only
        rw [show d + 2 + 1 = d + 3 from rfl, hq]
        show (funG lv (ahd L (i + 1 + 1)).s [nM 2, nM (b.toNat % 10)] _ ns).bind _ = _
        rw [a3]
        show (funG lv [42] [nM 2, nM (b.toNat % 10)] _ ns).bind _ = _
        rw [funG_two (by decide)]
        exact loop_stop (pc_none l h (by decide))
      rw [hr]
      show ∃ j, ((funG lv (ahd L i).s [t, .mk 3 0 (strV [42]) [nM 2, nM (b.toNat % 10)]] _ ns).bind _) = _ ∧ _
      rw [a1]
      show ∃ j, ((funG lv [43] [t, .mk 3 0 (strV [42]) [nM 2, nM (b.toNat % 10)]] _ ns).bind _) = _ ∧ _
      rw [funG_two (by decide), e2]
      exact loop_pcs l n _ 500 _ ns h (by simpa using hn) (by decide)
    · have e1 : pcK b = [tO 45, tN b false] := by unfold pcK; rw [if_neg hb]
      have e2 : pcM t b = .mk 3 0 (strV [45]) [t, nM (b.toNat % 10)] := by unfold pcM; rw [if_neg hb]
      rw [e1] at h
      obtain ⟨a1, h⟩ := ahd_at h
      obtain ⟨a2, h⟩ := ahd_at h
      change L.drop (i + 1 + 1) = l.flatMap pcK ++ [tE'] at h
      rw [op_some a1 inf45, if_pos (by omega)]
      simp only
      have hr : rd L lv (d + 4) 499 (i + 1) ns = .ok (nM (b.toNat % 10)) (i + 1 + 1) ns := rd_num (d := d + 2) a2 (pc_none l h (by decide))
      rw [hr]
      show ∃ j, ((funG lv (ahd L i).s [t, nM (b.toNat % 10)] _ ns).bind _) = _ ∧ _
      rw [a1]
      show ∃ j, ((funG lv [45] [t, nM (b.toNat % 10)] _ ns).bind _) = _ ∧ _
      rw [funG_two (by decide), e2]
      exact loop_pcs l n _ 500 _ ns h (by simpa using hn) (by decide)
/-- One sentence that reads so, and may be, is all. -/
theorem all_one {L : List Tok} {lv : Int} {T : Tm} {j : Nat} {ns : Nms} (h : rd L lv 60 1200 0 [] = .ok T j ns) (he : (ahd L j).kind = 5) (hd : L.drop (j + 1) = []) (hc : T.check lv = 0) : allF L lv (L.length + 1) [] 0 = .ok [T] := by
  have hlt : j < L.length := ahd_lt (by rw [he]; decide)
  have hr : readG L lv 0 = .ok T (j + 1) ns := by
    unfold readG
    rw [h]
    show (if (ahd L j).kind ≠ 5 then _ else _) = _
    rw [if_neg (by rw [he]; decide), if_neg (by rw [hc]; decide)]
  have hle : L.length ≤ j + 1 := List.drop_eq_nil_iff.1 hd
  obtain ⟨m, hm⟩ : ∃ m, L.length = m + 1 := ⟨L.length - 1, by omega⟩
  rw [hm]
  unfold allF
  rw [if_neg (by omega), hr]
  simp only
  unfold allF
  rw [if_pos hle]
  rfl
theorem nM_deep (n : Nat) : (nM n).deep = 1 := by unfold nM; rw [Tm.deep_mk, Tm.deeps_nil]
theorem nM_size (n : Nat) : (nM n).size = 1 := by unfold nM; rw [Tm.size_mk, Tm.sizes_nil]
theorem valid_parts (lv : Int) (T : Tm) (d : Nat) : validL lv (T.parts d) = validL lv (T.parts 1) := by
  have key : ∀ (T : Tm) (d e : Nat), validL lv (T.parts d) = validL lv (T.parts e) := by
    intro T
    induction T using Tm.ind with
    | h k n s ks ih =>
      intro d e
      have : ∀ (ks : List Tm), (∀ t ∈ ks, ∀ d e : Nat, validL lv (t.parts d) = validL lv (t.parts e)) → ∀ d e, validL lv (Tm.partss d ks) = validL lv (Tm.partss e ks) := by
        intro ks
        induction ks with
        | nil => intro _ d e; rw [Tm.partss_nil, Tm.partss_nil]
        | cons t ts iht =>
          intro h d e
          have h1 := h t (by simp) d e
          have h2 := iht (fun u hu => h u (by simp [hu])) d e
          unfold validL at h1 h2 ⊢
          rw [Tm.partss_cons, Tm.partss_cons, List.all_append, List.all_append, h1, h2]
      have h3 := this ks ih (d + 1) (e + 1)
      unfold validL at h3 ⊢
      rw [Tm.parts_mk, Tm.parts_mk, List.all_cons, List.all_cons, h3]
  exact key T d 1
theorem valid_mk7 (lv : Int) (k n : Int) (s : ByteArray) (ks : List Tm) : (Tm.mk k n s ks).valid lv = ((Tm.mk k n s ks).formed lv && ks.all fun t => t.valid lv) := by
  have : ∀ (ks : List Tm) (d : Nat), validL lv (Tm.partss d ks) = ks.all fun t => t.valid lv := by
    intro ks
    induction ks with
    | nil => intro d; rw [Tm.partss_nil]; rfl
    | cons t ts ih =>
      intro d
      have h1 := valid_parts lv t d
      have h2 := ih d
      unfold validL at h1 h2
      unfold validL
      rw [Tm.partss_cons, List.all_append, h1, h2, List.all_cons]
      rfl
  have h3 := this ks 2
  unfold validL at h3
  unfold Tm.valid validL
  rw [Tm.parts_mk, List.all_cons, h3]
  rfl
theorem nM_valid (n : Nat) (lv : Int) : (nM n).valid lv = true := by
  unfold nM
  rw [valid_mk7]
  simp [Tm.formed, Tm.kind, Tm.name, Tm.kids]
/-- How great a term of these may be. -/
def Fine (T : Tm) (m z : Nat) : Prop := T.deep ≤ m ∧ T.size ≤ z ∧ T.valid 1 = true
theorem Fine.check {T : Tm} {m z : Nat} (h : Fine T m z) (hm : m ≤ 60) (hz : z ≤ 1000) : T.check 1 = 0 := by
  obtain ⟨h1, h2, h3⟩ := h
  unfold Tm.check
  rw [if_neg (by omega), if_neg (by omega), if_pos h3]
theorem Fine.num (n : Nat) : Fine (nM n) 1 1 := ⟨by rw [nM_deep]; omega, by rw [nM_size]; omega, nM_valid _ _⟩
theorem Fine.two {T U : Tm} {m z m' z' : Nat} (h : Fine T m z) (g : Fine U m' z') {c : UInt8} (hs : (Tm.mk 3 0 (strV [c]) [T, U]).formed 1 = true) : Fine (.mk 3 0 (strV [c]) [T, U]) (max m m' + 1) (z + z' + 1) := by
  obtain ⟨h1, h2, h3⟩ := h
  obtain ⟨g1, g2, g3⟩ := g
  refine ⟨?_, ?_, ?_⟩
  · rw [Tm.deep_mk, Tm.deeps_cons, Tm.deeps_cons, Tm.deeps_nil]; omega
  · rw [Tm.size_mk, Tm.sizes_cons, Tm.sizes_cons, Tm.sizes_nil]; omega
  · rw [valid_mk7, hs]; simp [h3, g3]
theorem formed_two (c : UInt8) (T U : Tm) : (Tm.mk 3 0 (strV [c]) [T, U]).formed 1 = true := by
  rw [Tm.formed_eq (len := 2) _ _ _ _ _ rfl]
  simp [strV_size]
theorem Fine.weak {T : Tm} {m z m' z' : Nat} (h : Fine T m z) (hm : m ≤ m') (hz : z ≤ z') : Fine T m' z' := ⟨Nat.le_trans h.1 hm, Nat.le_trans h.2.1 hz, h.2.2⟩
theorem pcM_fine {T : Tm} {m z : Nat} (h : Fine T m z) (hm : 2 ≤ m) (b : UInt8) : Fine (pcM T b) (m + 1) (z + 4) := by
  unfold pcM
  split
  · exact (h.two ((Fine.num 2).two (Fine.num _) (formed_two _ _ _)) (formed_two _ _ _)).weak (by omega) (by omega)
  · exact (h.two (Fine.num _) (formed_two _ _ _)).weak (by omega) (by omega)
theorem pcs_fine : ∀ (l : List UInt8) {T : Tm} {m z : Nat}, Fine T m z → 2 ≤ m → Fine (l.foldl pcM T) (m + l.length) (z + 4 * l.length)
  | [], T, m, z, h, hm => by simpa using h
  | b :: l, T, m, z, h, hm => by
    rw [List.foldl_cons]
    exact (pcs_fine l (pcM_fine h hm b) (by omega)).weak (by simp; omega) (by simp; omega)
theorem pcT_len (b : UInt8) : (pcT b).length ≤ 8 := by unfold pcT; split <;> simp
theorem pcs_len : ∀ (l : List UInt8), (l.flatMap pcT).length ≤ 8 * l.length
  | [] => by simp
  | b :: l => by
    have h1 := pcs_len l
    have h2 := pcT_len b
    rw [List.flatMap_cons, List.length_append, List.length_cons]; omega
theorem pcK_len : ∀ (l : List UInt8), l.length ≤ (l.flatMap pcK).length
  | [] => by simp
  | b :: l => by
    have h1 := pcK_len l
    have h2 : 2 ≤ (pcK b).length := by unfold pcK; split <;> simp
    rw [List.flatMap_cons, List.length_append, List.length_cons]; omega
def sumM (b : UInt8) (l : List UInt8) : Tm := l.foldl pcM (nM (b.toNat % 10))
/-- READERSUMS, apart from memory. -/
theorem sums_ghost (b : UInt8) (l : List UInt8) (hl : l.length ≤ 24) : allG (dgt b :: (l.flatMap pcT ++ [46])) 1 = .ok [sumM b l] := by
  have hpl := pcs_len l
  refine (allG_ok (by rw [List.length_cons, List.length_append]; simp only [List.length_cons, List.length_nil]; omega)).2 ⟨_, scan_sum b l, ?_⟩
  obtain ⟨L, hL⟩ : ∃ L, L = tN b false :: (l.flatMap pcK ++ [tE']) := ⟨_, rfl⟩
  have a0 : ahd L 0 = tN b false := by rw [hL]; rfl
  have hd : L.drop 1 = l.flatMap pcK ++ [tE'] := by rw [hL]; rfl
  have hlen : l.length + 2 ≤ L.length := by have := pcK_len l; rw [hL, List.length_cons, List.length_append]; simp only [List.length_cons, List.length_nil]; omega
  rw [← hL]
  obtain ⟨j, h1, h2, h3⟩ := loop_pcs (L := L) (lv := 1) (d := 55) l (L.length + 1 - 1) (nM (b.toNat % 10)) 0 1 [] hd (by omega) (by omega)
  refine all_one (j := j) (ns := []) ?_ (by rw [h2]; rfl) h3 ?_
  · rw [rd]
    unfold primG
    rw [if_pos (by rw [a0]; rfl)]
    unfold numG
    rw [a0, if_neg (by show ¬ ((b.toNat % 10 : Nat) : Int) < 0; omega)]
    exact h1
  · exact (pcs_fine l ((Fine.num (b.toNat % 10)).weak (m' := 2) (z' := 1) (by omega) (by omega)) (by omega)).check (by omega) (by omega)
end Go.Proofs.YtgodbmmhkmockaaGreatDoor
