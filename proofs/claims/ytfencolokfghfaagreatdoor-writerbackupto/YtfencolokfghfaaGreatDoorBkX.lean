/-
  What is written of a term is scanned as the tokens that it should be, apart from memory.
-/
import Derived.Test.YtfencolokfghfaaGreatDoorWrY
import Derived.Test.YtfencolokfghfaaGreatDoorTokM
import Derived.Test.YtfencolokfghfaaGreatDoorReadG
import Derived.Test.YtfencolokfghfaaGreatDoorReadT
import Derived.Test.YtfencolokfghfaaGreatDoorOwnT
import Derived.StillTail
import Derived.OrdersHeld
import Derived.Deep.Quiet
import Derived.Tactics
import Derived.KernelRfl
namespace Go.Proofs.YtfencolokfghfaaGreatDoor
open Go.Shelf Go.RowKit Go.Sort
set_option linter.unusedVariables false

/-! ### Terms that may be written and read -/
def nameOk (s : ByteArray) : Prop := s.data.toList.length ≤ 64 ∧ ∀ c ∈ s.data.toList, 32 ≤ c.toNat ∨ c = 10
inductive Wr : Tm → Prop where
  | var (n : Int) (h0 : 0 ≤ n) (h1 : n < 4096) : Wr (.mk 1 n empB [])
  | int (n : Int) (h : i64ok n) : Wr (.mk 2 n empB [])
  | atom (s : ByteArray) (hs : nameOk s) : Wr (.mk 3 0 s [])
  | fn (s : ByteArray) (k : Tm) (ks : List Tm) (hs : nameOk s) (hat : ¬ (s.data.toList = [64] ∧ ks.length = 1)) (hk : Wr k) (hks : ∀ t ∈ ks, Wr t) : Wr (.mk 3 0 s (k :: ks))
  | sl (n : Int) (t : Tm) (h0 : 0 ≤ n) (h1 : n < 16) (hg : t.ground = true) (ht : Wr t) : Wr (.mk 4 n empB [t])
theorem ground_kid {k n : Int} {s : ByteArray} {t : Tm} (h : (Tm.mk k n s [t]).ground = true) : t.ground = true := by
  have key : ∀ (T : Tm) (d e : Nat), groundL (T.parts d) = groundL (T.parts e) := by
    intro T
    induction T using Tm.ind with
    | h k n s ks ih =>
      intro d e
      have : ∀ (ks : List Tm), (∀ t ∈ ks, ∀ d e : Nat, groundL (t.parts d) = groundL (t.parts e)) → ∀ d e, groundL (Tm.partss d ks) = groundL (Tm.partss e ks) := by
        intro ks
        induction ks with
        | nil => intro _ d e; rw [Tm.partss_nil, Tm.partss_nil]
        | cons t ts iht =>
          intro h d e
          have h1 := h t (by simp) d e
          have h2 := iht (fun u hu => h u (by simp [hu])) d e
          unfold groundL at h1 h2 ⊢
          rw [Tm.partss_cons, Tm.partss_cons, List.all_append, List.all_append, h1, h2]
      have h3 := this ks ih (d + 1) (e + 1)
      unfold groundL at h3 ⊢
      rw [Tm.parts_mk, Tm.parts_mk, List.all_cons, List.all_cons, h3]
  unfold Tm.ground at h ⊢
  rw [key t 1 2]
  unfold groundL at h ⊢
  rw [Tm.parts_mk, List.all_cons, Tm.partss_cons, Tm.partss_nil, List.append_nil, Bool.and_eq_true] at h
  exact h.2
theorem wr_of (T : Tm) : T.valid 16 = true → T.atb = false → (∀ d, ∀ x ∈ T.parts d, i64ok x.2.num) → Wr T := by
  induction T using Tm.ind with
  | h k n s ks ih =>
    intro hv ha hn
    have hok := okw_of _ hv ha
    rw [valid_mk8, Bool.and_eq_true, List.all_eq_true] at hv
    rw [Tm.atb_mk, Bool.or_eq_false_iff, Bool.or_eq_false_iff] at ha
    have hax := List.any_eq_false.1 ha.2.2
    have hlo := List.any_eq_false.1 ha.2.1
    have hkw : ∀ t ∈ ks, Wr t := fun t ht => ih t ht (hv.2 t ht) (by simpa using hax t ht) (fun d x hx => by
      have key : ∀ {ks : List Tm} {d : Nat}, t ∈ ks → x ∈ t.parts d → x ∈ Tm.partss d ks := by
        intro ks d ht hx
        induction ks with
        | nil => simp at ht
        | cons u us ihu =>
          rw [Tm.partss_cons, List.mem_append]
          rcases List.mem_cons.1 ht with rfl | ht
          · exact .inl hx
          · exact .inr (ihu ht)
      cases d with
      | zero =>
        have h1 : ∀ (T : Tm) (d e : Nat) (x : Nat × Tm), x ∈ T.parts d → ∃ y ∈ T.parts e, y.2 = x.2 := by
          intro T
          induction T using Tm.ind with
          | h k n s ks ih2 =>
            intro d e x hx
            have h3 : ∀ (ks : List Tm), (∀ t ∈ ks, ∀ (d e : Nat) (x : Nat × Tm), x ∈ t.parts d → ∃ y ∈ t.parts e, y.2 = x.2) → ∀ (d e : Nat) (x : Nat × Tm), x ∈ Tm.partss d ks → ∃ y ∈ Tm.partss e ks, y.2 = x.2 := by
              intro ks
              induction ks with
              | nil => intro _ d e x hx; rw [Tm.partss_nil] at hx; simp at hx
              | cons t ts iht =>
                intro h d e x hx
                rw [Tm.partss_cons, List.mem_append] at hx
                rcases hx with hx | hx
                · obtain ⟨y, hy, e1⟩ := h t (by simp) d e x hx
                  exact ⟨y, by rw [Tm.partss_cons]; simp [hy], e1⟩
                · obtain ⟨y, hy, e1⟩ := iht (fun u hu => h u (by simp [hu])) d e x hx
                  exact ⟨y, by rw [Tm.partss_cons]; simp [hy], e1⟩
            rw [Tm.parts_mk] at hx
            rcases List.mem_cons.1 hx with rfl | hx
            · exact ⟨(e, .mk k n s ks), by rw [Tm.parts_mk]; simp, rfl⟩
            · obtain ⟨y, hy, e1⟩ := h3 ks ih2 (d + 1) (e + 1) x hx
              exact ⟨y, by rw [Tm.parts_mk]; simp [hy], e1⟩
        obtain ⟨y, hy, e1⟩ := h1 t 0 1 x hx
        have hy2 : ∀ {ks : List Tm}, t ∈ ks → y ∈ Tm.partss 1 ks := by
          intro ks ht
          induction ks with
          | nil => simp at ht
          | cons u us ihu =>
            rw [Tm.partss_cons, List.mem_append]
            rcases List.mem_cons.1 ht with rfl | ht
            · exact .inl hy
            · exact .inr (ihu ht)
        rw [← e1]
        exact hn 0 y (by rw [Tm.parts_mk]; simp [hy2 ht])
      | succ d => exact hn d x (by rw [Tm.parts_mk]; simp [key ht hx]))
    have hf := hv.1
    rw [Tm.formed_eq 16 k n s ks ks.length rfl] at hf
    have hnm : s.size ≤ 64 → nameOk s := fun h => ⟨by rw [← len_of (s := s) rfl]; exact h, fun c hc => by
      have := hlo c hc
      unfold lowC at this
      simp only [Bool.and_eq_true, decide_eq_true_eq, not_and, Classical.not_not] at this
      by_cases h32 : c.toNat < 32
      · exact .inr (this h32)
      · exact .inl (by omega)⟩
    obtain ⟨-, ⟨rfl, rfl, rfl⟩ | ⟨rfl, rfl, rfl⟩ | ⟨rfl, rfl, hat⟩ | ⟨rfl, rfl, t, rfl⟩⟩ := Tm.okw_cases hok
    · rw [if_pos rfl] at hf
      simp only [Bool.and_eq_true, decide_eq_true_eq] at hf
      exact .var n hf.1.1.1 hf.1.1.2
    · exact .int n (hn 1 (1, .mk 2 n empB []) (by rw [Tm.parts_mk]; simp))
    · rw [if_neg (by decide), if_neg (by decide), if_pos rfl] at hf
      simp only [Bool.and_eq_true, decide_eq_true_eq] at hf
      cases ks with
      | nil => exact .atom s (hnm hf.1.2)
      | cons k ks => exact .fn s k ks (hnm hf.1.2) (fun e => hat ⟨e.1, by simp [e.2]⟩) (hkw k (by simp)) (fun t ht => hkw t (by simp [ht]))
    · rw [if_neg (by decide), if_neg (by decide), if_neg (by decide), if_pos rfl] at hf
      simp only [Bool.and_eq_true, decide_eq_true_eq] at hf
      exact .sl n t hf.1.1.1.2 hf.1.1.2 (ground_kid hf.2) (hkw t (by simp))
/-! ### Tokens -/
def tP (c : UInt8) (b : Bool) : Tok := ⟨4, [c], 0, false, b⟩
def tQ (l : List UInt8) (b : Bool) : Tok := ⟨1, l, 0, !plainB l, b⟩
def tF (l : List UInt8) (b : Bool) : Tok := ⟨1, l, 0, decide (l = [91, 93]) || !plainB l, b⟩
mutual
/-- The tokens of what is written; b: is the first one tight? -/
def Tm.tks : Tm → Bool → List Tok
  | .mk k n s ks, b =>
    if k = 1 then [⟨2, 95 :: Lib.itoa n, 0, false, b⟩]
    else if k = 2 then (if n < 0 then [⟨1, [45], 0, false, b⟩, ⟨3, [], IntKind.i64.wrap (n.natAbs : Int), false, true⟩] else [⟨3, [], n, false, b⟩])
    else if k = 3 then (if ks.length = 0 then (if s.data.toList = [91, 93] then [tP 91 b, tP 93 true] else [tQ s.data.toList b]) else tF s.data.toList b :: tP 40 true :: ((Tm.tksc ks).tail ++ [tP 41 true]))
    else tF [64] b :: tP 40 true :: ((Tm.tksc ks).tail ++ [tP 44 true, ⟨3, [], n, false, true⟩, tP 41 true])
def Tm.tksc : List Tm → List Tok
  | [] => []
  | t :: ts => tP 44 true :: (t.tks true ++ Tm.tksc ts)
end
theorem Tm.tks_mk (k n : Int) (s : ByteArray) (ks : List Tm) (b : Bool) : (Tm.mk k n s ks).tks b = if k = 1 then [⟨2, 95 :: Lib.itoa n, 0, false, b⟩]
    else if k = 2 then (if n < 0 then [⟨1, [45], 0, false, b⟩, ⟨3, [], IntKind.i64.wrap (n.natAbs : Int), false, true⟩] else [⟨3, [], n, false, b⟩])
    else if k = 3 then (if ks.length = 0 then (if s.data.toList = [91, 93] then [tP 91 b, tP 93 true] else [tQ s.data.toList b]) else tF s.data.toList b :: tP 40 true :: ((Tm.tksc ks).tail ++ [tP 41 true]))
    else tF [64] b :: tP 40 true :: ((Tm.tksc ks).tail ++ [tP 44 true, ⟨3, [], n, false, true⟩, tP 41 true]) := by rw [Tm.tks]
theorem Tm.tksc_nil : Tm.tksc [] = [] := by rw [Tm.tksc]
theorem Tm.tksc_cons (t : Tm) (ts : List Tm) : Tm.tksc (t :: ts) = tP 44 true :: (t.tks true ++ Tm.tksc ts) := by rw [Tm.tksc]
theorem tks_fn (s : ByteArray) (k : Tm) (ks : List Tm) (b : Bool) : (Tm.mk 3 0 s (k :: ks)).tks b = tF s.data.toList b :: tP 40 true :: (k.tks true ++ (Tm.tksc ks ++ [tP 41 true])) := by
  rw [Tm.tks_mk, if_neg (by decide), if_neg (by decide), if_pos rfl, if_neg (by simp), Tm.tksc_cons]
  simp
theorem tks_sl (n : Int) (t : Tm) (b : Bool) : (Tm.mk 4 n empB [t]).tks b = tF [64] b :: tP 40 true :: (t.tks true ++ [tP 44 true, ⟨3, [], n, false, true⟩, tP 41 true]) := by
  rw [Tm.tks_mk, if_neg (by decide), if_neg (by decide), if_neg (by decide), Tm.tksc_cons, Tm.tksc_nil]
  simp
theorem txt_fn (s : ByteArray) (k : Tm) (ks : List Tm) : (Tm.mk 3 0 s (k :: ks)).txt = fnL s.data.toList ++ 40 :: (k.txt ++ (Tm.txtc ks ++ [41])) := by
  rw [Tm.txt_mk, if_neg (by decide), if_neg (by decide), if_pos rfl, if_neg (by simp), Tm.txtc_cons]
  simp
theorem txt_sl (n : Int) (t : Tm) : (Tm.mk 4 n empB [t]).txt = [64] ++ 40 :: (t.txt ++ 44 :: (Lib.itoa n ++ [41])) := by
  rw [Tm.txt_mk, if_neg (by decide), if_neg (by decide), if_neg (by decide), if_pos ⟨rfl, rfl⟩, Tm.txtc_cons, Tm.txtc_nil]
  simp
/-! ### Scanning -/
/-- What may stand behind a token. -/
def fo9 (r : List UInt8) : Prop := ∃ c x, r = c :: x ∧ (c = 40 ∨ c = 41 ∨ c = 44 ∨ c = 32)
theorem scan_fst (b : Bool) {x r : List UInt8} {t : Tok} (hs : skp false (x ++ r) = 0) (hf : fstR (x ++ r) = .tok t x.length) {us : List Tok} (hr : scan true r = .ok us) : scan b (x ++ r) = .ok ({ t with tight := b } :: us) := by
  rw [scan_tok (l := x ++ r) b (by rw [hs]; exact hf), hs, Nat.zero_add, List.drop_left, hr]
  simp [ScanR.after]
theorem pre_fo (p : UInt8 → Bool) (h40 : p 40 = false) (h41 : p 41 = false) (h44 : p 44 = false) (h32 : p 32 = false) {r : List UInt8} (hr : fo9 r) : ∀ l : List UInt8, l.all p = true → pre p (l ++ r) = l.length
  | [], _ => by
    obtain ⟨c, x, rfl, hc⟩ := hr
    have : p c = false := by rcases hc with rfl | rfl | rfl | rfl <;> assumption
    simp [pre, this]
  | c :: l, h => by
    simp only [List.all_cons, Bool.and_eq_true] at h
    simp only [List.cons_append, pre, h.1, if_true, List.length_cons, pre_fo p h40 h41 h44 h32 hr l h.2]
theorem all_of_pre9 {p : UInt8 → Bool} : ∀ {l : List UInt8}, pre p l = l.length → l.all p = true
  | [], _ => rfl
  | c :: l, h => by
    by_cases hc : p c = true
    · simp only [pre, hc, if_true, List.length_cons] at h
      simp [hc, all_of_pre9 (p := p) (l := l) (by omega)]
    · simp [pre, hc] at h
theorem sym_not9 {c : UInt8} (h : symB c = true) : lowB c = false ∧ upB c = false ∧ digB c = false ∧ ¬ c = 39 ∧ punB c = false ∧ sinB c = false ∧ ¬ c = 37 ∧ blkB c = false := by
  have hm : c ∈ ([43, 45, 42, 47, 92, 94, 60, 62, 61, 126, 58, 46, 63, 64, 35, 38, 36] : List UInt8) := by simpa [symB, amongB] using h
  simp only [List.mem_cons, List.not_mem_nil, or_false] at hm
  rcases hm with rfl | rfl | rfl | rfl | rfl | rfl | rfl | rfl | rfl | rfl | rfl | rfl | rfl | rfl | rfl | rfl | rfl <;> decide
theorem low_not9 {c : UInt8} (h : lowB c = true) : ¬ c = 37 ∧ blkB c = false := by
  have hr : 97 ≤ c.toNat ∧ c.toNat ≤ 122 := by simpa [lowB, spanB] using h
  refine ⟨fun e => by subst e; revert hr; decide, ?_⟩
  by_cases hb : blkB c = true
  · have : c = 9 ∨ c = 10 ∨ c = 13 ∨ c = 32 := by simpa [blkB] using hb
    rcases this with rfl | rfl | rfl | rfl <;> (revert hr; decide)
  · simpa using hb
theorem esc_step9 (c : UInt8) (rest : List UInt8) (h : 32 ≤ c.toNat ∨ c = 10) : escB c ++ rest ≠ [] ∧ closB (escB c ++ rest) = false ∧ meanR (escB c ++ rest) = some (c, (escB c).length) := by
  unfold escB
  by_cases h1 : c = 39 ∨ c = 92
  · rw [if_pos h1]
    rcases h1 with rfl | rfl
    · exact ⟨by simp, by simp [closB], by simp [meanR_cons]⟩
    · exact ⟨by simp, by simp [closB], by simp [meanR_cons]⟩
  · rw [if_neg h1]
    by_cases h2 : c = 10
    · subst h2
      rw [if_pos rfl]
      exact ⟨by simp, by simp [closB], by simp [meanR_cons]⟩
    · rw [if_neg h2]
      have h3 : 32 ≤ c.toNat := h.resolve_right h2
      have n39 : ¬ c = 39 := fun e => h1 (Or.inl e)
      have n92 : ¬ c = 92 := fun e => h1 (Or.inr e)
      refine ⟨by simp, ?_, ?_⟩
      · cases rest <;> simp [closB, n39]
      · rw [List.singleton_append, meanR_cons]
        simp [n39, n92]
        omega
theorem quo_esc9 {r : List UInt8} (hr : fo9 r) : ∀ (l acc : List UInt8) (a : Nat), (∀ c ∈ l, 32 ≤ c.toNat ∨ c = 10) → quo acc (escL l ++ 39 :: r) a = limR ⟨1, acc ++ l, 0, true, false⟩ (a + (escL l).length + 1)
  | [], acc, a, _ => by
    rw [quo_ne _ _ (show escL [] ++ 39 :: r ≠ [] by simp [escL])]
    have : closB (escL [] ++ 39 :: r) = true := by
      obtain ⟨c, x, rfl, hc⟩ := hr
      rcases hc with rfl | rfl | rfl | rfl <;> simp [escL, closB]
    rw [if_pos this]
    simp [escL]
  | c :: l, acc, a, h => by
    obtain ⟨h1, h2, h3⟩ := esc_step9 c (escL l ++ 39 :: r) (h c (by simp))
    have e : escL (c :: l) ++ 39 :: r = escB c ++ (escL l ++ 39 :: r) := by simp [escL]
    rw [e, quo_ne _ _ h1, h2, h3]
    simp only [Bool.false_eq_true, if_false]
    rw [List.drop_left, quo_esc9 hr l (acc ++ [c]) _ (fun d hd => h d (by simp [hd]))]
    simp [escL, Nat.add_assoc]
theorem fst_quoted {l r : List UInt8} (hr : fo9 r) (hl : l.length ≤ 64) (h : ∀ c ∈ l, 32 ≤ c.toNat ∨ c = 10) : skp false ((39 :: escL l ++ [39]) ++ r) = 0 ∧ fstR ((39 :: escL l ++ [39]) ++ r) = .tok ⟨1, l, 0, true, false⟩ (39 :: escL l ++ [39]).length := by
  have hx : (39 :: escL l ++ [39]) ++ r = 39 :: (escL l ++ 39 :: r) := by simp
  rw [hx]
  refine ⟨by simp [skp, blkB], ?_⟩
  have hz : fstR (39 :: (escL l ++ 39 :: r)) = quo [] (escL l ++ 39 :: r) 1 := by
    unfold fstR
    simp only [show lowB 39 = false by decide, show upB 39 = false by decide, show digB 39 = false by decide, Bool.false_eq_true, if_false, if_true]
    rfl
  rw [hz, quo_esc9 hr l [] 1 h]
  unfold limR
  rw [if_neg (by simp; omega)]
  simp
  omega
/-- A name, as it is written. -/
theorem fst_name {l r : List UInt8} (hr : fo9 r) (hl : l.length ≤ 64) (h : ∀ c ∈ l, 32 ≤ c.toNat ∨ c = 10) (hb : l ≠ [91, 93]) : skp false (quoteL l ++ r) = 0 ∧ fstR (quoteL l ++ r) = .tok ⟨1, l, 0, !plainB l, false⟩ (quoteL l).length := by
  have hw : wrt 1 l = .tok ⟨1, l, 0, false, false⟩ l.length := by
    unfold wrt limR; rw [if_neg (by simp; omega)]
  by_cases hp : plainB l = true
  · have hql : quoteL l = l := by unfold quoteL; rw [if_pos hp]
    rw [hql, hp]
    unfold plainB at hp
    split at hp
    · cases hp
    · rename_i h0
      have hne : l ≠ [] := fun e => h0 (Or.inl e)
      have h46 : l ≠ [46] := fun e => h0 (Or.inr e)
      split at hp
      · rename_i h3
        rcases h3 with rfl | rfl | rfl
        · exact absurd rfl hb
        · refine ⟨by simp [skp, blkB], ?_⟩
          unfold fstR
          simp only [List.cons_append, List.nil_append, show lowB 33 = false by decide, show upB 33 = false by decide, show digB 33 = false by decide, show punB 33 = false by decide, show sinB 33 = true by decide, Bool.false_eq_true, if_false, if_true]
          rw [if_neg (by decide), hw]
          rfl
        · refine ⟨by simp [skp, blkB], ?_⟩
          unfold fstR
          simp only [List.cons_append, List.nil_append, show lowB 59 = false by decide, show upB 59 = false by decide, show digB 59 = false by decide, show punB 59 = false by decide, show sinB 59 = true by decide, Bool.false_eq_true, if_false, if_true]
          rw [if_neg (by decide), hw]
          rfl
      · obtain ⟨c, x, rfl⟩ := List.exists_cons_of_ne_nil hne
        simp only [List.headD_cons, Bool.or_eq_true, Bool.and_eq_true, decide_eq_true_eq] at hp
        rcases hp with ⟨hc, ha⟩ | ha
        · obtain ⟨n1, n2⟩ := low_not9 hc
          have e := pre_fo wordB (by decide) (by decide) (by decide) (by decide) hr _ (all_of_pre9 ha)
          refine ⟨by rw [List.cons_append, skp, if_neg n1, n2]; simp, ?_⟩
          rw [List.cons_append]
          unfold fstR
          simp only [hc, if_true]
          rw [← List.cons_append, e, List.take_left, hw]
          rfl
        · have hall := all_of_pre9 ha
          have hc : symB c = true := by simp only [List.all_cons, Bool.and_eq_true] at hall; exact hall.1
          obtain ⟨n1, n2, n3, n4, n5, n6, n7, n8⟩ := sym_not9 hc
          have e := pre_fo symB (by decide) (by decide) (by decide) (by decide) hr _ hall
          have hend : endsB (c :: x ++ r) = false := by
            show (c == 46 && (decide (x ++ r = []) || decide (0 < skp false (x ++ r)))) = false
            by_cases h6 : c = 46
            · subst h6
              cases x with
              | nil => exact absurd rfl h46
              | cons d x =>
                have hd : symB d = true := by simp only [List.all_cons, Bool.and_eq_true] at hall; exact hall.2.1
                obtain ⟨_, _, _, _, _, _, m7, m8⟩ := sym_not9 hd
                have : skp false (d :: x ++ r) = 0 := by rw [List.cons_append, skp, if_neg m7, m8]; simp
                rw [this]; simp
            · simp [h6]
          refine ⟨by rw [List.cons_append, skp, if_neg n7, n8]; simp, ?_⟩
          rw [List.cons_append] at hend ⊢
          unfold fstR
          simp only [n1, n2, n3, n5, n6, hend, hc, if_neg n4, Bool.false_eq_true, if_false, if_true]
          rw [← List.cons_append, e, List.take_left, hw]
          rfl
  · have hql : quoteL l = 39 :: escL l ++ [39] := by unfold quoteL; rw [if_neg hp]
    have hpf : plainB l = false := by simpa using hp
    rw [hql, hpf]
    exact fst_quoted hr hl h
theorem fst_fn {l r : List UInt8} (hr : fo9 r) (hl : l.length ≤ 64) (h : ∀ c ∈ l, 32 ≤ c.toNat ∨ c = 10) : skp false (fnL l ++ r) = 0 ∧ fstR (fnL l ++ r) = .tok ⟨1, l, 0, decide (l = [91, 93]) || !plainB l, false⟩ (fnL l).length := by
  unfold fnL
  by_cases hb : l = [91, 93]
  · subst hb
    rw [if_pos rfl]
    have := fst_quoted (l := [91, 93]) hr (by decide) (by decide)
    rw [show (39 :: escL [91, 93] ++ [39] : List UInt8) = [39, 91, 93, 39] by decide] at this
    exact this
  · rw [if_neg hb, decide_eq_false hb, Bool.false_or]
    exact fst_name hr hl h hb
theorem scan_p (b : Bool) {c : UInt8} (hc : c = 40 ∨ c = 41 ∨ c = 44 ∨ c = 91 ∨ c = 93) {r : List UInt8} {us : List Tok} (hr : scan true r = .ok us) : scan b (c :: r) = .ok (tP c b :: us) := by
  have h := scan_fst b (x := [c]) (r := r) (t := ⟨4, [c], 0, false, false⟩) (by rcases hc with rfl | rfl | rfl | rfl | rfl <;> simp [skp, blkB]) (by
    rcases hc with rfl | rfl | rfl | rfl | rfl <;> rfl) hr
  exact h
theorem dig_not9 {c : UInt8} (h : digB c = true) : lowB c = false ∧ upB c = false ∧ blkB c = false ∧ c ≠ 37 ∧ wordB c = true ∧ symB c = false := by
  have hc : 48 ≤ c.toNat ∧ c.toNat ≤ 57 := by simpa [digB, spanB] using h
  have hne : ∀ d : UInt8, (d.toNat < 48 ∨ 57 < d.toNat) → c ≠ d := fun d hd e => by subst e; omega
  refine ⟨by simp [lowB, spanB]; omega, ?_, ?_, hne 37 (by decide), by simp [wordB, h], ?_⟩
  · have h1 : c ≠ 95 := hne 95 (by decide)
    simp [upB, spanB, amongB, h1]; omega
  · simp [blkB, hne 9 (by decide), hne 10 (by decide), hne 13 (by decide), hne 32 (by decide)]
  · cases hs : symB c with
    | false => rfl
    | true => exact absurd (sym_not9 hs).2.2.1 (by rw [h]; decide)
theorem parse_app9 (M : Nat) : ∀ (l r : List UInt8) (acc a : Nat), Lib.parseUintM M acc l = .ok a → Lib.parseUintM M acc (l ++ r) = Lib.parseUintM M a r
  | [], r, acc, a, h => by cases h; rfl
  | c :: l, r, acc, a, h => by
    simp only [List.cons_append, Lib.parseUintM] at h ⊢
    split at h
    · split at h
      · cases h
      · split at h
        · cases h
        · rename_i h1 h2 h3
          rw [if_pos h1, if_neg h2, if_neg h3]
          exact parse_app9 M l r _ a h
    · cases h
theorem parse_dec (n : Nat) (h : n < 18446744073709551616) : Lib.parseUintM (2 ^ 64 - 1) 0 (Lib.decDigits n) = .ok n := by
  induction n using Nat.strongRecOn with
  | ind n ih =>
    have hd : (UInt8.ofNat (48 + n % 10)).toNat = 48 + n % 10 := by rw [UInt8.toNat_ofNat']; omega
    by_cases h10 : n < 10
    · rw [Lib.decDigits_one h10, show UInt8.ofNat (48 + n) = UInt8.ofNat (48 + n % 10) by rw [Nat.mod_eq_of_lt h10]]
      simp only [Lib.parseUintM, hd]
      rw [if_pos (by omega), if_neg (by omega), if_neg (by omega)]
      congr 1; omega
    · rw [dec_step h10, parse_app9 _ _ _ _ _ (ih (n / 10) (by omega) (by omega))]
      simp only [Lib.parseUintM, hd]
      rw [if_pos (by omega), if_neg (by omega), if_neg (by omega)]
      congr 1; omega
theorem scan_num9 (b : Bool) (n : Nat) (h : n ≤ 9223372036854775808) {r : List UInt8} {us : List Tok} (hf : fo9 r) (hr : scan true r = .ok us) : scan b (Lib.decDigits n ++ r) = .ok (⟨3, [], IntKind.i64.wrap (n : Int), false, b⟩ :: us) := by
  have hall : (Lib.decDigits n).all digB = true := List.all_eq_true.2 (fun c hc => dec_dig n c hc)
  have e := pre_fo digB (by decide) (by decide) (by decide) (by decide) hf _ hall
  obtain ⟨c, x, hc⟩ := List.exists_cons_of_ne_nil (dec_ne n)
  have hdc : digB c = true := dec_dig n c (by rw [hc]; simp)
  obtain ⟨h1, h2, h3, h4, -, -⟩ := dig_not9 hdc
  have hs : skp false (Lib.decDigits n ++ r) = 0 := by rw [hc, List.cons_append, skp, if_neg h4, h3]; simp
  have hfn : fstR (Lib.decDigits n ++ r) = numR (Lib.decDigits n ++ r) := by
    rw [hc, List.cons_append]
    simp only [fstR, h1, h2, hdc, if_true, Bool.false_eq_true, if_false]
  have hfr : frac r = false := by
    obtain ⟨c, x, rfl, hc⟩ := hf
    cases x with
    | nil => rfl
    | cons d x => rcases hc with rfl | rfl | rfl | rfl <;> rfl
  have hn : numR (Lib.decDigits n ++ r) = .tok ⟨3, [], IntKind.i64.wrap (n : Int), false, false⟩ (Lib.decDigits n).length := by
    unfold numR
    rw [e, List.drop_left, List.take_left, hfr]
    have : Lib.parseUintB 64 (Lib.decDigits n) = .ok n := by unfold Lib.parseUintB; rw [if_neg (dec_ne n)]; exact parse_dec n (by omega)
    rw [this]
    simp only [Bool.false_eq_true, if_false]
    rw [if_neg (by omega)]
  exact scan_fst b hs (hfn.trans hn) hr
theorem scan_minus (b : Bool) (n : Nat) {r : List UInt8} {us : List Tok} (hr : scan true (Lib.decDigits n ++ r) = .ok us) : scan b (45 :: (Lib.decDigits n ++ r)) = .ok (⟨1, [45], 0, false, b⟩ :: us) := by
  obtain ⟨c, x, hc⟩ := List.exists_cons_of_ne_nil (dec_ne n)
  have hdc : digB c = true := dec_dig n c (by rw [hc]; simp)
  obtain ⟨-, -, -, -, -, h6⟩ := dig_not9 hdc
  have h := scan_fst b (x := [45]) (r := Lib.decDigits n ++ r) (t := ⟨1, [45], 0, false, false⟩) (by simp [skp, blkB]) (by
    rw [hc]
    simp only [List.cons_append, List.nil_append]
    unfold fstR
    simp only [show lowB 45 = false by decide, show upB 45 = false by decide, show digB 45 = false by decide, show punB 45 = false by decide, show sinB 45 = false by decide, show symB 45 = true by decide, Bool.false_eq_true, if_false, if_true]
    rw [if_neg (by decide), if_neg (by simp [endsB])]
    have : pre symB (45 :: c :: (x ++ r)) = 1 := by simp [pre, h6, show symB 45 = true by decide]
    rw [this]
    rfl) hr
  exact h
theorem scan_var9 (b : Bool) (n : Int) (h0 : 0 ≤ n) (hn : n < 4096) {r : List UInt8} {us : List Tok} (hf : fo9 r) (hr : scan true r = .ok us) : scan b (95 :: Lib.itoa n ++ r) = .ok (⟨2, 95 :: Lib.itoa n, 0, false, b⟩ :: us) := by
  have hi : Lib.itoa n = Lib.decDigits n.toNat := by unfold Lib.itoa; rw [if_neg (by omega)]
  have hl : (Lib.itoa n).length ≤ 21 := itoa_len n ⟨by omega, by omega⟩
  have hall : (95 :: Lib.itoa n).all wordB = true := by
    rw [hi, List.all_cons, List.all_eq_true.2 (fun c hc => (dig_not9 (dec_dig _ c hc)).2.2.2.2.1)]
    decide
  have e := pre_fo wordB (by decide) (by decide) (by decide) (by decide) hf _ hall
  refine scan_fst b (x := 95 :: Lib.itoa n) (t := ⟨2, 95 :: Lib.itoa n, 0, false, false⟩) (by simp [skp, blkB]) ?_ hr
  rw [List.cons_append]
  unfold fstR
  simp only [show lowB 95 = false by decide, show upB 95 = true by decide, Bool.false_eq_true, if_false, if_true]
  rw [← List.cons_append, e, List.take_left]
  unfold wrt limR
  rw [if_neg (by simp; omega)]
/-- WHAT IS WRITTEN IS SCANNED. -/
def Sc (T : Tm) : Prop := ∀ (b : Bool) (r : List UInt8) (us : List Tok), fo9 r → scan true r = .ok us → scan b (T.txt ++ r) = .ok (T.tks b ++ us)
theorem fo_p {c : UInt8} (hc : c = 40 ∨ c = 41 ∨ c = 44 ∨ c = 32) (x : List UInt8) : fo9 (c :: x) := ⟨c, x, rfl, hc⟩
theorem sc_kids : ∀ (ks : List Tm), (∀ t ∈ ks, Sc t) → ∀ (r : List UInt8) (us : List Tok), fo9 r → scan true r = .ok us → scan true (Tm.txtc ks ++ r) = .ok (Tm.tksc ks ++ us) ∧ fo9 (Tm.txtc ks ++ r)
  | [], _, r, us, hf, hr => by rw [Tm.txtc_nil, Tm.tksc_nil]; exact ⟨hr, hf⟩
  | k :: ks, ih, r, us, hf, hr => by
    obtain ⟨h1, h2⟩ := sc_kids ks (fun t ht => ih t (by simp [ht])) r us hf hr
    rw [Tm.txtc_cons, Tm.tksc_cons]
    have h3 := ih k (by simp) true _ _ h2 h1
    have h4 := scan_p true (c := 44) (by simp) h3
    refine ⟨?_, fo_p (by simp) _⟩
    simpa [List.append_assoc] using h4
theorem sc_all {T : Tm} (h : Wr T) : Sc T := by
  induction h with
  | var n h0 h1 =>
    intro b r us hf hr
    have := scan_var9 b n h0 h1 hf hr
    rw [Tm.txt_mk, if_pos rfl, Tm.tks_mk, if_pos rfl]
    exact this
  | int n h =>
    intro b r us hf hr
    rw [Tm.txt_mk, if_neg (by decide), if_pos rfl, Tm.tks_mk, if_neg (by decide), if_pos rfl]
    by_cases h0 : n < 0
    · have hi : Lib.itoa n = 45 :: Lib.decDigits n.natAbs := by unfold Lib.itoa; rw [if_pos h0]
      have h1 := scan_num9 true n.natAbs (by have := h.1; omega) hf hr
      rw [if_pos h0, hi]
      exact scan_minus b _ h1
    · have hi : Lib.itoa n = Lib.decDigits n.toNat := by unfold Lib.itoa; rw [if_neg h0]
      have h1 := scan_num9 b n.toNat (by have := h.2; omega) hf hr
      have e : IntKind.i64.wrap ((n.toNat : Nat) : Int) = n := by rw [IntKind.wrap_i64]; have := h.2; omega
      rw [e] at h1
      rw [if_neg h0, hi]
      exact h1
  | atom s hs =>
    intro b r us hf hr
    rw [Tm.txt_mk, if_neg (by decide), if_neg (by decide), if_pos rfl, if_pos List.length_nil, Tm.tks_mk, if_neg (by decide), if_neg (by decide), if_pos rfl, if_pos List.length_nil]
    by_cases hb : s.data.toList = [91, 93]
    · rw [if_pos hb, hb, show quoteL [91, 93] = [91, 93] by decide]
      exact scan_p b (by simp) (scan_p true (by simp) hr)
    · rw [if_neg hb]
      obtain ⟨h1, h2⟩ := fst_name hf hs.1 hs.2 hb
      exact scan_fst b h1 h2 hr
  | fn s k ks hs hat hk hks ihk ihks =>
    intro b r us hf hr
    have h1 := scan_p true (c := 41) (by simp) hr
    obtain ⟨h2, h3⟩ := sc_kids ks ihks (41 :: r) _ (fo_p (by simp) _) h1
    have h4 := ihk true _ _ h3 h2
    have h5 := scan_p true (c := 40) (by simp) h4
    obtain ⟨g1, g2⟩ := fst_fn (r := 40 :: (k.txt ++ (Tm.txtc ks ++ 41 :: r))) (fo_p (by simp) _) hs.1 hs.2
    have h6 := scan_fst b g1 g2 h5
    rw [txt_fn, tks_fn]
    simpa [List.append_assoc, tF] using h6
  | sl n t h0 h1 hg ht iht =>
    intro b r us hf hr
    have hi : Lib.itoa n = Lib.decDigits n.toNat := by unfold Lib.itoa; rw [if_neg (by omega)]
    have k1 := scan_p true (c := 41) (by simp) hr
    have k2 := scan_num9 true n.toNat (by omega) (fo_p (c := 41) (by simp) r) k1
    have e : IntKind.i64.wrap ((n.toNat : Nat) : Int) = n := by rw [IntKind.wrap_i64]; omega
    rw [e, ← hi] at k2
    have k3 := scan_p true (c := 44) (by simp) k2
    have k4 := iht true _ _ (fo_p (by simp) _) k3
    have k5 := scan_p true (c := 40) (by simp) k4
    obtain ⟨g1, g2⟩ := fst_fn (l := [64]) (r := 40 :: (t.txt ++ 44 :: (Lib.itoa n ++ 41 :: r))) (fo_p (by simp) _) (by decide) (by decide)
    have k6 := scan_fst b g1 g2 k5
    rw [txt_sl, tks_sl]
    rw [show fnL [64] = [64] by decide] at k6
    simpa [List.append_assoc, tF] using k6
def tEnd : Tok := ⟨5, [46], 0, false, false⟩
theorem scan_end : scan true [32, 46] = .ok [tEnd] := by decide +kernel
theorem scan_back {T : Tm} (h : Wr T) : scan false (T.txt ++ [32, 46]) = .ok (T.tks false ++ [tEnd]) := sc_all h false _ _ (fo_p (by simp) _) scan_end
end Go.Proofs.YtfencolokfghfaaGreatDoor
namespace Go.Proofs.YtfencolokfghfaaGreatDoor
open Go.Shelf Go.RowKit Go.Sort
set_option linter.unusedVariables false

/-! ### Variables by their first places -/
def accT (l : List Int) (T : Tm) : List Int := (vlist T).foldl addNew l
def accS (l : List Int) (ts : List Tm) : List Int := (ts.flatMap vlist).foldl addNew l
def nmV (n : Int) : List UInt8 := 95 :: Lib.itoa n
def nmsV (l : List Int) : Nms := l.map nmV
mutual
def Tm.ren (l : List Int) : Tm → Tm
  | .mk k n s ks => .mk k (if k = 1 then (l.idxOf n : Int) else n) s (Tm.rens l ks)
def Tm.rens (l : List Int) : List Tm → List Tm
  | [] => []
  | t :: ts => t.ren l :: Tm.rens l ts
end
theorem Tm.ren_mk (l : List Int) (k n : Int) (s : ByteArray) (ks : List Tm) : (Tm.mk k n s ks).ren l = .mk k (if k = 1 then (l.idxOf n : Int) else n) s (Tm.rens l ks) := by rw [Tm.ren]
theorem Tm.rens_nil (l : List Int) : Tm.rens l [] = [] := by rw [Tm.rens]
theorem Tm.rens_cons (l : List Int) (t : Tm) (ts : List Tm) : Tm.rens l (t :: ts) = t.ren l :: Tm.rens l ts := by rw [Tm.rens]
theorem nmV_inj {n m : Int} (h : nmV n = nmV m) : n = m := by
  unfold nmV at h
  injection h with _ h
  exact itoa_inj h
theorem nmV_ne (n : Int) : nmV n ≠ [95] := by
  unfold nmV
  intro h
  injection h with _ h
  exact itoa_ne n h
theorem nms_mem {n : Int} {l : List Int} : nmV n ∈ nmsV l ↔ n ∈ l := by
  unfold nmsV
  constructor
  · intro h
    obtain ⟨m, hm, e⟩ := List.mem_map.1 h
    rw [← nmV_inj e]; exact hm
  · intro h; exact List.mem_map.2 ⟨n, h, rfl⟩
theorem nms_idx (n : Int) : ∀ l : List Int, (nmsV l).idxOf (nmV n) = l.idxOf n
  | [] => rfl
  | m :: l => by
    have ih := nms_idx n l
    unfold nmsV at ih ⊢
    rw [List.map_cons, List.idxOf_cons, List.idxOf_cons, ih]
    by_cases h : m = n
    · subst h; simp
    · have h2 : nmV m ≠ nmV n := fun e => h (nmV_inj e)
      have e1 : (m == n) = false := by simpa using h
      have e2 : (nmV m == nmV n) = false := by simpa using h2
      rw [e1, e2]
theorem addNew_ext (l : List Int) (x : Int) : ∃ m, addNew l x = l ++ m := by
  unfold addNew
  split
  · exact ⟨[], by simp⟩
  · exact ⟨[x], rfl⟩
theorem fold_ext : ∀ (xs l : List Int), ∃ m, xs.foldl addNew l = l ++ m
  | [], l => ⟨[], by simp⟩
  | x :: xs, l => by
    obtain ⟨m, hm⟩ := addNew_ext l x
    obtain ⟨m', hm'⟩ := fold_ext xs (addNew l x)
    exact ⟨m ++ m', by rw [List.foldl_cons, hm', hm, List.append_assoc]⟩
theorem addNew_mem (l : List Int) (x : Int) : x ∈ addNew l x := by
  unfold addNew
  split
  · rename_i h; simpa using h
  · simp
theorem fold_mem : ∀ (xs l : List Int), ∀ x ∈ xs, x ∈ xs.foldl addNew l
  | y :: ys, l, x, hx => by
    rw [List.foldl_cons]
    rcases List.mem_cons.1 hx with rfl | hx
    · obtain ⟨m, hm⟩ := fold_ext ys (addNew l x)
      rw [hm]
      exact List.mem_append.2 (.inl (addNew_mem l x))
    · exact fold_mem ys _ x hx
theorem idx_app {n : Int} : ∀ {l m : List Int}, n ∈ l → (l ++ m).idxOf n = l.idxOf n
  | a :: l, m, h => by
    rw [List.cons_append, List.idxOf_cons, List.idxOf_cons]
    by_cases e : a = n
    · subst e; simp
    · have e1 : (a == n) = false := by simpa using e
      rw [e1]
      have h2 : n ∈ l := by
        rcases List.mem_cons.1 h with h | h
        · exact absurd h.symm e
        · exact h
      rw [idx_app h2]
theorem idx_new {n : Int} : ∀ {l : List Int}, n ∉ l → (l ++ [n]).idxOf n = l.length
  | [], _ => by simp
  | a :: l, h => by
    rw [List.cons_append, List.idxOf_cons]
    have e : a ≠ n := fun e => h (by simp [e])
    have e1 : (a == n) = false := by simpa using e
    rw [e1, idx_new (fun hh => h (by simp [hh]))]
    simp
theorem vlist_kid {k n : Int} {s : ByteArray} {ks : List Tm} {t : Tm} (ht : t ∈ ks) {x : Int} (hx : x ∈ vlist t) : x ∈ vlist (.mk k n s ks) := by
  rw [vlist_mk]
  exact List.mem_append.2 (.inr (List.mem_flatMap.2 ⟨t, ht, hx⟩))
theorem ren_app (l m : List Int) (T : Tm) : (∀ x ∈ vlist T, x ∈ l) → T.ren (l ++ m) = T.ren l := by
  induction T using Tm.ind with
  | h k n s ks ih =>
    intro h
    rw [Tm.ren_mk, Tm.ren_mk]
    have h1 : Tm.rens (l ++ m) ks = Tm.rens l ks := by
      have : ∀ (us : List Tm), (∀ t ∈ us, t.ren (l ++ m) = t.ren l) → Tm.rens (l ++ m) us = Tm.rens l us := by
        intro us
        induction us with
        | nil => intro _; rw [Tm.rens_nil, Tm.rens_nil]
        | cons u us ihu => intro h; rw [Tm.rens_cons, Tm.rens_cons, h u (by simp), ihu (fun t ht => h t (by simp [ht]))]
      exact this ks (fun t ht => ih t ht (fun x hx => h x (vlist_kid ht hx)))
    rw [h1]
    by_cases hk : k = 1
    · subst hk
      rw [if_pos rfl, if_pos rfl, idx_app (h n (by rw [vlist_mk]; simp))]
    · rw [if_neg hk, if_neg hk]
theorem accT_mk1 (l : List Int) (n : Int) (s : ByteArray) : accT l (.mk 1 n s []) = addNew l n := by
  unfold accT
  rw [vlist_mk]
  rfl
theorem accT_mk {k : Int} (hk : k ≠ 1) (l : List Int) (n : Int) (s : ByteArray) (ks : List Tm) : accT l (.mk k n s ks) = accS l ks := by
  unfold accT accS
  rw [vlist_mk, if_neg hk, List.nil_append]
theorem accS_nil (l : List Int) : accS l [] = l := rfl
theorem accS_cons (l : List Int) (t : Tm) (ts : List Tm) : accS l (t :: ts) = accS (accT l t) ts := by
  unfold accS accT
  rw [List.flatMap_cons, List.foldl_append]
theorem accS_ext (l : List Int) (ts : List Tm) : ∃ m, accS l ts = l ++ m := fold_ext _ _
theorem accT_mem (l : List Int) (T : Tm) : ∀ x ∈ vlist T, x ∈ accT l T := fold_mem _ _
theorem vars_acc (T : Tm) : T.vars = accT [] T := by
  have : ∀ (ps : List (Nat × Tm)) (l : List Int), ps.foldl addV l = (ps.filterMap fun x => if x.2.kind = 1 then some x.2.num else none).foldl addNew l := by
    intro ps
    induction ps with
    | nil => intro l; rfl
    | cons p ps ih =>
      intro l
      rw [List.foldl_cons, ih, List.filterMap_cons]
      by_cases h : p.2.kind = 1
      · simp [addV, h]
      · simp [addV, h]
  unfold Tm.vars varsL accT vlist
  exact this _ _
/-! ### What stands at a place -/
theorem at_drop {L : List Tok} {i : Nat} {a : Tok} {x : List Tok} (h : L.drop i = a :: x) : ahd L i = a ∧ L.drop (i + 1) = x ∧ i < L.length := by
  have hl : i < L.length := by
    refine Decidable.byContradiction fun hn => ?_
    rw [List.drop_eq_nil_of_le (by omega)] at h
    cases h
  rw [List.drop_eq_getElem_cons hl] at h
  injection h with h1 h2
  refine ⟨?_, h2, hl⟩
  unfold ahd
  rw [List.getD_eq_getElem?_getD, List.getElem?_eq_getElem hl, h1]
  rfl
theorem drop_more {L : List Tok} {i : Nat} {a x : List Tok} (h : L.drop i = a ++ x) : L.drop (i + a.length) = x := by
  rw [← List.drop_drop, h, List.drop_left]
/-- What may stand behind a term that is read. -/
def fol (most : Nat) (rest : List Tok) : Prop := ∃ u x, rest = u :: x ∧ (u = tP 41 true ∨ (u = tP 44 true ∧ most = 999) ∨ u = tEnd)
theorem op_none {L : List Tok} {most pri i : Nat} {rest : List Tok} (h : L.drop i = rest) (hf : fol most rest) : opG L most pri i = none := by
  obtain ⟨u, x, rfl, hu⟩ := hf
  obtain ⟨e, -, -⟩ := at_drop h
  unfold opG
  rw [e]
  rcases hu with rfl | ⟨rfl, rfl⟩ | rfl
  · rfl
  · rw [if_pos (by decide)]
    show (match infR [44] with | some (left, own, right) => if own ≤ 999 ∧ pri ≤ left then some (own, right) else none | none => none) = none
    rw [show infR [44] = some (999, 1000, 1000) by decide]
    simp
  · rfl
theorem loop_none {L : List Tok} {r : Rdr} {most pri i : Nat} {rest : List Tok} (h : L.drop i = rest) (hf : fol most rest) (n : Nat) (t : Tm) (ns : Nms) : loopG L 16 r most n t pri i ns = .ok t i ns := by
  cases n with
  | zero => rfl
  | succ n => unfold loopG; rw [op_none h hf]
theorem rd_two {L : List Tok} {d most i j : Nat} {ns ms : Nms} {T : Tm} {rest : List Tok} (hd : 2 ≤ d) (hp : primG L 16 (rd L 16 (d - 2)) most i ns = .ok (T, 0) j ms) (h : L.drop j = rest) (hf : fol most rest) : rd L 16 d most i ns = .ok T j ms := by
  obtain ⟨d, rfl⟩ : ∃ e, d = e + 2 := ⟨d - 2, by omega⟩
  rw [rd, show d + 2 - 2 = d from rfl] at *
  rw [hp]
  exact loop_none h hf _ _ _
theorem prim1 {L : List Tok} {r : Rdr} {most i : Nat} {ns : Nms} (h : (ahd L i).kind = 1) : primG L 16 r most i ns = namedG L 16 r most i ns := by unfold primG; rw [h]; rfl
theorem prim2 {L : List Tok} {r : Rdr} {most i : Nat} {ns : Nms} (h : (ahd L i).kind = 2) : primG L 16 r most i ns = zeroG (varG L i ns) := by unfold primG; rw [h]; rfl
theorem prim3 {L : List Tok} {r : Rdr} {most i : Nat} {ns : Nms} (h : (ahd L i).kind = 3) : primG L 16 r most i ns = zeroG (numG L i ns) := by unfold primG; rw [h]; rfl
theorem prim4 {L : List Tok} {r : Rdr} {most i : Nat} {ns : Nms} (h : (ahd L i).kind = 4) : primG L 16 r most i ns = zeroG (brackG L r i ns) := by unfold primG; rw [h]; rfl
theorem isP_tP (c : UInt8) (b : Bool) (s : List UInt8) : isP (tP c b) s = decide ([c] = s) := by unfold isP tP; simp
/-- THE TOKENS OF A TERM ARE READ. -/
def Rd9 (T : Tm) : Prop := ∀ (L : List Tok) (b : Bool) (i : Nat) (l : List Int) (rest : List Tok) (d most : Nat), L.drop i = T.tks b ++ rest → fol most rest → 2 * T.deep ≤ d → rd L 16 d most i (nmsV l) = .ok (T.ren (accT l T)) (i + (T.tks b).length) (nmsV (accT l T))
theorem fol_c (ks : List Tm) (rest : List Tok) : fol 999 (Tm.tksc ks ++ tP 41 true :: rest) := by
  cases ks with
  | nil => rw [Tm.tksc_nil]; exact ⟨_, _, rfl, .inl rfl⟩
  | cons k ks => rw [Tm.tksc_cons]; exact ⟨_, _, rfl, .inr (.inl ⟨rfl, rfl⟩)⟩
theorem more_ok (L : List Tok) (d : Nat) : ∀ (ks : List Tm), (∀ t ∈ ks, Rd9 t) → (∀ t ∈ ks, 2 * t.deep ≤ d) → ∀ (n : Nat) (acc : List Tm) (i : Nat) (l : List Int) (rest : List Tok), ks.length ≤ n → L.drop i = Tm.tksc ks ++ tP 41 true :: rest →
    moreG L (rd L 16 d) n acc i (nmsV l) = .ok (acc ++ Tm.rens (accS l ks) ks) (i + (Tm.tksc ks).length) (nmsV (accS l ks))
  | [], _, _, n, acc, i, l, rest, _, h => by
    rw [Tm.tksc_nil, List.nil_append] at h
    obtain ⟨e, -, -⟩ := at_drop h
    rw [Tm.rens_nil, Tm.tksc_nil, accS_nil, List.append_nil]
    cases n with
    | zero => rfl
    | succ n => unfold moreG; rw [e, if_neg (by decide)]; rfl
  | k :: ks, hr, hd, n, acc, i, l, rest, hn, h => by
    obtain ⟨n, rfl⟩ : ∃ m, n = m + 1 := ⟨n - 1, by simp at hn; omega⟩
    rw [Tm.tksc_cons, List.cons_append, List.append_assoc] at h
    obtain ⟨e, h2, -⟩ := at_drop h
    have hk := hr k (by simp) L true (i + 1) l _ d 999 h2 (fol_c ks rest) (hd k (by simp))
    have h3 := drop_more h2
    have ih := more_ok L d ks (fun t ht => hr t (by simp [ht])) (fun t ht => hd t (by simp [ht])) n (acc ++ [k.ren (accT l k)]) _ (accT l k) rest (by simp at hn; omega) h3
    unfold moreG
    rw [e, if_pos (by decide), hk]
    show moreG L (rd L 16 d) n (acc ++ [k.ren (accT l k)]) _ _ = _
    rw [ih, accS_cons, Tm.rens_cons, Tm.tksc_cons]
    obtain ⟨m, hm⟩ := accS_ext (accT l k) ks
    rw [show k.ren (accS (accT l k) ks) = k.ren (accT l k) by rw [hm]; exact ren_app _ _ _ (accT_mem l k)]
    simp only [List.append_assoc, List.singleton_append, List.length_cons, List.length_append]
    congr 1
    omega
theorem args_ok (L : List Tok) (d : Nat) (k : Tm) (ks : List Tm) (hr : ∀ t ∈ k :: ks, Rd9 t) (hd : ∀ t ∈ k :: ks, 2 * t.deep ≤ d) (i : Nat) (l : List Int) (rest : List Tok) (h : L.drop i = k.tks true ++ (Tm.tksc ks ++ tP 41 true :: rest)) :
    argsG L (rd L 16 d) i (nmsV l) = .ok (Tm.rens (accS l (k :: ks)) (k :: ks)) (i + ((k.tks true).length + (Tm.tksc ks).length)) (nmsV (accS l (k :: ks))) := by
  have hk := hr k (by simp) L true i l _ d 999 h (fol_c ks rest) (hd k (by simp))
  have h3 := drop_more h
  have hlen : ks.length ≤ L.length + 1 - (i + (k.tks true).length) := by
    have h4 := congrArg List.length h3
    rw [List.length_drop, List.length_append, List.length_cons] at h4
    have h5 : ∀ us : List Tm, us.length ≤ (Tm.tksc us).length := by
      intro us
      induction us with
      | nil => simp
      | cons u us ih => rw [Tm.tksc_cons]; simp; omega
    have := h5 ks
    omega
  have ih := more_ok L d ks (fun t ht => hr t (by simp [ht])) (fun t ht => hd t (by simp [ht])) _ [k.ren (accT l k)] _ (accT l k) rest hlen h3
  unfold argsG
  rw [hk]
  show moreG L (rd L 16 d) _ [k.ren (accT l k)] _ _ = _
  rw [ih, accS_cons, Tm.rens_cons]
  obtain ⟨m, hm⟩ := accS_ext (accT l k) ks
  rw [show k.ren (accS (accT l k) ks) = k.ren (accT l k) by rw [hm]; exact ren_app _ _ _ (accT_mem l k)]
  simp only [List.singleton_append]
  congr 1
  omega
/-- A name with arguments. -/
theorem named_ok (L : List Tok) (d most : Nat) (nm : List UInt8) (b : Bool) (k : Tm) (ks : List Tm) (hr : ∀ t ∈ k :: ks, Rd9 t) (hd : ∀ t ∈ k :: ks, 2 * t.deep ≤ d) (i : Nat) (l : List Int) (rest : List Tok) (T : Tm)
    (h : L.drop i = tF nm b :: tP 40 true :: (k.tks true ++ (Tm.tksc ks ++ tP 41 true :: rest))) (hT : ∀ j ms, funG 16 nm (Tm.rens (accS l (k :: ks)) (k :: ks)) j ms = .ok T j ms) :
    primG L 16 (rd L 16 d) most i (nmsV l) = .ok (T, 0) (i + 2 + ((k.tks true).length + (Tm.tksc ks).length) + 1) (nmsV (accS l (k :: ks))) ∧ L.drop (i + 2 + ((k.tks true).length + (Tm.tksc ks).length) + 1) = rest := by
  obtain ⟨e0, h1, -⟩ := at_drop h
  obtain ⟨e1, h2, -⟩ := at_drop h1
  have ha := args_ok L d k ks hr hd (i + 2) l rest h2
  have h3 := drop_more h2
  have h4 := drop_more h3
  obtain ⟨e2, h5, -⟩ := at_drop h4
  have ei : i + 1 + 1 + (k.tks true).length + (Tm.tksc ks).length = i + 2 + ((k.tks true).length + (Tm.tksc ks).length) := by omega
  rw [ei] at e2 h5
  refine ⟨?_, h5⟩
  rw [prim1 (by rw [e0]; rfl)]
  unfold namedG
  rw [e1, if_pos ⟨rfl, rfl⟩, ha]
  simp only [Out.bind]
  unfold needG
  rw [e2, if_pos (by decide)]
  simp only
  rw [e0]
  show ((funG 16 nm _ _ _).bind _) = _
  rw [hT]
  rfl
theorem begins_not {most : Nat} {u : Tok} (hu : u = tP 41 true ∨ (u = tP 44 true ∧ most = 999) ∨ u = tEnd) : begins u = false ∧ ¬ (u.tight = true ∧ isP u [40] = true) ∧ u.kind ≠ 3 := by
  rcases hu with rfl | ⟨rfl, -⟩ | rfl <;> decide
theorem deep_le9 {t : Tm} : ∀ {ks : List Tm}, t ∈ ks → t.deep ≤ Tm.deeps ks
  | u :: us, h => by
    rw [Tm.deeps_cons]
    rcases List.mem_cons.1 h with rfl | h
    · omega
    · have := deep_le9 h; omega
theorem deep_one (k n : Int) (s : ByteArray) (ks : List Tm) : 1 ≤ (Tm.mk k n s ks).deep := by rw [Tm.deep_mk]; omega
theorem ground_vl9 {T : Tm} (h : T.ground = true) (l : List Int) : accT l T = l := by
  unfold accT
  rw [ground_vl h]
  rfl
theorem parts_gr (l : List Int) (T : Tm) : ∀ d, groundL ((T.ren l).parts d) = groundL (T.parts d) := by
  induction T using Tm.ind with
  | h k n s ks ih =>
    intro d
    have : ∀ (us : List Tm), (∀ t ∈ us, ∀ d, groundL ((t.ren l).parts d) = groundL (t.parts d)) → ∀ d, groundL (Tm.partss d (Tm.rens l us)) = groundL (Tm.partss d us) := by
      intro us
      induction us with
      | nil => intro _ d; rw [Tm.rens_nil]
      | cons u us ihu =>
        intro h d
        have h1 := h u (by simp) d
        have h2 := ihu (fun t ht => h t (by simp [ht])) d
        rw [Tm.rens_cons]
        unfold groundL at h1 h2 ⊢
        rw [Tm.partss_cons, Tm.partss_cons, List.all_append, List.all_append, h1, h2]
    have h3 := this ks ih (d + 1)
    rw [Tm.ren_mk]
    unfold groundL at h3 ⊢
    rw [Tm.parts_mk, Tm.parts_mk, List.all_cons, List.all_cons, h3]
    rfl
theorem ren_ground (l : List Int) (T : Tm) : (T.ren l).ground = T.ground := parts_gr l T 1
theorem rd_all {T : Tm} (hT : Wr T) : Rd9 T := by
  induction hT with
  | var n h0 h1 =>
    intro L b i l rest d most h hf hd
    have hd2 : 2 ≤ d := by have := deep_one 1 n empB []; omega
    rw [Tm.tks_mk, if_pos rfl] at h ⊢
    obtain ⟨e, h2, -⟩ := at_drop h
    refine rd_two hd2 ?_ h2 hf
    rw [prim2 (by rw [e])]
    unfold varG zeroG
    rw [e]
    show Out.bind (if nmV n ∈ nmsV l ∧ nmV n ≠ [95] then _ else _) _ = _
    rw [accT_mk1, Tm.ren_mk, Tm.rens_nil, if_pos rfl]
    by_cases hm : n ∈ l
    · rw [if_pos ⟨nms_mem.2 hm, nmV_ne n⟩]
      have ha : addNew l n = l := by unfold addNew; rw [if_pos (by simpa using hm)]
      rw [ha]
      show Out.ok (Tm.mk 1 ((nmsV l).idxOf (nmV n) : Int) empB [], 0) _ _ = _
      rw [nms_idx]
      rfl
    · rw [if_neg (fun e => hm (nms_mem.1 e.1))]
      have ha : addNew l n = l ++ [n] := by unfold addNew; rw [if_neg (by simpa using hm)]
      rw [ha, idx_new hm]
      show Out.ok (Tm.mk 1 ((nmsV l).length : Int) empB [], 0) _ (nmsV l ++ [nmV n]) = _
      unfold nmsV
      rw [List.length_map, List.map_append]
      rfl
  | int n hn =>
    intro L b i l rest d most h hf hd
    have hd2 : 2 ≤ d := by have := deep_one 2 n empB []; omega
    rw [accT_mk (by decide), accS_nil, Tm.ren_mk, Tm.rens_nil, if_neg (by decide)]
    rw [Tm.tks_mk, if_neg (by decide), if_pos rfl] at h ⊢
    by_cases h0 : n < 0
    · rw [if_pos h0] at h ⊢
      obtain ⟨e, h2, -⟩ := at_drop h
      obtain ⟨e2, h3, -⟩ := at_drop h2
      refine rd_two hd2 ?_ h3 hf
      rw [prim1 (by rw [e])]
      unfold namedG
      rw [e2, e, if_neg (by simp [isP]), if_pos ⟨rfl, rfl, rfl, rfl⟩]
      show Out.ok (Tm.mk 2 (wrap64 (-(IntKind.i64.wrap (n.natAbs : Int)))) empB [], 0) _ _ = _
      have : wrap64 (-(IntKind.i64.wrap (n.natAbs : Int))) = n := by
        have h1 := hn.1
        simp only [wrap64, IntKind.wrap_i64]
        omega
      rw [this]
      rfl
    · rw [if_neg h0] at h ⊢
      obtain ⟨e, h2, -⟩ := at_drop h
      refine rd_two hd2 ?_ h2 hf
      rw [prim3 (by rw [e])]
      unfold numG zeroG
      rw [e, if_neg h0]
      rfl
  | atom s hs =>
    intro L b i l rest d most h hf hd
    have hd2 : 2 ≤ d := by have := deep_one 3 0 s []; omega
    rw [accT_mk (by decide), accS_nil, Tm.ren_mk, Tm.rens_nil, if_neg (by decide)]
    rw [Tm.tks_mk, if_neg (by decide), if_neg (by decide), if_pos rfl, if_pos List.length_nil] at h ⊢
    by_cases hb : s.data.toList = [91, 93]
    · rw [if_pos hb] at h ⊢
      obtain ⟨e, h2, -⟩ := at_drop h
      obtain ⟨e2, h3, -⟩ := at_drop h2
      refine rd_two hd2 ?_ h3 hf
      rw [prim4 (by rw [e]; rfl)]
      unfold brackG zeroG
      rw [e, if_neg (by rw [isP_tP]; decide), if_pos (by rw [isP_tP]; decide)]
      unfold listG
      rw [e2, if_pos (by rw [isP_tP]; decide)]
      show Out.ok (nilT, 0) _ _ = _
      unfold nilT
      rw [← strV_of hb]
      rfl
    · rw [if_neg hb] at h ⊢
      obtain ⟨e, h2, -⟩ := at_drop h
      obtain ⟨u, x, hx, hu⟩ := id hf
      rw [hx] at h2
      obtain ⟨e2, -, -⟩ := at_drop h2
      obtain ⟨b1, b2, b3⟩ := begins_not hu
      refine rd_two hd2 ?_ (h2.trans hx.symm) hf
      rw [prim1 (by rw [e]; rfl)]
      unfold namedG
      rw [e2, e, if_neg b2, if_neg (fun h => b3 h.2.1)]
      have hat : atomT s.data.toList = .mk 3 0 s [] := by unfold atomT; rw [← strV_of rfl]
      show (match preR s.data.toList with | some (own, right) => _ | none => _) = _
      rw [b1]
      cases preR s.data.toList with
      | none => show Out.ok (atomT s.data.toList, 0) _ _ = _; rw [hat]; rfl
      | some p =>
        simp only [Bool.false_eq_true, and_false, if_false]
        show Out.ok (atomT s.data.toList, 0) _ _ = _; rw [hat]; rfl
  | fn s k ks hs hat hk hks ihk ihks =>
    intro L b i l rest d most h hf hd
    have hdm := hd
    rw [Tm.deep_mk] at hd
    have hdk : ∀ t ∈ k :: ks, t.deep ≤ Tm.deeps (k :: ks) := fun t ht => deep_le9 ht
    have hd2 : 2 ≤ d := by omega
    rw [accT_mk (by decide), Tm.ren_mk, if_neg (by decide)]
    rw [tks_fn] at h ⊢
    have hr : ∀ t ∈ k :: ks, Rd9 t := fun t ht => by
      rcases List.mem_cons.1 ht with rfl | ht
      · exact ihk
      · exact ihks t ht
    have h' : L.drop i = tF s.data.toList b :: tP 40 true :: (k.tks true ++ (Tm.tksc ks ++ tP 41 true :: rest)) := by rw [h]; simp
    have hlen : ∀ us : List Tm, (Tm.rens (accS l (k :: ks)) us).length = us.length := by
      intro us
      induction us with
      | nil => rw [Tm.rens_nil]
      | cons u us ih => rw [Tm.rens_cons]; simp [ih]
    obtain ⟨g1, g2⟩ := named_ok L (d - 2) most s.data.toList b k ks hr (fun t ht => by have := hdk t ht; omega) i l rest (.mk 3 0 s (Tm.rens (accS l (k :: ks)) (k :: ks))) h' (fun j ms => by
      have hst : strV s.data.toList = s := (strV_of rfl).symm
      have hl2 := hlen (k :: ks)
      generalize Tm.rens (accS l (k :: ks)) (k :: ks) = us at hl2
      unfold funG
      split
      · rename_i a l'
        rw [if_neg (fun e => hat ⟨e, by simp at hl2; exact hl2⟩), hst]
      · rw [hst])
    have := rd_two hd2 g1 g2 hf
    rw [this]
    congr 1
    simp
    omega
  | sl n t h0 h1 hg ht iht =>
    intro L b i l rest d most h hf hd
    rw [Tm.deep_mk] at hd
    have hdk : t.deep ≤ Tm.deeps [t] := deep_le9 (by simp)
    have hdt : 1 ≤ t.deep := by obtain ⟨k, n, s, ks⟩ := t; exact deep_one _ _ _ _
    have hd2 : 2 ≤ d := by omega
    rw [accT_mk (by decide), Tm.ren_mk, if_neg (by decide)]
    rw [tks_sl] at h ⊢
    have hin : Rd9 (.mk 2 n empB []) := by
      intro L b i l rest d most h hf hd
      have hd2 : 2 ≤ d := by have := deep_one 2 n empB []; omega
      rw [accT_mk (by decide), accS_nil, Tm.ren_mk, Tm.rens_nil, if_neg (by decide)]
      rw [Tm.tks_mk, if_neg (by decide), if_pos rfl, if_neg (by omega)] at h ⊢
      obtain ⟨e, h2, -⟩ := at_drop h
      refine rd_two hd2 ?_ h2 hf
      rw [prim3 (by rw [e])]
      unfold numG zeroG
      rw [e, if_neg (by show ¬ n < 0; omega)]
      rfl
    have htc : Tm.tksc [Tm.mk 2 n empB []] = [tP 44 true, ⟨3, [], n, false, true⟩] := by
      rw [Tm.tksc_cons, Tm.tksc_nil, Tm.tks_mk, if_neg (by decide), if_pos rfl, if_neg (by omega)]
      rfl
    have hr : ∀ u ∈ t :: [Tm.mk 2 n empB []], Rd9 u := fun u hu => by
      simp at hu
      rcases hu with rfl | rfl
      · exact iht
      · exact hin
    have h' : L.drop i = tF [64] b :: tP 40 true :: (t.tks true ++ (Tm.tksc [Tm.mk 2 n empB []] ++ tP 41 true :: rest)) := by rw [h, htc]; simp
    have hac : accS l [t, .mk 2 n empB []] = accS l [t] := by
      rw [accS_cons, accS_cons, accS_nil, accT_mk (by decide), accS_nil, accS_cons, accS_nil]
    obtain ⟨g1, g2⟩ := named_ok L (d - 2) most [64] b t [.mk 2 n empB []] hr (fun u hu => by
      simp at hu
      rcases hu with rfl | rfl
      · omega
      · rw [Tm.deep_mk, Tm.deeps_nil]; omega) i l rest (.mk 4 n empB (Tm.rens (accS l [t]) [t])) h' (fun j ms => by
      rw [hac, Tm.rens_cons, Tm.rens_cons, Tm.rens_nil, Tm.rens_cons, Tm.rens_nil, Tm.ren_mk _ 2, if_neg (by decide), Tm.rens_nil]
      unfold funG
      simp only [if_true]
      rw [if_neg (by
        show ¬ ((2 : Int) ≠ 2 ∨ n < 0 ∨ 16 ≤ n ∨ (t.ren (accS l [t])).ground = false)
        rw [ren_ground, hg]
        simp
        omega)]
      rfl)
    have := rd_two hd2 g1 g2 hf
    rw [this, hac, htc]
    congr 1
    simp
    omega
/-! ### The sentence -/
theorem ren_size (l : List Int) (T : Tm) : (T.ren l).size = T.size ∧ (T.ren l).deep = T.deep := by
  induction T using Tm.ind with
  | h k n s ks ih =>
    have : ∀ (us : List Tm), (∀ t ∈ us, (t.ren l).size = t.size ∧ (t.ren l).deep = t.deep) → Tm.sizes (Tm.rens l us) = Tm.sizes us ∧ Tm.deeps (Tm.rens l us) = Tm.deeps us := by
      intro us
      induction us with
      | nil => intro _; rw [Tm.rens_nil]; exact ⟨rfl, rfl⟩
      | cons u us ihu =>
        intro h
        have h1 := h u (by simp)
        have h2 := ihu (fun t ht => h t (by simp [ht]))
        rw [Tm.rens_cons, Tm.sizes_cons, Tm.sizes_cons, Tm.deeps_cons, Tm.deeps_cons, h1.1, h1.2, h2.1, h2.2]
        exact ⟨rfl, rfl⟩
    have h3 := this ks ih
    rw [Tm.ren_mk, Tm.size_mk, Tm.size_mk, Tm.deep_mk, Tm.deep_mk, h3.1, h3.2]
    exact ⟨rfl, rfl⟩
theorem rens_len (l : List Int) : ∀ us : List Tm, (Tm.rens l us).length = us.length
  | [] => by rw [Tm.rens_nil]
  | u :: us => by rw [Tm.rens_cons]; simp [rens_len l us]
theorem rens_mem {l : List Int} : ∀ {us : List Tm} {t : Tm}, t ∈ Tm.rens l us → ∃ u ∈ us, t = u.ren l
  | [], t, h => by rw [Tm.rens_nil] at h; simp at h
  | u :: us, t, h => by
    rw [Tm.rens_cons] at h
    rcases List.mem_cons.1 h with rfl | h
    · exact ⟨u, by simp, rfl⟩
    · obtain ⟨v, hv, e⟩ := rens_mem h
      exact ⟨v, by simp [hv], e⟩
theorem ren_valid (l : List Int) (T : Tm) : T.valid 16 = true → (∀ x ∈ vlist T, l.idxOf x < 4096) → (T.ren l).valid 16 = true := by
  induction T using Tm.ind with
  | h k n s ks ih =>
    intro hv hl
    rw [valid_mk8, Bool.and_eq_true, List.all_eq_true] at hv
    have hg := ren_ground l (.mk k n s ks)
    rw [Tm.ren_mk] at hg
    rw [Tm.ren_mk, valid_mk8, Bool.and_eq_true, List.all_eq_true]
    refine ⟨?_, fun t ht => ?_⟩
    · have hf := hv.1
      rw [Tm.formed_eq 16 k n s ks ks.length rfl] at hf
      rw [Tm.formed_eq 16 k _ s _ ks.length (rens_len l ks).symm]
      by_cases h1 : k = 1
      · subst h1
        rw [if_pos rfl] at hf ⊢
        rw [if_pos rfl]
        simp only [Bool.and_eq_true, decide_eq_true_eq] at hf ⊢
        have := hl n (by rw [vlist_mk]; simp)
        exact ⟨⟨⟨by omega, by omega⟩, hf.1.2⟩, hf.2⟩
      · rw [if_neg h1] at hf ⊢
        rw [if_neg h1]
        rw [if_neg h1] at hg
        rw [hg]
        exact hf
    · obtain ⟨u, hu, rfl⟩ := rens_mem ht
      exact ih u hu (hv.2 u hu) (fun x hx => hl x (vlist_kid hu hx))
theorem check_facts {T : Tm} (h : T.check 16 = 0) : T.size ≤ 1000 ∧ T.deep ≤ 60 ∧ T.valid 16 = true := by
  unfold Tm.check at h
  split at h
  · cases h
  · split at h
    · cases h
    · split at h
      · exact ⟨by omega, by omega, by assumption⟩
      · cases h
theorem ren_check {T : Tm} (h : T.check 16 = 0) : (T.ren T.vars).check 16 = 0 := by
  obtain ⟨h1, h2, h3⟩ := check_facts h
  obtain ⟨e1, e2⟩ := ren_size T.vars T
  have hlen : T.vars.length ≤ 1000 := by
    have := varsL_length (T.parts 1)
    rw [T.parts_length 1] at this
    unfold Tm.vars
    omega
  have hv : (T.ren T.vars).valid 16 = true := ren_valid _ T h3 (fun x hx => by
    have hm : x ∈ T.vars := by rw [vars_acc]; exact accT_mem [] T x hx
    have := List.idxOf_lt_length_of_mem hm
    omega)
  unfold Tm.check
  rw [e1, e2, if_neg (by omega), if_neg (by omega), if_pos hv]
/-- WHAT IS WRITTEN IS READ. -/
theorem back_ghost {T : Tm} (hw : Wr T) (hc : T.check 16 = 0) (hd : T.deep ≤ 25) (hl : (T.txt ++ [32, 46]).length ≤ 4096) : allG (T.txt ++ [32, 46]) 16 = .ok [T.ren T.vars] := by
  have hs := scan_back hw
  have hf : full (T.txt ++ [32, 46]) = .ok (T.tks false ++ [tEnd]) := by
    unfold full
    rw [if_neg (by omega)]
    exact hs
  unfold allG
  rw [hf]
  simp only
  generalize hL : T.tks false ++ [tEnd] = L
  have hL0 : L.drop 0 = T.tks false ++ [tEnd] := by rw [List.drop_zero, hL]
  have h1 := rd_all hw L false 0 [] [tEnd] 60 1200 hL0 ⟨tEnd, [], rfl, .inr (.inr rfl)⟩ (by omega)
  have h2 := drop_more hL0
  obtain ⟨e, -, hlt⟩ := at_drop h2
  have hlen : L.length = (T.tks false).length + 1 := by rw [← hL]; simp
  have hr : readG L 16 0 = .ok (T.ren T.vars) ((T.tks false).length + 1) (nmsV T.vars) := by
    unfold readG
    rw [show ([] : Nms) = nmsV [] from rfl, h1, ← vars_acc]
    show (if (ahd L (0 + (T.tks false).length)).kind ≠ 5 then _ else _) = _
    rw [e, if_neg (by decide), if_neg (by rw [ren_check hc]; decide), Nat.zero_add]
  obtain ⟨g, hg⟩ : ∃ g, L.length = g + 1 := ⟨(T.tks false).length, hlen⟩
  rw [hg]
  unfold allF
  rw [if_neg (by omega), hr]
  show allF L 16 (g + 1) ([] ++ [T.ren T.vars]) _ = _
  unfold allF
  rw [if_pos (by omega)]
  rfl
end Go.Proofs.YtfencolokfghfaaGreatDoor
namespace Go.Proofs.YtfencolokfghfaaGreatDoor
open Go.RowKit Go.Shelf
set_option linter.unusedVariables false

def PvL (w : World) (base B : Nat) (v : Value) (b : Nat) : Prop := b < w.heap.size ∧ v.ownBlock ≠ some b ∧ b ≠ B ∧ base ≤ b
/-- A slice that owns terms; these lie in blocks that are neither its own nor B. -/
def OwnTl (w : World) (base B : Nat) (v : Value) (ks : List Tm) : Prop := ∃ qs, w.ownsRow base 24 4 v qs.length (flatQ qs) ∧ QsOk (PvL w base B v) w qs ks

theorem OwnTl.nil (w : World) (base B : Nat) : OwnTl w base B (.slice none 0 0) [] := ⟨[], World.ownsRow_nil _ _ _ _, ⟨rfl, fun i q t h => by simp at h⟩⟩
theorem OwnTl.empty (w : World) (base B : Nat) (hb : base ≤ w.heap.size) : OwnTl (w.alloc (.cells #[] 24)) base B (.slice (some ⟨w.heap.size, 0, none⟩) 0 0) [] :=
  ⟨[], ⟨rfl, Or.inr ⟨w.heap.size, 0, #[], rfl, hb, Go.Deep.blk_alloc_new _ _, Nat.le_refl _, Nat.zero_le _, rfl, rfl⟩⟩, ⟨rfl, fun i q t h => by simp at h⟩⟩
theorem OwnTl.lt {w : World} {base B : Nat} {v : Value} {ks : List Tm} (h : OwnTl w base B v ks) : ∀ k, v.ownBlock = some k → base ≤ k := fun k hk => by
  obtain ⟨qs, h1, _⟩ := h
  exact (World.ownsRow.lt h1 k hk).1
theorem OwnTl.lt2 {w : World} {base B : Nat} {v : Value} {ks : List Tm} (h : OwnTl w base B v ks) : ∀ k, v.ownBlock = some k → k < w.heap.size := fun k hk => by
  obtain ⟨qs, h1, _⟩ := h
  exact (World.ownsRow.lt h1 k hk).2
theorem OwnTl.form {w : World} {base B : Nat} {v : Value} {ks : List Tm} (h : OwnTl w base B v ks) : ∃ a c, v = .slice a ks.length c := by
  obtain ⟨qs, h1, h2⟩ := h
  rw [h2.1] at h1
  rcases h1.2 with ⟨rfl, e⟩ | ⟨g, cap, cur, rfl, _⟩
  · exact ⟨none, 0, by rw [e]⟩
  · exact ⟨_, _, rfl⟩
/-- It stays where neither its row nor what its terms lie in has turned. -/
theorem OwnTl.kept {w w' : World} {base B : Nat} {v : Value} {ks : List Tm} (h : OwnTl w base B v ks) (hs : w.heap.size ≤ w'.heap.size) (hk : ∀ b, b < w.heap.size → b ≠ B → w'.heap[b]? = w.heap[b]?) (hB : v.ownBlock ≠ some B) : OwnTl w' base B v ks := by
  obtain ⟨qs, h1, h2⟩ := h
  refine ⟨qs, ?_, h2.carry (fun b hb => hk b hb.1 hb.2.2.1) (fun b hb => ⟨Nat.lt_of_lt_of_le hb.1 hs, hb.2⟩)⟩
  obtain ⟨hl, ⟨h0, h1⟩ | ⟨g, cap, cur, h0, hg, hh, r⟩⟩ := h1
  · exact ⟨hl, Or.inl ⟨h0, h1⟩⟩
  · refine ⟨hl, Or.inr ⟨g, cap, cur, h0, hg, ?_, r⟩⟩
    rw [hk g (Array.getElem?_eq_some_iff.1 hh).1 (fun e => hB (by rw [h0, e]; rfl))]
    exact hh
theorem OwnTl.alloc {w : World} {base B : Nat} {v : Value} {ks : List Tm} (h : OwnTl w base B v ks) (hB : v.ownBlock ≠ some B) (o : Obj) : OwnTl (w.alloc o) base B v ks :=
  h.kept (by simp) (fun b hb _ => Below.heap_alloc w o b hb) hB
theorem OwnTl.ts {w : World} {base B : Nat} {v : Value} {ks : List Tm} (h : OwnTl w base B v ks) : TsIn (fun b => base ≤ b ∧ b < w.heap.size) w v ks := by
  obtain ⟨qs, h1, h2⟩ := h
  rw [h2.1] at h1
  obtain ⟨_, ⟨rfl, h0⟩ | ⟨g, cap, cur, rfl, hg, hh, hc1, hc2, hc3, hc4⟩⟩ := h1
  · obtain rfl : ks = [] := List.eq_nil_of_length_eq_zero h0
    exact noTs _ _
  · refine ⟨some ⟨g, 0, none⟩, cap, rfl, hc1, hc2, (fun h => by cases h), fun i hi => ?_⟩
    have hq : i < qs.length := by rw [h2.1]; exact hi
    obtain ⟨⟨a, l, c, e⟩, hT⟩ := h2.2 i qs[i] ks[i] (List.getElem?_eq_getElem hq) (List.getElem?_eq_getElem hi)
    obtain ⟨g0, g1, g2, g3⟩ := flatQ_get qs i qs[i] (List.getElem?_eq_getElem hq)
    have cell : ∀ j, j < ks.length * 4 → w.cell? ⟨g, j, none⟩ = (flatQ qs)[j]? := fun j hj => by
      rw [← hc4, List.getElem?_take_of_lt hj]
      simp [World.cell?, hh]
    refine ⟨g, 0, qs[i].1, qs[i].2.1, qs[i].2.2.1, a, l, c, rfl, ⟨hg, (Array.getElem?_eq_some_iff.1 hh).1⟩, ?_, ?_, ?_, ?_, ?_⟩
    · rw [Nat.zero_add, cell _ (by omega)]; exact g0
    · rw [Nat.zero_add, cell _ (by omega)]; exact g1
    · rw [Nat.zero_add, cell _ (by omega)]; exact g2
    · rw [Nat.zero_add, cell _ (by omega), g3, e]
    · have hT' := hT.carry (q := fun b => base ≤ b ∧ b < w.heap.size) (B := w) (fun _ _ => rfl) (fun b hb => ⟨hb.2.2.2, hb.1⟩)
      unfold qval at hT'
      rw [e] at hT'
      exact hT'

/-- append, run. -/
theorem run_append_tl {w : World} (ty : TypeId) (base B : Nat) (v u : Value) (ks ls : List Tm) (hown : OwnTl w base B v ks) (hsrc : TsIn (PvL w base B v) w u ls) (hl : ks.length + ls.length ≤ 1000000000000) (hbase : base ≤ w.heap.size) (hB : B < w.heap.size) :
    ∃ v' w', (Builtin.append_ #[22, 22] ty #[v, u]).run Tryz.prog w = .ok v' w' ∧ OwnTl w' base B v' (ks ++ ls) ∧ w.grownBy w' v.ownBlock ∧ (v'.ownBlock = v.ownBlock ∨ v'.ownBlock = some w.heap.size) := by
  obtain ⟨i0, hi, hz0, hz1, hz2⟩ := info_parts infoTerm
  obtain ⟨qs, h1, h2⟩ := hown
  obtain ⟨a, cap, rs, rfl, h3, h4, h5⟩ := src_quads hsrc
  cases a with
  | none =>
    obtain ⟨rfl, rfl⟩ := h3 rfl
    refine ⟨v, w, run_append_owned_none w base 22 ty 24 i0 4 Tryz.underlying22 hi v qs.length (flatQ qs) h1, ⟨qs, h1, by rw [List.append_nil]; exact h2⟩, ⟨rfl, rfl, rfl, Nat.le_refl _, fun _ _ _ => rfl⟩, Or.inl rfl⟩
  | some ad =>
    have hql : qs.length = ks.length := h2.1
    have hrl : rs.length = ls.length := h4.1
    obtain ⟨v', w', hr, ho, hg, _, hat⟩ := run_append_own_at (P := Tryz.prog) w base 22 ty 24 i0 _ 4 56 Tryz.underlying22 hi hz0 hz1 hz2 rfl (by decide) v qs.length (flatQ qs) h1 ad ls.length cap (flatQ rs) (by rw [flatQ_length, hrl]) (h5 ad rfl) (flatQ_one h4) (by unfold maxLen; omega) (by omega) hbase
    refine ⟨v', w', hr, ⟨qs ++ rs, ?_, ?_⟩, hg, hat⟩
    · rw [List.length_append, flatQ_append, hrl]; exact ho
    · refine (h2.append h4).carry (fun b hb => hg.block b hb.1 (fun e => hb.2.1 e.symm)) (fun b hb => ⟨Nat.lt_of_lt_of_le hb.1 hg.size, fun e => ?_, hb.2.2⟩)
      rcases hat with hat | hat
      · exact hb.2.1 (hat.symm.trans e)
      · rw [hat] at e; injection e with e; have := hb.1; omega

/-- append, at a step of a region that draws its order. -/
theorem step_append_tl {w : World} {ops : Array Oper} {o : Oper} {a : Act} {K : Act → World → Prop} {Q : Exit → Act → World → Prop} {E : Prop} (hgd : o.guard = none) (s x : Operand)
    (ho : o.op = .call { callee := .builtin .append, args := #[s, x], argTypes := #[22, 22] })
    (base B : Nat) (v u : Value) (ks ls : List Tm) (hs : a.eval s = v) (hx : a.eval x = u) (hown : OwnTl w base B v ks) (hsrc : TsIn (PvL w base B v) w u ls) (hl : ks.length + ls.length ≤ 1000000000000) (hbase : base ≤ w.heap.size) (hB : B < w.heap.size)
    (h : ∀ v' w', OwnTl w' base B v' (ks ++ ls) → w.grownBy w' v.ownBlock → (v'.ownBlock = v.ownBlock ∨ v'.ownBlock = some w.heap.size) → K (a.put o.dst v') w') :
    if Region.wanted o (yielded ops a.tmps) = true then Oper.wp Tryz.prog o a w K Q else E := by
  have hw : Region.wanted o (yielded ops a.tmps) = true := by simp [Region.wanted, hgd]
  rw [if_pos hw]
  obtain ⟨v', w', hr, h2, h3, h4⟩ := run_append_tl o.type base B v u ks ls hown hsrc hl hbase hB
  unfold Oper.wp execOp
  simp only [ho, resolve, invoke, builtin, Sem.run_bind, Sem.run_pure, Result.andThen_ok, List.map_toArray, List.map_cons, List.map_nil, hs, hx, hr]
  exact h v' w' h2 h3 h4


end Go.Proofs.YtfencolokfghfaaGreatDoor
namespace Go.Proofs.YtfencolokfghfaaGreatDoor

/-- What is asked ahead of the last operation. -/
def lastPost (P : Program) (ops : Array Oper) (n : Nat) (Q : Exit → Act → World → Prop) : Exit → Act → World → Prop
  | .normal, a, w => wpOp P ops Q n (fun a' w' => Q .normal a' w') a w
  | e, a, w => Q e a w

theorem lets_last {P : Program} {ops : Array Oper} {n : Nat} {Q : Exit → Act → World → Prop} (h : LetsOut (lastPost P ops n Q)) : LetsOut Q := by
  obtain ⟨a, w, h⟩ := h
  exact ⟨a, w, h⟩

theorem wp_last {P : Program} {ops : Array Oper} {n : Nat} {Q : Exit → Act → World → Prop} {o : Oper} {a : Act} {w : World} {K K' : Act → World → Prop} (h : ∀ a w, K a w → K' a w)
    (hh : o.wp P a w K (lastPost P ops n Q)) : o.wp P a w K' Q := by
  unfold Oper.wp at *
  generalize (execOp a.eval o).run P w = r at *
  cases r with
  | ok x w' =>
    cases x with
    | enter f args =>
      simp only [Oper.upon] at hh ⊢
      refine Calls.mono hh fun e w'' he => ?_
      cases e with
      | returned v => exact h _ _ he
      | panicked c => exact he
      | outgrown => exact lets_last he
    | row r args =>
      simp only [Oper.upon] at hh ⊢
      exact Rows.mono hh (fun _ _ he => h _ _ he)
    | _ => simp only [Oper.upon] at hh ⊢ <;> first | exact h _ _ hh | exact hh
  | halt x w' => cases x <;> simp only [Oper.upon] at hh ⊢ <;> exact hh

/-- Is operation n the last one, does it wait for all others, and do all wait for earlier ones alone? -/
def lastB (l : List Oper) (n : Nat) : Bool :=
  decide (l.length = n + 1) && ((List.range n).all fun i => Region.waitsFor .any l.toArray n i) &&
    (List.range (n + 1)).all fun i => match l[i]? with
      | some o => (o.after.all fun e => decide (e.on < i)) && (match o.guard with | some (g, _) => decide (g < n) | none => true)
      | none => false

structure LastOk (l : List Oper) (n : Nat) : Prop where
  len : l.length = n + 1
  waits : ∀ i, i < n → ∃ o, l[n]? = some o ∧ ∃ e ∈ o.after, Region.binds .any e = true ∧ e.on = i
  after : ∀ (i : Nat) (o : Oper), l[i]? = some o → ∀ e ∈ o.after, e.on < i
  guard : ∀ (i : Nat) (o : Oper), l[i]? = some o → ∀ g b, o.guard = some (g, b) → g < n

theorem lastB_spec {l : List Oper} {n : Nat} (h : lastB l n = true) : LastOk l n := by
  simp only [lastB, Bool.and_eq_true, decide_eq_true_eq] at h
  obtain ⟨⟨h1, h2⟩, h3⟩ := h
  have hall : ∀ (i : Nat) (o : Oper), l[i]? = some o → (o.after.all fun e => decide (e.on < i)) = true ∧ (match o.guard with | some (g, _) => decide (g < n) | none => true) = true := fun i o ho => by
    have hi : i < n + 1 := by rw [← h1]; exact (List.getElem?_eq_some_iff.1 ho).1
    have h4 := List.all_eq_true.1 h3 i (List.mem_range.2 hi)
    rw [ho] at h4
    simpa using h4
  refine ⟨h1, fun i hi => ?_, fun i o ho e he => ?_, fun i o ho g b hg => ?_⟩
  · obtain ⟨o, ho, e, he, hb, hon⟩ := Region.waitsFor_spec (List.all_eq_true.1 h2 i (List.mem_range.2 hi))
    exact ⟨o, by simpa using ho, e, he, hb, hon⟩
  · have := Array.all_eq_true_iff_forall_mem.1 (hall i o ho).1 e he
    simpa using this
  · have := (hall i o ho).2
    rw [hg] at this
    simpa using this

theorem push_getD {listed : Array Bool} {n i : Nat} (hs : listed.size = n) (hi : i < n) (b d : Bool) : (listed.push b).getD i d = listed.getD i d := by
  have h : i < listed.size := by omega
  simp [Array.getElem?_push, h, Nat.ne_of_lt h]

theorem take_get {l : List Oper} {n i : Nat} (hi : i < n) : (l.take n).toArray[i]? = l.toArray[i]? := by simp [hi]

section
variable {P : Program} {Q : Exit → Act → World → Prop} {l : List Oper} {n : Nat}

theorem ready_trunc (L : LastOk l n) {listed : Array Bool} (hs : listed.size = n) {i : Nat} (hi : i < n) : i ∈ Region.ready .any l.toArray (listed.push false) ↔ i ∈ Region.ready .any (l.take n).toArray listed := by
  rw [mem_ready, mem_ready, push_getD hs hi, take_get hi]
  refine and_congr Iff.rfl ⟨?_, ?_⟩
  · rintro ⟨o, ho, h⟩
    refine ⟨o, ho, fun e he hb => ?_⟩
    have h1 := L.after i o (by simpa using ho) e he
    have := h e he hb
    rwa [push_getD hs (by omega)] at this
  · rintro ⟨o, ho, h⟩
    refine ⟨o, ho, fun e he hb => ?_⟩
    have h1 := L.after i o (by simpa using ho) e he
    rw [push_getD hs (by omega)]
    exact h e he hb

theorem last_ready (L : LastOk l n) {listed : Array Bool} (hs : listed.size = n) (h : n ∈ Region.ready .any l.toArray (listed.push false)) : ∀ i, i < n → listed.getD i false = true := by
  obtain ⟨_, o, ho, hall⟩ := mem_ready.1 h
  intro i hi
  obtain ⟨o', ho', e, he, hb, hon⟩ := L.waits i hi
  have : o' = o := Option.some.inj (ho'.symm.trans (by simpa using ho))
  subst this
  have h1 := hall e he hb
  rw [hon, push_getD hs hi] at h1
  exact h1

theorem all_listed (L : LastOk l n) {listed : Array Bool} (hs : listed.size = n) (h : Region.ready .any (l.take n).toArray listed = []) : ∀ i, i < n → listed.getD i false = true := by
  intro i
  induction i using Nat.strongRecOn with
  | _ i ih =>
    intro hi
    cases hl : listed.getD i false with
    | true => rfl
    | false =>
      exfalso
      have hlt : i < l.length := by rw [L.len]; omega
      have : i ∈ Region.ready .any (l.take n).toArray listed := mem_ready.2 ⟨getD_in (by omega) hl, l[i], by rw [take_get hi]; simp [hlt], fun e he hb => ih e.on (L.after i _ (List.getElem?_eq_getElem hlt) e he) (by have := L.after i _ (List.getElem?_eq_getElem hlt) e he; omega)⟩
      rw [h] at this
      cases this

theorem is_ready (L : LastOk l n) {listed : Array Bool} (hs : listed.size = n) (h : ∀ i, i < n → listed.getD i false = true) : n ∈ Region.ready .any l.toArray (listed.push false) := by
  have hlt : n < l.length := by rw [L.len]; omega
  refine mem_ready.2 ⟨by subst hs; simp, l[n], by simp [hlt], fun e he _ => ?_⟩
  have h1 := L.after n _ (List.getElem?_eq_getElem hlt) e he
  rw [push_getD hs h1]
  exact h _ h1

theorem none_trunc {listed : Array Bool} (h : ∀ i, i < n → listed.getD i false = true) : Region.ready .any (l.take n).toArray listed = [] := by
  refine List.eq_nil_iff_forall_not_mem.2 fun i hi => ?_
  obtain ⟨h1, o, ho, _⟩ := mem_ready.1 hi
  have hin : i < n := by
    have := (Array.getElem?_eq_some_iff.1 ho).1
    simp at this
    omega
  have := getD_both h1
  rw [h i hin] at this
  cases this

theorem none_full (L : LastOk l n) {listed : Array Bool} (hs : listed.size = n) (h : ∀ i, i < n → listed.getD i false = true) : Region.ready .any l.toArray ((listed.push false).setIfInBounds n true) = [] := by
  refine List.eq_nil_iff_forall_not_mem.2 fun i hi => ?_
  obtain ⟨h1, o, ho, _⟩ := mem_ready.1 hi
  have hin : i < n + 1 := by
    have := (Array.getElem?_eq_some_iff.1 ho).1
    have h2 := L.len
    simp at this
    omega
  by_cases e : i = n
  · subst e
    have h2 := getD_both h1
    simp [hs] at h2
  · rw [getD_set_ne true (Ne.symm e), push_getD hs (by omega)] at h1
    have := getD_both h1
    rw [h i (by omega)] at this
    cases this

theorem wanted_trunc (L : LastOk l n) {i : Nat} {o : Oper} (ho : l[i]? = some o) (t : Array Value) : Region.wanted o (yielded (l.take n).toArray t) = Region.wanted o (yielded l.toArray t) := by
  unfold Region.wanted
  cases hg : o.guard with
  | none => rfl
  | some gb =>
    obtain ⟨g, b⟩ := gb
    have := L.guard i o ho g b hg
    simp only [yielded, take_get this]

theorem wpOp_trunc (L : LastOk l n) {i : Nat} (hi : i < n) {K K' : Act → World → Prop} (h : ∀ a w, K a w → K' a w) {a : Act} {w : World} (hh : wpOp P (l.take n).toArray (lastPost P l.toArray n Q) i K a w) : wpOp P l.toArray Q i K' a w := by
  have hlt : i < l.length := by rw [L.len]; omega
  have h0 : l.toArray[i]? = some l[i] := by simp [hlt]
  unfold wpOp at *
  rw [take_get hi, h0] at hh
  rw [h0]
  simp only at hh ⊢
  rw [wanted_trunc L (List.getElem?_eq_getElem hlt)] at hh
  split
  · rename_i hw
    simp only [hw, if_true] at hh
    rcases hh with hh | ⟨h1, h2⟩
    · exact .inl (wp_last h hh)
    · exact .inr ⟨h1, lets_last h2⟩
  · rename_i hw
    simp only [hw] at hh
    exact h _ _ hh

theorem wpAny_done {listed : Array Bool} {a : Act} {w : World} {ops : Array Oper} (hr : Region.ready .any ops listed = []) (h : Q .normal a w) : ∀ f, wpAny P .any ops Q f listed a w
  | 0 => ⟨hr, h⟩
  | f + 1 => ⟨fun _ => h, fun i hi => by rw [hr] at hi; cases hi⟩

theorem push_set {listed : Array Bool} {i : Nat} (hi : i < listed.size) : (listed.push false).setIfInBounds i true = (listed.setIfInBounds i true).push false := by
  refine Array.ext (by simp) fun j h1 h2 => ?_
  simp at h1
  rw [Array.getElem_setIfInBounds (by simpa using h1)]
  by_cases e : i = j
  · subst e; simp [Array.getElem_push, hi]
  · by_cases hj : j < listed.size
    · simp [e, Array.getElem_push, hj]
    · simp [e, Array.getElem_push, hj]

theorem wpAny_last (L : LastOk l n) : ∀ (f : Nat) (listed : Array Bool) (a : Act) (w : World), listed.size = n →
    wpAny P .any (l.take n).toArray (lastPost P l.toArray n Q) f listed a w → wpAny P .any l.toArray Q (f + 1) (listed.push false) a w := by
  intro f
  have step : ∀ (listed : Array Bool) (a : Act) (w : World) (g : Nat), listed.size = n → (∀ i, i < n → listed.getD i false = true) → lastPost P l.toArray n Q .normal a w →
      wpOp P l.toArray Q n (wpAny P .any l.toArray Q g ((listed.push false).setIfInBounds n true)) a w := fun listed a w g hs hall h =>
    wpOp_mono (fun a' w' h' => wpAny_done (none_full L hs hall) h' g) h
  induction f with
  | zero =>
    intro listed a w hs h
    have hall := all_listed L hs h.1
    refine ⟨fun h0 => ?_, fun i hi => ?_⟩
    · have := is_ready L hs hall
      rw [h0] at this
      cases this
    · have hin : i < n + 1 := by
        obtain ⟨_, o, ho, _⟩ := mem_ready.1 hi
        have := (Array.getElem?_eq_some_iff.1 ho).1
        have h2 := L.len
        simp at this
        omega
      by_cases e : i = n
      · subst e
        exact step listed a w 0 hs hall h.2
      · have := (ready_trunc L hs (show i < n by omega)).1 hi
        rw [h.1] at this
        cases this
  | succ f ih =>
    intro listed a w hs h
    refine ⟨fun h0 => ?_, fun i hi => ?_⟩
    · exfalso
      have h1 : Region.ready .any (l.take n).toArray listed = [] := List.eq_nil_iff_forall_not_mem.2 fun i hi => by
        have hin : i < n := by
          obtain ⟨_, o, ho, _⟩ := mem_ready.1 hi
          have := (Array.getElem?_eq_some_iff.1 ho).1
          simp at this
          omega
        have := (ready_trunc L hs hin).2 hi
        rw [h0] at this
        cases this
      have := is_ready L hs (all_listed L hs h1)
      rw [h0] at this
      cases this
    · have hin : i < n + 1 := by
        obtain ⟨_, o, ho, _⟩ := mem_ready.1 hi
        have := (Array.getElem?_eq_some_iff.1 ho).1
        have h2 := L.len
        simp at this
        omega
      by_cases e : i = n
      · subst e
        have hall := last_ready L hs hi
        exact step listed a w (f + 1) hs hall (h.1 (none_trunc hall))
      · have hin' : i < n := by omega
        refine wpOp_trunc L hin' (fun a' w' h' => ?_) (h.2 i ((ready_trunc L hs hin').1 hi))
        rw [push_set (by omega)]
        exact ih _ a' w' (by simp [hs]) h'

/-- The region by its parts: all but the last operation under a condition S, then the last one. -/
theorem wp_region_last {id : Nat} {a : Act} {w : World} {S : World → Prop} (n : Nat) (hm : P.follows .mixedOrders = true) (hB : lastB l n = true) (hS : S w.drew)
    (h : S w.drew → wpAnyH P .any (l.take n).toArray (lastPost P l.toArray n Q) S n (Array.replicate n false) a w.drew) : (Code.region id l.toArray true).wp P Q a w := by
  have L := lastB_spec hB
  have h1 := wpAny_last L n (Array.replicate n false) a w.drew (by simp) (wpAny_of_held _ _ _ _ (h hS))
  refine wp_region_any hm ?_
  have e : l.toArray.size = n + 1 := by simpa using L.len
  rw [e, show Array.replicate (n + 1) false = (Array.replicate n false).push false from Array.replicate_succ]
  exact h1

/-- The last operation, as a list of one. -/
theorem last_of_list {o : Oper} {a : Act} {w : World} (ho : l.toArray[n]? = some o) (h : wpList P l.toArray Q [o] a w) : lastPost P l.toArray n Q .normal a w := by
  show wpOp P l.toArray Q n (fun a' w' => Q .normal a' w') a w
  unfold wpOp
  rw [ho]
  exact h

/-- The region by its parts: all but the last operation quiet in a family of worlds, then the last one. -/
theorem wp_region_fam_last {id : Nat} {a : Act} {w : World} {I : Type} (F : I → World) (n0 : I) (n : Nat) (o : Oper) (h0 : w.drew = F n0) (hm : P.follows .mixedOrders = true) (hB : lastB l n = true) (hL : Region.lexB .any (l.take n).toArray = true) (ho : l.toArray[n]? = some o)
    (h : wpQuiet P (l.take n).toArray (fun w' => ∃ i, w' = F i) (fun a' => ∀ w', (∃ i, w' = F i) → wpList P l.toArray Q [o] a' w') (l.take n) a) : (Code.region id l.toArray true).wp P Q a w := by
  have L := lastB_spec hB
  simp only [Region.lexB, Bool.and_eq_true] at hL
  have hn : (l.take n).length = n := by have := L.len; simp; omega
  have h2 := wpAnyQ_lex (C := fun w' => ∃ i, w' = F i) (md := .any) hL.1 (l.take n) 0 (Array.replicate (l.take n).toArray.size false) a (by simp) (by simpa using hL.2) h
  rw [List.size_toArray, hn] at h2
  have h3 := wpAny_of_quiet (Q' := lastPost P l.toArray n Q) (fun a' w' hC' h' => last_of_list ho (h' w' hC')) _ _ _ _ ⟨n0, h0⟩ h2
  have h1 := wpAny_last L n (Array.replicate n false) a w.drew (by simp) h3
  refine wp_region_any hm ?_
  have e : l.toArray.size = n + 1 := by simpa using L.len
  rw [e, show Array.replicate (n + 1) false = (Array.replicate n false).push false from Array.replicate_succ]
  exact h1
end

end Go.Proofs.YtfencolokfghfaaGreatDoor
namespace Go.Proofs.YtfencolokfghfaaGreatDoor
open Go.RowKit Go.Shelf
set_option linter.unusedVariables false
set_option linter.unusedSimpArgs false

theorem set_inv9 {W : World} {B : Nat} {a b c v u : Value} {t : TypeId} {z : Nat × Nat} (h : (W.setCell ⟨B, 3, none⟩ u).heap[B]? = some (.cells #[a, b, c, v] t z)) : v = u := by
  have hlt : B < W.heap.size := by have := (Array.getElem?_eq_some_iff.1 h).1; simpa using this
  have hW : W.heap[B]? = some W.heap[B] := Array.getElem?_eq_getElem hlt
  have hm : (W.setCell ⟨B, 3, none⟩ u).heap[B]? = some (match W.heap[B] with | .cells c elem frozen => .cells (c.setIfInBounds 3 u) elem frozen | o => o) := by
    show (W.heap.modify B _)[B]? = _
    rw [Array.getElem?_eq_getElem (by rw [Array.size_modify]; exact hlt), Array.getElem_modify_self]
    rfl
  rw [hm] at h
  cases ho : W.heap[B] with
  | cells cur e f =>
    rw [ho] at h
    simp only [Option.some.injEq, Obj.cells.injEq] at h
    have h3 := congrArg (fun x : Array Value => x[3]?) h.1
    have hs := congrArg Array.size h.1
    simp at hs
    simp [hs] at h3
    exact h3.symm
  | _ => rw [ho] at h; simp at h

def plN (l : List Int) (n : Int) : Nat := if n ∈ l then l.idxOf n else 0
theorem plN_ok (l : List Int) (n : Int) (h : l.length ≤ 1000000) : i64ok (plN l n : Int) := by
  unfold plN i64ok
  split
  · rename_i hm
    have := List.idxOf_lt_length_of_mem hm
    omega
  · omega
mutual
def Tm.plc (l : List Int) : Tm → Tm
  | .mk k n s ks => .mk k (if k = 1 then (plN l n : Int) else n) s (Tm.plcs l ks)
def Tm.plcs (l : List Int) : List Tm → List Tm
  | [] => []
  | t :: ts => t.plc l :: Tm.plcs l ts
end
theorem Tm.plc_mk (l : List Int) (k n : Int) (s : ByteArray) (ks : List Tm) : (Tm.mk k n s ks).plc l = .mk k (if k = 1 then (plN l n : Int) else n) s (Tm.plcs l ks) := by rw [Tm.plc]
theorem Tm.plcs_eq (l : List Int) : ∀ ks : List Tm, Tm.plcs l ks = ks.map (Tm.plc l)
  | [] => by rw [Tm.plcs]; rfl
  | t :: ts => by rw [Tm.plcs, Tm.plcs_eq l ts]; rfl
theorem plc_ren (l : List Int) (T : Tm) : (∀ x ∈ vlist T, x ∈ l) → T.plc l = T.ren l := by
  induction T using Tm.ind with
  | h k n s ks ih =>
    intro h
    rw [Tm.plc_mk, Tm.ren_mk]
    have h1 : Tm.plcs l ks = Tm.rens l ks := by
      have : ∀ (us : List Tm), (∀ t ∈ us, t.plc l = t.ren l) → Tm.plcs l us = Tm.rens l us := by
        intro us
        induction us with
        | nil => intro _; rw [Tm.plcs, Tm.rens_nil]
        | cons u us ihu => intro h; rw [Tm.plcs, Tm.rens_cons, h u (by simp), ihu (fun t ht => h t (by simp [ht]))]
      exact this ks (fun t ht => ih t ht (fun x hx => h x (vlist_kid ht hx)))
    rw [h1]
    by_cases hk : k = 1
    · subst hk
      rw [if_pos rfl, if_pos rfl]
      unfold plN
      rw [if_pos (h n (by rw [vlist_mk]; simp))]
    · rw [if_neg hk, if_neg hk]
set_option maxRecDepth 100000 in
set_option maxHeartbeats 1000000 in
theorem place_at (ll : List Int) (n : Int) (al : Option Addr) (cl : Nat) (w : World) (h : IntsAt w (.slice al ll.length cl) ll) (hl : ll.length ≤ 1000000) : Calls Tryz.prog 29 #[.slice al ll.length cl, .int .i64 n] w fun e w' => e = .returned (.int .i64 (plN ll n : Int)) ∧ w' = w := by
  obtain ⟨a', cap', e, h1, h2, h3, h4⟩ := h
  injection e with e1 e2 e3
  subst e1 e3
  go_enter Tryz.func29, Tryz.ntmps29
  go_wp2_with fail
  go_loopg [5] ll.length (fun g z wr => ∃ i : Nat, z = .int .i64 i ∧ g + i = ll.length ∧ n ∉ ll.take i ∧ wr = w)
  case atStart => exact ⟨0, rfl, by omega, by simp, rfl⟩
  case round =>
    obtain ⟨i, rfl, hgi, hno, hwr⟩ := hrel
    have hwr := hwr.symm
    subst hwr
    have HNO := Lib.hid hno
    clear hno
    cases gk with
    | zero =>
      have hii : ¬ ((i : Int) < (ll.length : Int)) := by omega
      have HP := Lib.hid (show plN ll n = 0 by
        have := HNO.out
        rw [List.take_of_length_le (by omega)] at this
        unfold plN
        rw [if_neg this])
      clear h4
      go_wp2_with fail
      go_ret
      exact ⟨by rw [HP.out]; rfl, rfl⟩
    | succ m =>
      have hlt : i < ll.length := by omega
      have hii : ((i : Int) < (ll.length : Int)) := by omega
      obtain ⟨b, o, rfl, hb, hc⟩ := h4 i hlt
      have HG := Lib.hid (List.getElem?_eq_getElem hlt)
      generalize ll[i] = x at *
      clear h4
      by_cases hx : x = n
      · subst hx
        have HP := Lib.hid (show plN ll x = i by
          have hmem : x ∈ ll := List.mem_of_getElem? HG.out
          unfold plN
          rw [if_pos hmem]
          have e : ll = ll.take i ++ x :: ll.drop (i + 1) := by
            have hx2 : ll[i] = x := by have := HG.out; rw [List.getElem?_eq_getElem hlt] at this; exact Option.some.inj this
            rw [← hx2, ← List.drop_eq_getElem_cons hlt, List.take_append_drop]
          have key : ∀ (p q : List Int), x ∉ p → (p ++ x :: q).idxOf x = p.length := by
            intro p q
            induction p with
            | nil => intro _; simp
            | cons a p ihp =>
              intro hn
              rw [List.cons_append, List.idxOf_cons]
              have e1 : (a == x) = false := by simp; intro e; exact hn (by simp [e])
              rw [e1, ihp (fun hh => hn (by simp [hh]))]
              simp
          conv => lhs; rw [e]
          rw [key _ _ HNO.out, List.length_take]
          omega)
        go_wp2_with fail
        go_ret
        exact ⟨by rw [HP.out]; rfl, rfl⟩
      · have hxn : (x == n) = false := by simpa using hx
        have HN := Lib.hid (show n ∉ ll.take (i + 1) by
          rw [List.take_add_one, HG.out]
          intro hm
          rcases List.mem_append.1 hm with hm | hm
          · exact HNO.out hm
          · simp at hm; exact hx hm.symm)
        clear hx
        go_wp2_with fail
        go_roundg m
        case measure => omega
        case rel => exact ⟨i + 1, by simp, by omega, HN.out, rfl⟩
set_option maxRecDepth 100000 in
set_option maxHeartbeats 4000000 in
theorem lfirst_at (ll : List Int) (al : Option Addr) (cl : Nat) (hll1 : ll.length ≤ 1000000) (T : Tm) : ∀ (v : Value) (w : World), Has w v T → T.size ≤ 1000000000 → IntsAt w (.slice al ll.length cl) ll → Calls Tryz.prog 12 #[v, .slice al ll.length cl] w (NewTm w (T.plc ll)) := by
  induction T using Tm.ind with
  | h k n s ks ih =>
    intro v w hv hs hL
    obtain ⟨k_, n_, s_, a, len, cap, ks_, rfl, e, rfl, hk, hn, hs', hc, hm, ha⟩ := hv.form
    injection e with e1 e2 e3 e4
    subst e1 e2 e3 e4
    rw [Tm.size_mk] at hs
    have hlen : ks.length ≤ 1000000000 := by have := Tm.length_le_sizes ks; omega
    have hz := zeroTerm
    rw [Tm.plc_mk]
    by_cases h1 : k = 1
    · subst h1
      rw [if_pos rfl]
      have hpl := fun W (h : Below w.heap.size w W) => place_at ll n al cl W (hL.below h) hll1
      obtain ⟨w3, hw3⟩ : ∃ w3, w3 = (((w.alloc (.cells #[.int .i64 1, .int .i64 n, .string s, .slice a ks.length cap] 24)).alloc (.cells #[.int .i64 0, .int .i64 0, .string (ByteArray.mk #[]), .slice none 0 0] 24)).alloc (.cells #[.int .i64 1, .int .i64 (plN ll n : Int), .string s, .slice none 0 0] 24)) := ⟨_, rfl⟩
      have hB3 : Below w.heap.size w w3 := by rw [hw3]; exact (((Below.refl _ w).alloc (Nat.le_refl _) _).alloc (by simp) _).alloc (by simp; omega) _
      have hsz3 : w3.heap.size = w.heap.size + 1 + 1 + 1 := by rw [hw3]; simp
      have hx1 : w3.heap[w.heap.size]? = some (.cells #[.int .i64 1, .int .i64 n, .string s, .slice a ks.length cap] 24 (0, 0)) := by rw [hw3]; exact ((Below.heap_alloc _ _ _ (by simp; omega)).trans (Below.heap_alloc _ _ _ (by simp))).trans (World.alloc_heap_new _ _)
      have hx3 : w3.heap[w.heap.size + 1 + 1]? = some (.cells #[.int .i64 1, .int .i64 (plN ll n : Int), .string s, .slice none 0 0] 24 (0, 0)) := by rw [hw3]; simpa using World.alloc_heap_new ((w.alloc (.cells #[.int .i64 1, .int .i64 n, .string s, .slice a ks.length cap] 24)).alloc (.cells #[.int .i64 0, .int .i64 0, .string (ByteArray.mk #[]), .slice none 0 0] 24)) (.cells #[.int .i64 1, .int .i64 (plN ll n : Int), .string s, .slice none 0 0] 24)
      have hx2 : w3.heap[w.heap.size + 1]? = some (.cells #[.int .i64 0, .int .i64 0, .string (ByteArray.mk #[]), .slice none 0 0] 24 (0, 0)) := by rw [hw3]; refine (Below.heap_alloc _ _ _ (by simp)).trans ?_; simpa using World.alloc_heap_new (w.alloc (.cells #[.int .i64 1, .int .i64 n, .string s, .slice a ks.length cap] 24)) (.cells #[.int .i64 0, .int .i64 0, .string (ByteArray.mk #[]), .slice none 0 0] 24)
      have hAf3 : After w3 (w.heap.size + 1 + 1) 1 (plN ll n : Int) s w3 := ⟨rfl, rfl, rfl, Nat.le_refl _, fun _ _ _ => rfl, ⟨_, hx3⟩, by omega⟩
      have HH := Lib.hid (And.intro (And.intro hsz3 hs) (And.intro hB3 (And.intro hAf3 (And.intro hx1 hx3))))
      have HX2 := Lib.hid hx2
      have HW3 := Lib.hid hw3
      clear hs hw3 hB3 hsz3 hx1 hx2 hx3 hAf3
      go_enter Tryz.func12, Tryz.ntmps12
      have HPL := Lib.hid hpl
      clear hpl
      go_wp2_with (first | (go_at_call 29; (with_reducible refine (HPL.out _ (bel_al (bel_al (bel_al (Below.refl _ _) _) _) _)).mono ?_); rintro e W1 ⟨rfl, hW1⟩; have hW1 := hW1.symm; subst hW1))
      rw [← HW3.out]
      go_loopw [6] (fun i wr => ∃ c : Nat, i = .int .i64 c ∧ c ≤ ks.length ∧ ∃ aX cX, After w3 (w.heap.size + 1 + 1) 1 (plN ll n : Int) s wr ∧ wr.heap[w.heap.size + 1 + 1]? = some (.cells #[.int .i64 1, .int .i64 (plN ll n : Int), .string s, .slice aX c cX] 24 (0, 0)) ∧ OwnTl wr w3.heap.size (w.heap.size + 1 + 1) (.slice aX c cX) (Tm.plcs ll (ks.take c))) (fun i _ => ks.length - (intOf i).toNat)
      case atStart => exact ⟨0, rfl, Nat.zero_le _, none, 0, HH.out.2.2.1, HH.out.2.2.2.2, by rw [List.take_zero, Tm.plcs_eq]; exact OwnTl.nil _ _ _⟩
      case round =>
        obtain ⟨c, rfl, hcl, aX, cX, hAf, hbB, hown⟩ := hrel
        have hw3 : Below w.heap.size w w3 := HH.out.2.1
        have hsz3 : w3.heap.size = w.heap.size + 1 + 1 + 1 := HH.out.1.1
        have hwr : Below w.heap.size w wr := hw3.trans (hAf.isBelow (by omega))
        have htb := (hAf.same w.heap.size (by omega) (by omega)).trans HH.out.2.2.2.1
        obtain ⟨t0, t1, t2, t3⟩ := tbox_cells htb
        have hltw : w.heap.size < wr.heap.size := by have := hAf.size; omega
        by_cases hlt : c < ks.length
        · obtain ⟨b, o, k1, n1, s1, a1, l1, c1, T1, rfl, hbn, e0, e1, e2, e3, hT1, ht1⟩ := IsTm.kid hv c hlt
          have q0 := (hwr.cell (p := ⟨b, o + c * 4, none⟩) hbn).trans e0
          have q1 := (hwr.cell (p := ⟨b, o + c * 4 + 1, none⟩) hbn).trans e1
          have q2 := (hwr.cell (p := ⟨b, o + c * 4 + 2, none⟩) hbn).trans e2
          have q3 := (hwr.cell (p := ⟨b, o + c * 4 + 3, none⟩) hbn).trans e3
          have hsz1 := Tm.size_le_sizes (List.mem_of_getElem? hT1)
          have hs0 := HH.out.1.2
          have p0 := (hw3.cell (p := ⟨b, o + c * 4, none⟩) hbn).trans e0
          have p1 := (hw3.cell (p := ⟨b, o + c * 4 + 1, none⟩) hbn).trans e1
          have p2 := (hw3.cell (p := ⟨b, o + c * 4 + 2, none⟩) hbn).trans e2
          have p3 := (hw3.cell (p := ⟨b, o + c * 4 + 3, none⟩) hbn).trans e3
          obtain ⟨u0, u1, u2, u3⟩ := tbox_cells HH.out.2.2.2.1
          have hnew : ∀ w', Below wr.heap.size wr w' → Calls Tryz.prog 12 #[.agg #[.int .i64 k1, .int .i64 n1, .string s1, .slice a1 l1 c1], .slice al ll.length cl] w' fun e w4 => ∃ k4 n4 s4 a4 l4 c4, e = .returned (.agg #[.int .i64 k4, .int .i64 n4, .string s4, .slice a4 l4 c4]) ∧ TmIn (fun b => wr.heap.size ≤ b ∧ b < w4.heap.size) w4 (.agg #[.int .i64 k4, .int .i64 n4, .string s4, .slice a4 l4 c4]) (T1.plc ll) ∧ Below wr.heap.size wr w4 := fun w' hb =>
            (ih T1 (List.mem_of_getElem? hT1) _ w' (IsTm.later (hwr.trans (hb.mono hwr.size)) (hwr.trans (hb.mono hwr.size)).size ht1) (by omega) (hL.below (hwr.trans (hb.mono hwr.size)))).mono fun e w4 h => by
              obtain ⟨r, rfl, hr, hb4⟩ := h
              obtain ⟨k4, n4, s4, a4, l4, c4, ks4, rfl, -⟩ := hr.form
              exact ⟨k4, n4, s4, a4, l4, c4, rfl, hr.carry (fun _ _ => rfl) (fun b hb' => ⟨Nat.le_trans hb.size hb'.1, hb'.2⟩), hb.trans (hb4.mono hb.size)⟩
          have hsucc : Tm.plcs ll (ks.take (c + 1)) = Tm.plcs ll (ks.take c) ++ [T1.plc ll] := by
            have e : ks.take (c + 1) = ks.take c ++ [T1] := by rw [List.take_add_one, hT1]; rfl
            rw [e, Tm.plcs_eq, Tm.plcs_eq, List.map_append]; rfl
          have hbne : b ≠ w.heap.size + 1 + 1 := by omega
          have HS : ∀ w', After w3 (w.heap.size + 1 + 1) 1 (plN ll n : Int) s w' → w'.cell? ⟨w.heap.size + 1 + 1, 3, none⟩ = some (.slice aX c cX) → (w'.cell? ⟨w.heap.size, 3, none⟩ = some (.slice (some ⟨b, o, none⟩) ks.length cap) ∧ w'.cell? ⟨b, o + c * 4, none⟩ = some (.int .i64 k1) ∧ w'.cell? ⟨b, o + c * 4 + 1, none⟩ = some (.int .i64 n1) ∧ w'.cell? ⟨b, o + c * 4 + 2, none⟩ = some (.string s1) ∧ w'.cell? ⟨b, o + c * 4 + 3, none⟩ = some (.slice a1 l1 c1) ∧ w'.cell? ⟨w.heap.size + 1 + 1, 3, none⟩ = some (.slice aX c cX) ∧ w'.frozen? ⟨w.heap.size + 1 + 1, 3, none⟩ = false ∧ After w3 (w.heap.size + 1 + 1) 1 (plN ll n : Int) s w') := fun w' h hc =>
            ⟨h.cell u3 (by omega), h.cell p0 hbne, h.cell p1 hbne, h.cell p2 hbne, h.cell p3 hbne, hc, h.some.2, h⟩
          have hAfB : ∀ w', Below wr.heap.size wr w' → After w3 (w.heap.size + 1 + 1) 1 (plN ll n : Int) s w' := fun w' h => hAf.below h
          have hll : (Tm.plcs ll (ks.take c)).length + [T1.plc ll].length ≤ 1000000000000 := by rw [Tm.plcs_eq, List.length_map, List.length_take]; simp; omega
          have hown' : ∀ (v : Value) w', v = .slice aX c cX → Below wr.heap.size wr w' → OwnTl w' w3.heap.size (w.heap.size + 1 + 1) v (Tm.plcs ll (ks.take c)) := fun v w' e hb => by
            rw [e]
            exact hown.kept hb.size (fun b' hb' _ => hb.block b' hb') (fun e' => by have := hown.lt _ e'; omega)
          have hlit : ∀ (v : Value) w4 k4 n4 s4 a4 l4 c4, v = .slice aX c cX → Below wr.heap.size wr w4 → TmIn (fun b => wr.heap.size ≤ b ∧ b < w4.heap.size) w4 (.agg #[.int .i64 k4, .int .i64 n4, .string s4, .slice a4 l4 c4]) (T1.plc ll) → TsIn (PvL (w4.alloc (.cells #[.int .i64 k4, .int .i64 n4, .string s4, .slice a4 l4 c4] 24)) w3.heap.size (w.heap.size + 1 + 1) v) (w4.alloc (.cells #[.int .i64 k4, .int .i64 n4, .string s4, .slice a4 l4 c4] 24)) (.slice (some ⟨w4.heap.size, 0, none⟩) 1 1) [T1.plc ll] := fun v w4 k4 n4 s4 a4 l4 c4 e hb hT => by
            have h3 := hAf.size
            have h4 := hb.size
            have hlt2 := hown.lt2
            have hblk : (w4.alloc (.cells #[.int .i64 k4, .int .i64 n4, .string s4, .slice a4 l4 c4] 24)).heap[w4.heap.size]? = some (.cells #[.int .i64 k4, .int .i64 n4, .string s4, .slice a4 l4 c4] 24 (0, 0)) := World.alloc_heap_new _ _
            obtain ⟨c0', c1', c2', c3'⟩ := tbox_cells hblk
            refine ⟨some ⟨w4.heap.size, 0, none⟩, 1, rfl, by simp, by unfold maxLen; omega, (fun h => by cases h), fun i hi => ?_⟩
            have hi' : i = 0 := by simp at hi; omega
            subst hi'
            exact ⟨w4.heap.size, 0, k4, n4, s4, a4, l4, c4, rfl, ⟨by simp, fun e' => by have := hlt2 _ (by rw [← e]; exact e'); omega, by omega, by omega⟩, c0', c1', c2', c3', hT.carry (fun b' hb' => Below.heap_alloc _ _ _ hb'.2) (fun b' hb' => ⟨by have := hb'.2; simp; omega, fun e' => by have := hlt2 _ (by rw [← e]; exact e'); have := hb'.1; omega, by have := hb'.1; omega, by have := hb'.1; omega⟩)⟩
          have hsz4 : ∀ w' (o' : Obj), Below wr.heap.size wr w' → w3.heap.size ≤ (w'.alloc o').heap.size ∧ w.heap.size + 1 + 1 < (w'.alloc o').heap.size := fun w' o' hb => by have h1 := hb.size; have h2 := hAf.size; simp; omega
          have hal : ∀ w' (o' : Obj), Below wr.heap.size wr w' → Below wr.heap.size wr (w'.alloc o') := fun w' o' h => h.alloc h.size o'
          have hlt3 : ∀ v : Value, v = .slice aX c cX → ∀ b', v.ownBlock = some b' → w3.heap.size ≤ b' := fun v e b' e' => hown.lt b' (by rw [← e]; exact e')
          have hdr : Below wr.heap.size wr wr.drew := (Below.refl _ _).drew
          have hcB : ∀ w', Below wr.heap.size wr w' → w'.cell? ⟨w.heap.size + 1 + 1, 3, none⟩ = some (.slice aX c cX) := fun w' h => (tbox_cells (tbox_below hbB h)).2.2.2
          have HSB := fun w' (h : Below wr.heap.size wr w') => HS w' (hAf.below h) (hcB w' h)
          have hgB := fun wx wB (h : Below wr.heap.size wr wx) (hg : wx.grownBy wB (Value.slice aX c cX).ownBlock) => HS wB (After.grown (hAf.below h) hg (hlt3 _ rfl)) ((World.cell?_of_block (a := ⟨w.heap.size + 1 + 1, 3, none⟩) (hg.block (w.heap.size + 1 + 1) (by have h1 := h.size; have h2 := hAf.size; omega) (fun e => by have := hlt3 _ rfl _ e.symm; omega))).trans (hcB wx h))
          have HA := Lib.hid (And.intro hAf (And.intro hsucc (And.intro hsz3 hbB)))
          have hlenX : (Tm.plcs ll (ks.take c) ++ [T1.plc ll]).length = c + 1 := by rw [Tm.plcs_eq, List.length_append, List.length_map, List.length_take]; simp; omega
          have HLX := Lib.hid hlenX
          clear hcB hsz3 hsucc hbB hown hAf hlenX e0 e1 e2 e3 p0 p1 p2 p3 u0 u1 u2 u3 t0 t1 t2 hsz1 hs0 hT1 ht1 ih hv htb hbne q0 q1 q2 q3
          go_wp2_with fail
          clear t3
          refine wp_region_noPanic ?_
          refine wp_region_last (S := (fun w' => w'.cell? ⟨w.heap.size, 3, none⟩ = some (.slice (some ⟨b, o, none⟩) ks.length cap) ∧ w'.cell? ⟨b, o + c * 4, none⟩ = some (.int .i64 k1) ∧ w'.cell? ⟨b, o + c * 4 + 1, none⟩ = some (.int .i64 n1) ∧ w'.cell? ⟨b, o + c * 4 + 2, none⟩ = some (.string s1) ∧ w'.cell? ⟨b, o + c * 4 + 3, none⟩ = some (.slice a1 l1 c1) ∧ w'.cell? ⟨w.heap.size + 1 + 1, 3, none⟩ = some (.slice aX c cX) ∧ w'.frozen? ⟨w.heap.size + 1 + 1, 3, none⟩ = false ∧ After w3 (w.heap.size + 1 + 1) 1 (plN ll n : Int) s w')) 12 (by kernel_rfl) (by kernel_rfl) (HSB _ hdr) (fun hHeld => ?_)
          simp only [List.take_succ_cons, List.take_zero]
          refine wpAnyH_take (i := 0) (v := ?vv1_0) rfl (by kernel_rfl) (by kernel_rfl) (by kernel_rfl) (fun _ _ _ h => h) (Or.inl ⟨by rfl, ?hy1_0⟩) hHeld ?rest1_0
          case hy1_0 =>
            intro w0 hSw
            (try dsimp only at hSw)
            go_simp
            try (with_reducible rfl)
          try simp only [Act.put, List.setIfInBounds_toArray, List.set_cons_zero, List.set_cons_succ]
          refine wpAnyH_take (i := 1) (v := ?vv1_1) rfl (by kernel_rfl) (by kernel_rfl) (by kernel_rfl) (fun _ _ _ h => h) (Or.inl ⟨by rfl, ?hy1_1⟩) hHeld ?rest1_1
          case hy1_1 =>
            intro w0 hSw
            (try dsimp only at hSw)
            go_simp
            try (with_reducible rfl)
          try simp only [Act.put, List.setIfInBounds_toArray, List.set_cons_zero, List.set_cons_succ]
          refine wpAnyH_take (i := 2) (v := ?vv1_2) rfl (by kernel_rfl) (by kernel_rfl) (by kernel_rfl) (fun _ _ _ h => h) (Or.inl ⟨by rfl, ?hy1_2⟩) hHeld ?rest1_2
          case hy1_2 =>
            intro w0 hSw
            (try dsimp only at hSw)
            go_simp
            try (with_reducible rfl)
          try simp only [Act.put, List.setIfInBounds_toArray, List.set_cons_zero, List.set_cons_succ]
          refine wpAnyH_take (i := 3) (v := ?vv1_3) rfl (by kernel_rfl) (by kernel_rfl) (by kernel_rfl) (fun _ _ _ h => h) (Or.inl ⟨by rfl, ?hy1_3⟩) hHeld ?rest1_3
          case hy1_3 =>
            intro w0 hSw
            (try dsimp only at hSw)
            go_simp
            try (with_reducible rfl)
          try simp only [Act.put, List.setIfInBounds_toArray, List.set_cons_zero, List.set_cons_succ]
          refine wpAnyH_take (i := 4) (v := ?vv1_4) rfl (by kernel_rfl) (by kernel_rfl) (by kernel_rfl) (fun _ _ _ h => h) (Or.inl ⟨by rfl, ?hy1_4⟩) hHeld ?rest1_4
          case hy1_4 =>
            intro w0 hSw
            (try dsimp only at hSw)
            go_simp
            try (with_reducible rfl)
          try simp only [Act.put, List.setIfInBounds_toArray, List.set_cons_zero, List.set_cons_succ]
          refine wpAnyH_take (i := 5) (v := ?vv1_5) rfl (by kernel_rfl) (by kernel_rfl) (by kernel_rfl) (fun _ _ _ h => h) (Or.inl ⟨by rfl, ?hy1_5⟩) hHeld ?rest1_5
          case hy1_5 =>
            intro w0 hSw
            (try dsimp only at hSw)
            go_simp
            try (with_reducible rfl)
          try simp only [Act.put, List.setIfInBounds_toArray, List.set_cons_zero, List.set_cons_succ]
          refine wpAnyH_take (i := 6) (v := ?vv1_6) rfl (by kernel_rfl) (by kernel_rfl) (by kernel_rfl) (fun _ _ _ h => h) (Or.inl ⟨by rfl, ?hy1_6⟩) hHeld ?rest1_6
          case hy1_6 =>
            intro w0 hSw
            (try dsimp only at hSw)
            go_simp
            try (with_reducible rfl)
          try simp only [Act.put, List.setIfInBounds_toArray, List.set_cons_zero, List.set_cons_succ]
          refine wpAnyH_take (i := 7) (v := ?vv1_7) rfl (by kernel_rfl) (by kernel_rfl) (by kernel_rfl) (fun _ _ _ h => h) (Or.inl ⟨by rfl, ?hy1_7⟩) hHeld ?rest1_7
          case hy1_7 =>
            intro w0 hSw
            (try dsimp only at hSw)
            go_simp
            try (with_reducible rfl)
          try simp only [Act.put, List.setIfInBounds_toArray, List.set_cons_zero, List.set_cons_succ]
          refine wpAnyH_ready (rs := [8]) (by kernel_rfl) (by simp) ?_
          refine AllReadyH.cons rfl (fun K hK => ?_) AllReadyH.nil
          go_simp
          with_reducible refine (hnew _ hdr).mono ?_
          rintro e w4 ⟨k4, n4, s4, a4, l4, c4, rfl, hT4, hb4⟩
          go_wp2_with fail
          refine hK.out _ _ (HSB _ hb4) (fun hHeld2 => ?_)
          clear hK K hHeld
          try simp only [Act.put, List.setIfInBounds_toArray, List.set_cons_zero, List.set_cons_succ]
          refine wpAnyH_ready (rs := [9]) (by kernel_rfl) (by simp) ?_
          refine AllReadyH.cons rfl (fun K hK => ?_) AllReadyH.nil
          go_simp
          refine hK.out _ _ (HSB _ (hal _ _ hb4)) (fun hHeld3 => ?_)
          clear hK K hHeld2
          try simp only [Act.put, List.setIfInBounds_toArray, List.set_cons_zero, List.set_cons_succ]
          refine wpAnyH_ready (rs := [10]) (by kernel_rfl) (by simp) ?_
          refine AllReadyH.cons rfl (fun K hK => ?_) AllReadyH.nil
          refine step_append_tl rfl (.tmp 30) (.tmp 38) rfl w3.heap.size (w.heap.size + 1 + 1) (.slice aX c cX) _ (Tm.plcs ll (ks.take c)) [T1.plc ll] rfl rfl (hown' _ _ rfl (hal _ _ hb4)) (hlit _ _ _ _ _ _ _ _ rfl hb4 hT4) hll (hsz4 _ _ hb4).1 (hsz4 _ _ hb4).2 ?_
          intro v2 wB ho2 hg2 hat2
          obtain ⟨a2', c2', e2⟩ := ho2.form
          rw [HLX.out] at e2
          subst e2
          have hSB := hgB _ wB (hal _ _ hb4) hg2
          refine hK.out _ _ hSB (fun hHeld4 => ?_)
          clear hK K hHeld3
          try simp only [Act.put, List.setIfInBounds_toArray, List.set_cons_zero, List.set_cons_succ]
          refine wpAnyH_take (i := 11) (v := ?vv1_11) rfl (by kernel_rfl) (by kernel_rfl) (by kernel_rfl) (fun _ _ _ h => h) (Or.inl ⟨by rfl, ?hy1_11⟩) hHeld4 ?rest1_11
          case hy1_11 =>
            intro w0 hSw
            (try dsimp only at hSw)
            go_simp
            try (with_reducible rfl)
          try simp only [Act.put, List.setIfInBounds_toArray, List.set_cons_zero, List.set_cons_succ]
          refine wpAnyH_done (by kernel_rfl) ?_ _
          refine last_of_list rfl ?_
          clear hHeld4
          have hAf5 := hSB.2.2.2.2.2.2.2
          obtain ⟨-, -, -, -, -, r5, r6, -⟩ := hSB
          go_wp2_with fail
          refine NoPanic.normal ?_
          all_goals
            have hAf6 : After w3 (w.heap.size + 1 + 1) 1 (plN ll n : Int) s (wB.setCell ⟨w.heap.size + 1 + 1, 3, none⟩ (.slice a2' (c + 1) c2')) := hAf5.set _
            have hz6 : (wB.setCell ⟨w.heap.size + 1 + 1, 3, none⟩ (.slice a2' (c + 1) c2')).heap[w.heap.size + 1 + 1]? = some (.cells #[.int .i64 1, .int .i64 (plN ll n : Int), .string s, .slice a2' (c + 1) c2'] 24 (0, 0)) := by
              obtain ⟨v0, hv0⟩ := hAf6.box
              rw [hv0, set_inv9 hv0]
            have ho6 : OwnTl (wB.setCell ⟨w.heap.size + 1 + 1, 3, none⟩ (.slice a2' (c + 1) c2')) w3.heap.size (w.heap.size + 1 + 1) (.slice a2' (c + 1) c2') (Tm.plcs ll (ks.take c) ++ [T1.plc ll]) :=
              ho2.kept (by simp) (fun b' _ hb' => Below.heap_setCell wB ⟨w.heap.size + 1 + 1, 3, none⟩ _ b' hb') (fun e' => by have := ho2.lt _ e'; have := HA.out.2.2.1; omega)
            rw [← HA.out.2.1] at ho6
            have H6 := Lib.hid (And.intro hAf6 (And.intro hz6 ho6))
            clear hAf6 hz6 ho6 ho2 hg2 hat2 hown' hlit hnew HS HSB hgB hAf5 r5 r6 hAfB hsz4 hal hlt3 hdr hb4 hT4
            generalize hW6 : (wB.setCell ⟨w.heap.size + 1 + 1, 3, none⟩ (.slice a2' (c + 1) c2')) = w6 at H6 ⊢
            clear hW6
            go_wp2_with fail
            go_roundw
            case rel => exact ⟨c + 1, by simp, hlt, a2', c2', H6.out.1, H6.out.2.1, H6.out.2.2⟩
            case measure => simp [intOf]; omega
        · have hce : c = ks.length := by omega
          subst hce
          rw [List.take_length] at hown
          have y2 := (hAf.same (w.heap.size + 1) (by omega) (by omega)).trans HX2.out
          obtain ⟨x0, x1, x2, x3⟩ := tbox_cells y2
          have xf : ∀ j, wr.frozen? ⟨w.heap.size + 1, j, none⟩ = false := fun j => by simp [World.frozen?, y2]
          obtain ⟨z0, z1, z2, z3⟩ := tbox_cells hbB
          have HE := Lib.hid (And.intro hown (And.intro hwr (And.intro y2 (And.intro hsz3 hAf.size))))
          clear hown hwr y2 hsz3 hAf hbB ih hv htb
          go_wp2_with fail
          obtain ⟨hown, hwr, y2, hsz3, hsz⟩ := HE.out
          have hb5 := four_block y2 (.int .i64 1) (.int .i64 (plN ll n : Int)) (.string s) (.slice aX ks.length cX)
          have ho5 : ∀ b, w3.heap.size ≤ b → ((((wr.setCell ⟨w.heap.size + 1, 0, none⟩ (.int .i64 1)).setCell ⟨w.heap.size + 1, 1, none⟩ (.int .i64 (plN ll n : Int))).setCell ⟨w.heap.size + 1, 2, none⟩ (.string s)).setCell ⟨w.heap.size + 1, 3, none⟩ (.slice aX ks.length cX)).heap[b]? = wr.heap[b]? := fun b hb => by
            rw [Below.heap_setCell _ _ _ _ (by simp; omega), Below.heap_setCell _ _ _ _ (by simp; omega), Below.heap_setCell _ _ _ _ (by simp; omega), Below.heap_setCell _ _ _ _ (by simp; omega)]
          have hB5 := (((hwr.setCell (p := ⟨w.heap.size + 1, 0, none⟩) (Nat.le_succ _) (.int .i64 1)).setCell (p := ⟨w.heap.size + 1, 1, none⟩) (Nat.le_succ _) (.int .i64 (plN ll n : Int))).setCell (p := ⟨w.heap.size + 1, 2, none⟩) (Nat.le_succ _) (.string s)).setCell (p := ⟨w.heap.size + 1, 3, none⟩) (Nat.le_succ _) (.slice aX ks.length cX)
          have hs5 : ((((wr.setCell ⟨w.heap.size + 1, 0, none⟩ (.int .i64 1)).setCell ⟨w.heap.size + 1, 1, none⟩ (.int .i64 (plN ll n : Int))).setCell ⟨w.heap.size + 1, 2, none⟩ (.string s)).setCell ⟨w.heap.size + 1, 3, none⟩ (.slice aX ks.length cX)).heap.size = wr.heap.size := by simp
          generalize ((((wr.setCell ⟨w.heap.size + 1, 0, none⟩ (.int .i64 1)).setCell ⟨w.heap.size + 1, 1, none⟩ (.int .i64 (plN ll n : Int))).setCell ⟨w.heap.size + 1, 2, none⟩ (.string s)).setCell ⟨w.heap.size + 1, 3, none⟩ (.slice aX ks.length cX)) = w5 at hb5 ho5 hB5 hs5 ⊢
          obtain ⟨f0, f1, f2, f3⟩ := tbox_cells hb5
          refine bodyPost_ret (v := .agg #[.int .i64 1, .int .i64 (plN ll n : Int), .string s, .slice aX ks.length cX]) (by simp [results, Tryz.f12, go_sem, f0, f1, f2, f3]) rfl ?_
          exact ⟨_, rfl, (hown.ts.carry (q := fun b => w.heap.size ≤ b ∧ b < w5.heap.size) (fun b hb => ho5 b hb.1) (fun b hb => ⟨by have := hb.1; omega, by rw [hs5]; exact hb.2⟩)).term hk (plN_ok ll n hll1) hs', hB5⟩
    · have hkb : (k == 1) = false := by simpa using h1
      rw [if_neg h1]
      obtain ⟨w3, hw3⟩ : ∃ w3, w3 = (((w.alloc (.cells #[.int .i64 k, .int .i64 n, .string s, .slice a ks.length cap] 24)).alloc (.cells #[.int .i64 0, .int .i64 0, .string (ByteArray.mk #[]), .slice none 0 0] 24)).alloc (.cells #[.int .i64 k, .int .i64 n, .string s, .slice none 0 0] 24)) := ⟨_, rfl⟩
      have hB3 : Below w.heap.size w w3 := by rw [hw3]; exact (((Below.refl _ w).alloc (Nat.le_refl _) _).alloc (by simp) _).alloc (by simp; omega) _
      have hsz3 : w3.heap.size = w.heap.size + 1 + 1 + 1 := by rw [hw3]; simp
      have hx1 : w3.heap[w.heap.size]? = some (.cells #[.int .i64 k, .int .i64 n, .string s, .slice a ks.length cap] 24 (0, 0)) := by rw [hw3]; exact ((Below.heap_alloc _ _ _ (by simp; omega)).trans (Below.heap_alloc _ _ _ (by simp))).trans (World.alloc_heap_new _ _)
      have hx3 : w3.heap[w.heap.size + 1 + 1]? = some (.cells #[.int .i64 k, .int .i64 n, .string s, .slice none 0 0] 24 (0, 0)) := by rw [hw3]; simpa using World.alloc_heap_new ((w.alloc (.cells #[.int .i64 k, .int .i64 n, .string s, .slice a ks.length cap] 24)).alloc (.cells #[.int .i64 0, .int .i64 0, .string (ByteArray.mk #[]), .slice none 0 0] 24)) (.cells #[.int .i64 k, .int .i64 n, .string s, .slice none 0 0] 24)
      have hx2 : w3.heap[w.heap.size + 1]? = some (.cells #[.int .i64 0, .int .i64 0, .string (ByteArray.mk #[]), .slice none 0 0] 24 (0, 0)) := by rw [hw3]; refine (Below.heap_alloc _ _ _ (by simp)).trans ?_; simpa using World.alloc_heap_new (w.alloc (.cells #[.int .i64 k, .int .i64 n, .string s, .slice a ks.length cap] 24)) (.cells #[.int .i64 0, .int .i64 0, .string (ByteArray.mk #[]), .slice none 0 0] 24)
      have hAf3 : After w3 (w.heap.size + 1 + 1) k n s w3 := ⟨rfl, rfl, rfl, Nat.le_refl _, fun _ _ _ => rfl, ⟨_, hx3⟩, by omega⟩
      have HH := Lib.hid (And.intro (And.intro hsz3 hs) (And.intro hB3 (And.intro hAf3 (And.intro hx1 hx3))))
      have HX2 := Lib.hid hx2
      have HW3 := Lib.hid hw3
      clear hs hw3 hB3 hsz3 hx1 hx2 hx3 hAf3
      go_enter Tryz.func12, Tryz.ntmps12
      go_wp2_with fail
      rw [← HW3.out]
      go_loopw [6] (fun i wr => ∃ c : Nat, i = .int .i64 c ∧ c ≤ ks.length ∧ ∃ aX cX, After w3 (w.heap.size + 1 + 1) k n s wr ∧ wr.heap[w.heap.size + 1 + 1]? = some (.cells #[.int .i64 k, .int .i64 n, .string s, .slice aX c cX] 24 (0, 0)) ∧ OwnTl wr w3.heap.size (w.heap.size + 1 + 1) (.slice aX c cX) (Tm.plcs ll (ks.take c))) (fun i _ => ks.length - (intOf i).toNat)
      case atStart => exact ⟨0, rfl, Nat.zero_le _, none, 0, HH.out.2.2.1, HH.out.2.2.2.2, by rw [List.take_zero, Tm.plcs_eq]; exact OwnTl.nil _ _ _⟩
      case round =>
        obtain ⟨c, rfl, hcl, aX, cX, hAf, hbB, hown⟩ := hrel
        have hw3 : Below w.heap.size w w3 := HH.out.2.1
        have hsz3 : w3.heap.size = w.heap.size + 1 + 1 + 1 := HH.out.1.1
        have hwr : Below w.heap.size w wr := hw3.trans (hAf.isBelow (by omega))
        have htb := (hAf.same w.heap.size (by omega) (by omega)).trans HH.out.2.2.2.1
        obtain ⟨t0, t1, t2, t3⟩ := tbox_cells htb
        have hltw : w.heap.size < wr.heap.size := by have := hAf.size; omega
        by_cases hlt : c < ks.length
        · obtain ⟨b, o, k1, n1, s1, a1, l1, c1, T1, rfl, hbn, e0, e1, e2, e3, hT1, ht1⟩ := IsTm.kid hv c hlt
          have q0 := (hwr.cell (p := ⟨b, o + c * 4, none⟩) hbn).trans e0
          have q1 := (hwr.cell (p := ⟨b, o + c * 4 + 1, none⟩) hbn).trans e1
          have q2 := (hwr.cell (p := ⟨b, o + c * 4 + 2, none⟩) hbn).trans e2
          have q3 := (hwr.cell (p := ⟨b, o + c * 4 + 3, none⟩) hbn).trans e3
          have hsz1 := Tm.size_le_sizes (List.mem_of_getElem? hT1)
          have hs0 := HH.out.1.2
          have p0 := (hw3.cell (p := ⟨b, o + c * 4, none⟩) hbn).trans e0
          have p1 := (hw3.cell (p := ⟨b, o + c * 4 + 1, none⟩) hbn).trans e1
          have p2 := (hw3.cell (p := ⟨b, o + c * 4 + 2, none⟩) hbn).trans e2
          have p3 := (hw3.cell (p := ⟨b, o + c * 4 + 3, none⟩) hbn).trans e3
          obtain ⟨u0, u1, u2, u3⟩ := tbox_cells HH.out.2.2.2.1
          have hnew : ∀ w', Below wr.heap.size wr w' → Calls Tryz.prog 12 #[.agg #[.int .i64 k1, .int .i64 n1, .string s1, .slice a1 l1 c1], .slice al ll.length cl] w' fun e w4 => ∃ k4 n4 s4 a4 l4 c4, e = .returned (.agg #[.int .i64 k4, .int .i64 n4, .string s4, .slice a4 l4 c4]) ∧ TmIn (fun b => wr.heap.size ≤ b ∧ b < w4.heap.size) w4 (.agg #[.int .i64 k4, .int .i64 n4, .string s4, .slice a4 l4 c4]) (T1.plc ll) ∧ Below wr.heap.size wr w4 := fun w' hb =>
            (ih T1 (List.mem_of_getElem? hT1) _ w' (IsTm.later (hwr.trans (hb.mono hwr.size)) (hwr.trans (hb.mono hwr.size)).size ht1) (by omega) (hL.below (hwr.trans (hb.mono hwr.size)))).mono fun e w4 h => by
              obtain ⟨r, rfl, hr, hb4⟩ := h
              obtain ⟨k4, n4, s4, a4, l4, c4, ks4, rfl, -⟩ := hr.form
              exact ⟨k4, n4, s4, a4, l4, c4, rfl, hr.carry (fun _ _ => rfl) (fun b hb' => ⟨Nat.le_trans hb.size hb'.1, hb'.2⟩), hb.trans (hb4.mono hb.size)⟩
          have hsucc : Tm.plcs ll (ks.take (c + 1)) = Tm.plcs ll (ks.take c) ++ [T1.plc ll] := by
            have e : ks.take (c + 1) = ks.take c ++ [T1] := by rw [List.take_add_one, hT1]; rfl
            rw [e, Tm.plcs_eq, Tm.plcs_eq, List.map_append]; rfl
          have hbne : b ≠ w.heap.size + 1 + 1 := by omega
          have HS : ∀ w', After w3 (w.heap.size + 1 + 1) k n s w' → w'.cell? ⟨w.heap.size + 1 + 1, 3, none⟩ = some (.slice aX c cX) → (w'.cell? ⟨w.heap.size, 3, none⟩ = some (.slice (some ⟨b, o, none⟩) ks.length cap) ∧ w'.cell? ⟨b, o + c * 4, none⟩ = some (.int .i64 k1) ∧ w'.cell? ⟨b, o + c * 4 + 1, none⟩ = some (.int .i64 n1) ∧ w'.cell? ⟨b, o + c * 4 + 2, none⟩ = some (.string s1) ∧ w'.cell? ⟨b, o + c * 4 + 3, none⟩ = some (.slice a1 l1 c1) ∧ w'.cell? ⟨w.heap.size + 1 + 1, 3, none⟩ = some (.slice aX c cX) ∧ w'.frozen? ⟨w.heap.size + 1 + 1, 3, none⟩ = false ∧ After w3 (w.heap.size + 1 + 1) k n s w') := fun w' h hc =>
            ⟨h.cell u3 (by omega), h.cell p0 hbne, h.cell p1 hbne, h.cell p2 hbne, h.cell p3 hbne, hc, h.some.2, h⟩
          have hAfB : ∀ w', Below wr.heap.size wr w' → After w3 (w.heap.size + 1 + 1) k n s w' := fun w' h => hAf.below h
          have hll : (Tm.plcs ll (ks.take c)).length + [T1.plc ll].length ≤ 1000000000000 := by rw [Tm.plcs_eq, List.length_map, List.length_take]; simp; omega
          have hown' : ∀ (v : Value) w', v = .slice aX c cX → Below wr.heap.size wr w' → OwnTl w' w3.heap.size (w.heap.size + 1 + 1) v (Tm.plcs ll (ks.take c)) := fun v w' e hb => by
            rw [e]
            exact hown.kept hb.size (fun b' hb' _ => hb.block b' hb') (fun e' => by have := hown.lt _ e'; omega)
          have hlit : ∀ (v : Value) w4 k4 n4 s4 a4 l4 c4, v = .slice aX c cX → Below wr.heap.size wr w4 → TmIn (fun b => wr.heap.size ≤ b ∧ b < w4.heap.size) w4 (.agg #[.int .i64 k4, .int .i64 n4, .string s4, .slice a4 l4 c4]) (T1.plc ll) → TsIn (PvL (w4.alloc (.cells #[.int .i64 k4, .int .i64 n4, .string s4, .slice a4 l4 c4] 24)) w3.heap.size (w.heap.size + 1 + 1) v) (w4.alloc (.cells #[.int .i64 k4, .int .i64 n4, .string s4, .slice a4 l4 c4] 24)) (.slice (some ⟨w4.heap.size, 0, none⟩) 1 1) [T1.plc ll] := fun v w4 k4 n4 s4 a4 l4 c4 e hb hT => by
            have h3 := hAf.size
            have h4 := hb.size
            have hlt2 := hown.lt2
            have hblk : (w4.alloc (.cells #[.int .i64 k4, .int .i64 n4, .string s4, .slice a4 l4 c4] 24)).heap[w4.heap.size]? = some (.cells #[.int .i64 k4, .int .i64 n4, .string s4, .slice a4 l4 c4] 24 (0, 0)) := World.alloc_heap_new _ _
            obtain ⟨c0', c1', c2', c3'⟩ := tbox_cells hblk
            refine ⟨some ⟨w4.heap.size, 0, none⟩, 1, rfl, by simp, by unfold maxLen; omega, (fun h => by cases h), fun i hi => ?_⟩
            have hi' : i = 0 := by simp at hi; omega
            subst hi'
            exact ⟨w4.heap.size, 0, k4, n4, s4, a4, l4, c4, rfl, ⟨by simp, fun e' => by have := hlt2 _ (by rw [← e]; exact e'); omega, by omega, by omega⟩, c0', c1', c2', c3', hT.carry (fun b' hb' => Below.heap_alloc _ _ _ hb'.2) (fun b' hb' => ⟨by have := hb'.2; simp; omega, fun e' => by have := hlt2 _ (by rw [← e]; exact e'); have := hb'.1; omega, by have := hb'.1; omega, by have := hb'.1; omega⟩)⟩
          have hsz4 : ∀ w' (o' : Obj), Below wr.heap.size wr w' → w3.heap.size ≤ (w'.alloc o').heap.size ∧ w.heap.size + 1 + 1 < (w'.alloc o').heap.size := fun w' o' hb => by have h1 := hb.size; have h2 := hAf.size; simp; omega
          have hal : ∀ w' (o' : Obj), Below wr.heap.size wr w' → Below wr.heap.size wr (w'.alloc o') := fun w' o' h => h.alloc h.size o'
          have hlt3 : ∀ v : Value, v = .slice aX c cX → ∀ b', v.ownBlock = some b' → w3.heap.size ≤ b' := fun v e b' e' => hown.lt b' (by rw [← e]; exact e')
          have hdr : Below wr.heap.size wr wr.drew := (Below.refl _ _).drew
          have hcB : ∀ w', Below wr.heap.size wr w' → w'.cell? ⟨w.heap.size + 1 + 1, 3, none⟩ = some (.slice aX c cX) := fun w' h => (tbox_cells (tbox_below hbB h)).2.2.2
          have HSB := fun w' (h : Below wr.heap.size wr w') => HS w' (hAf.below h) (hcB w' h)
          have hgB := fun wx wB (h : Below wr.heap.size wr wx) (hg : wx.grownBy wB (Value.slice aX c cX).ownBlock) => HS wB (After.grown (hAf.below h) hg (hlt3 _ rfl)) ((World.cell?_of_block (a := ⟨w.heap.size + 1 + 1, 3, none⟩) (hg.block (w.heap.size + 1 + 1) (by have h1 := h.size; have h2 := hAf.size; omega) (fun e => by have := hlt3 _ rfl _ e.symm; omega))).trans (hcB wx h))
          have HA := Lib.hid (And.intro hAf (And.intro hsucc (And.intro hsz3 hbB)))
          have hlenX : (Tm.plcs ll (ks.take c) ++ [T1.plc ll]).length = c + 1 := by rw [Tm.plcs_eq, List.length_append, List.length_map, List.length_take]; simp; omega
          have HLX := Lib.hid hlenX
          clear hcB hsz3 hsucc hbB hown hAf hlenX e0 e1 e2 e3 p0 p1 p2 p3 u0 u1 u2 u3 t0 t1 t2 hsz1 hs0 hT1 ht1 ih hv htb hbne q0 q1 q2 q3
          go_wp2_with fail
          clear t3
          refine wp_region_noPanic ?_
          refine wp_region_last (S := (fun w' => w'.cell? ⟨w.heap.size, 3, none⟩ = some (.slice (some ⟨b, o, none⟩) ks.length cap) ∧ w'.cell? ⟨b, o + c * 4, none⟩ = some (.int .i64 k1) ∧ w'.cell? ⟨b, o + c * 4 + 1, none⟩ = some (.int .i64 n1) ∧ w'.cell? ⟨b, o + c * 4 + 2, none⟩ = some (.string s1) ∧ w'.cell? ⟨b, o + c * 4 + 3, none⟩ = some (.slice a1 l1 c1) ∧ w'.cell? ⟨w.heap.size + 1 + 1, 3, none⟩ = some (.slice aX c cX) ∧ w'.frozen? ⟨w.heap.size + 1 + 1, 3, none⟩ = false ∧ After w3 (w.heap.size + 1 + 1) k n s w')) 12 (by kernel_rfl) (by kernel_rfl) (HSB _ hdr) (fun hHeld => ?_)
          simp only [List.take_succ_cons, List.take_zero]
          refine wpAnyH_take (i := 0) (v := ?vvk_0) rfl (by kernel_rfl) (by kernel_rfl) (by kernel_rfl) (fun _ _ _ h => h) (Or.inl ⟨by rfl, ?hyk_0⟩) hHeld ?restk_0
          case hyk_0 =>
            intro w0 hSw
            (try dsimp only at hSw)
            go_simp
            try (with_reducible rfl)
          try simp only [Act.put, List.setIfInBounds_toArray, List.set_cons_zero, List.set_cons_succ]
          refine wpAnyH_take (i := 1) (v := ?vvk_1) rfl (by kernel_rfl) (by kernel_rfl) (by kernel_rfl) (fun _ _ _ h => h) (Or.inl ⟨by rfl, ?hyk_1⟩) hHeld ?restk_1
          case hyk_1 =>
            intro w0 hSw
            (try dsimp only at hSw)
            go_simp
            try (with_reducible rfl)
          try simp only [Act.put, List.setIfInBounds_toArray, List.set_cons_zero, List.set_cons_succ]
          refine wpAnyH_take (i := 2) (v := ?vvk_2) rfl (by kernel_rfl) (by kernel_rfl) (by kernel_rfl) (fun _ _ _ h => h) (Or.inl ⟨by rfl, ?hyk_2⟩) hHeld ?restk_2
          case hyk_2 =>
            intro w0 hSw
            (try dsimp only at hSw)
            go_simp
            try (with_reducible rfl)
          try simp only [Act.put, List.setIfInBounds_toArray, List.set_cons_zero, List.set_cons_succ]
          refine wpAnyH_take (i := 3) (v := ?vvk_3) rfl (by kernel_rfl) (by kernel_rfl) (by kernel_rfl) (fun _ _ _ h => h) (Or.inl ⟨by rfl, ?hyk_3⟩) hHeld ?restk_3
          case hyk_3 =>
            intro w0 hSw
            (try dsimp only at hSw)
            go_simp
            try (with_reducible rfl)
          try simp only [Act.put, List.setIfInBounds_toArray, List.set_cons_zero, List.set_cons_succ]
          refine wpAnyH_take (i := 4) (v := ?vvk_4) rfl (by kernel_rfl) (by kernel_rfl) (by kernel_rfl) (fun _ _ _ h => h) (Or.inl ⟨by rfl, ?hyk_4⟩) hHeld ?restk_4
          case hyk_4 =>
            intro w0 hSw
            (try dsimp only at hSw)
            go_simp
            try (with_reducible rfl)
          try simp only [Act.put, List.setIfInBounds_toArray, List.set_cons_zero, List.set_cons_succ]
          refine wpAnyH_take (i := 5) (v := ?vvk_5) rfl (by kernel_rfl) (by kernel_rfl) (by kernel_rfl) (fun _ _ _ h => h) (Or.inl ⟨by rfl, ?hyk_5⟩) hHeld ?restk_5
          case hyk_5 =>
            intro w0 hSw
            (try dsimp only at hSw)
            go_simp
            try (with_reducible rfl)
          try simp only [Act.put, List.setIfInBounds_toArray, List.set_cons_zero, List.set_cons_succ]
          refine wpAnyH_take (i := 6) (v := ?vvk_6) rfl (by kernel_rfl) (by kernel_rfl) (by kernel_rfl) (fun _ _ _ h => h) (Or.inl ⟨by rfl, ?hyk_6⟩) hHeld ?restk_6
          case hyk_6 =>
            intro w0 hSw
            (try dsimp only at hSw)
            go_simp
            try (with_reducible rfl)
          try simp only [Act.put, List.setIfInBounds_toArray, List.set_cons_zero, List.set_cons_succ]
          refine wpAnyH_take (i := 7) (v := ?vvk_7) rfl (by kernel_rfl) (by kernel_rfl) (by kernel_rfl) (fun _ _ _ h => h) (Or.inl ⟨by rfl, ?hyk_7⟩) hHeld ?restk_7
          case hyk_7 =>
            intro w0 hSw
            (try dsimp only at hSw)
            go_simp
            try (with_reducible rfl)
          try simp only [Act.put, List.setIfInBounds_toArray, List.set_cons_zero, List.set_cons_succ]
          refine wpAnyH_ready (rs := [8]) (by kernel_rfl) (by simp) ?_
          refine AllReadyH.cons rfl (fun K hK => ?_) AllReadyH.nil
          go_simp
          with_reducible refine (hnew _ hdr).mono ?_
          rintro e w4 ⟨k4, n4, s4, a4, l4, c4, rfl, hT4, hb4⟩
          go_wp2_with fail
          refine hK.out _ _ (HSB _ hb4) (fun hHeld2 => ?_)
          clear hK K hHeld
          try simp only [Act.put, List.setIfInBounds_toArray, List.set_cons_zero, List.set_cons_succ]
          refine wpAnyH_ready (rs := [9]) (by kernel_rfl) (by simp) ?_
          refine AllReadyH.cons rfl (fun K hK => ?_) AllReadyH.nil
          go_simp
          refine hK.out _ _ (HSB _ (hal _ _ hb4)) (fun hHeld3 => ?_)
          clear hK K hHeld2
          try simp only [Act.put, List.setIfInBounds_toArray, List.set_cons_zero, List.set_cons_succ]
          refine wpAnyH_ready (rs := [10]) (by kernel_rfl) (by simp) ?_
          refine AllReadyH.cons rfl (fun K hK => ?_) AllReadyH.nil
          refine step_append_tl rfl (.tmp 30) (.tmp 38) rfl w3.heap.size (w.heap.size + 1 + 1) (.slice aX c cX) _ (Tm.plcs ll (ks.take c)) [T1.plc ll] rfl rfl (hown' _ _ rfl (hal _ _ hb4)) (hlit _ _ _ _ _ _ _ _ rfl hb4 hT4) hll (hsz4 _ _ hb4).1 (hsz4 _ _ hb4).2 ?_
          intro v2 wB ho2 hg2 hat2
          obtain ⟨a2', c2', e2⟩ := ho2.form
          rw [HLX.out] at e2
          subst e2
          have hSB := hgB _ wB (hal _ _ hb4) hg2
          refine hK.out _ _ hSB (fun hHeld4 => ?_)
          clear hK K hHeld3
          try simp only [Act.put, List.setIfInBounds_toArray, List.set_cons_zero, List.set_cons_succ]
          refine wpAnyH_take (i := 11) (v := ?vvk_11) rfl (by kernel_rfl) (by kernel_rfl) (by kernel_rfl) (fun _ _ _ h => h) (Or.inl ⟨by rfl, ?hyk_11⟩) hHeld4 ?restk_11
          case hyk_11 =>
            intro w0 hSw
            (try dsimp only at hSw)
            go_simp
            try (with_reducible rfl)
          try simp only [Act.put, List.setIfInBounds_toArray, List.set_cons_zero, List.set_cons_succ]
          refine wpAnyH_done (by kernel_rfl) ?_ _
          refine last_of_list rfl ?_
          clear hHeld4
          have hAf5 := hSB.2.2.2.2.2.2.2
          obtain ⟨-, -, -, -, -, r5, r6, -⟩ := hSB
          go_wp2_with fail
          refine NoPanic.normal ?_
          all_goals
            have hAf6 : After w3 (w.heap.size + 1 + 1) k n s (wB.setCell ⟨w.heap.size + 1 + 1, 3, none⟩ (.slice a2' (c + 1) c2')) := hAf5.set _
            have hz6 : (wB.setCell ⟨w.heap.size + 1 + 1, 3, none⟩ (.slice a2' (c + 1) c2')).heap[w.heap.size + 1 + 1]? = some (.cells #[.int .i64 k, .int .i64 n, .string s, .slice a2' (c + 1) c2'] 24 (0, 0)) := by
              obtain ⟨v0, hv0⟩ := hAf6.box
              rw [hv0, set_inv9 hv0]
            have ho6 : OwnTl (wB.setCell ⟨w.heap.size + 1 + 1, 3, none⟩ (.slice a2' (c + 1) c2')) w3.heap.size (w.heap.size + 1 + 1) (.slice a2' (c + 1) c2') (Tm.plcs ll (ks.take c) ++ [T1.plc ll]) :=
              ho2.kept (by simp) (fun b' _ hb' => Below.heap_setCell wB ⟨w.heap.size + 1 + 1, 3, none⟩ _ b' hb') (fun e' => by have := ho2.lt _ e'; have := HA.out.2.2.1; omega)
            rw [← HA.out.2.1] at ho6
            have H6 := Lib.hid (And.intro hAf6 (And.intro hz6 ho6))
            clear hAf6 hz6 ho6 ho2 hg2 hat2 hown' hlit hnew HS HSB hgB hAf5 r5 r6 hAfB hsz4 hal hlt3 hdr hb4 hT4
            generalize hW6 : (wB.setCell ⟨w.heap.size + 1 + 1, 3, none⟩ (.slice a2' (c + 1) c2')) = w6 at H6 ⊢
            clear hW6
            go_wp2_with fail
            go_roundw
            case rel => exact ⟨c + 1, by simp, hlt, a2', c2', H6.out.1, H6.out.2.1, H6.out.2.2⟩
            case measure => simp [intOf]; omega
        · have hce : c = ks.length := by omega
          subst hce
          rw [List.take_length] at hown
          have y2 := (hAf.same (w.heap.size + 1) (by omega) (by omega)).trans HX2.out
          obtain ⟨x0, x1, x2, x3⟩ := tbox_cells y2
          have xf : ∀ j, wr.frozen? ⟨w.heap.size + 1, j, none⟩ = false := fun j => by simp [World.frozen?, y2]
          obtain ⟨z0, z1, z2, z3⟩ := tbox_cells hbB
          have HE := Lib.hid (And.intro hown (And.intro hwr (And.intro y2 (And.intro hsz3 hAf.size))))
          clear hown hwr y2 hsz3 hAf hbB ih hv htb
          go_wp2_with fail
          obtain ⟨hown, hwr, y2, hsz3, hsz⟩ := HE.out
          have hb5 := four_block y2 (.int .i64 k) (.int .i64 n) (.string s) (.slice aX ks.length cX)
          have ho5 : ∀ b, w3.heap.size ≤ b → ((((wr.setCell ⟨w.heap.size + 1, 0, none⟩ (.int .i64 k)).setCell ⟨w.heap.size + 1, 1, none⟩ (.int .i64 n)).setCell ⟨w.heap.size + 1, 2, none⟩ (.string s)).setCell ⟨w.heap.size + 1, 3, none⟩ (.slice aX ks.length cX)).heap[b]? = wr.heap[b]? := fun b hb => by
            rw [Below.heap_setCell _ _ _ _ (by simp; omega), Below.heap_setCell _ _ _ _ (by simp; omega), Below.heap_setCell _ _ _ _ (by simp; omega), Below.heap_setCell _ _ _ _ (by simp; omega)]
          have hB5 := (((hwr.setCell (p := ⟨w.heap.size + 1, 0, none⟩) (Nat.le_succ _) (.int .i64 k)).setCell (p := ⟨w.heap.size + 1, 1, none⟩) (Nat.le_succ _) (.int .i64 n)).setCell (p := ⟨w.heap.size + 1, 2, none⟩) (Nat.le_succ _) (.string s)).setCell (p := ⟨w.heap.size + 1, 3, none⟩) (Nat.le_succ _) (.slice aX ks.length cX)
          have hs5 : ((((wr.setCell ⟨w.heap.size + 1, 0, none⟩ (.int .i64 k)).setCell ⟨w.heap.size + 1, 1, none⟩ (.int .i64 n)).setCell ⟨w.heap.size + 1, 2, none⟩ (.string s)).setCell ⟨w.heap.size + 1, 3, none⟩ (.slice aX ks.length cX)).heap.size = wr.heap.size := by simp
          generalize ((((wr.setCell ⟨w.heap.size + 1, 0, none⟩ (.int .i64 k)).setCell ⟨w.heap.size + 1, 1, none⟩ (.int .i64 n)).setCell ⟨w.heap.size + 1, 2, none⟩ (.string s)).setCell ⟨w.heap.size + 1, 3, none⟩ (.slice aX ks.length cX)) = w5 at hb5 ho5 hB5 hs5 ⊢
          obtain ⟨f0, f1, f2, f3⟩ := tbox_cells hb5
          refine bodyPost_ret (v := .agg #[.int .i64 k, .int .i64 n, .string s, .slice aX ks.length cX]) (by simp [results, Tryz.f12, go_sem, f0, f1, f2, f3]) rfl ?_
          exact ⟨_, rfl, (hown.ts.carry (q := fun b => w.heap.size ≤ b ∧ b < w5.heap.size) (fun b hb => ho5 b hb.1) (fun b hb => ⟨by have := hb.1; omega, by rw [hs5]; exact hb.2⟩)).term hk hn hs', hB5⟩

end Go.Proofs.YtfencolokfghfaaGreatDoor
