/-
  What a text's tokens are, apart from memory: bytes by their kinds, what is skipped, the token that a text begins with, all tokens.
-/
import Derived.Lib.ParseIntB
import Derived.Lib.Bytealg
import Derived.WalkKit
namespace Go.Proofs.YtfencolokfghfaaGreatDoor
open Go.RowKit
set_option linter.unusedVariables false

def spanB (a b : Nat) (c : UInt8) : Bool := decide (a ≤ c.toNat) && decide (c.toNat ≤ b)
def amongB (l : List UInt8) (c : UInt8) : Bool := l.contains c
def lowB : UInt8 → Bool := spanB 97 122
def digB : UInt8 → Bool := spanB 48 57
def upB (c : UInt8) : Bool := spanB 65 90 c || amongB [95] c
def wordB (c : UInt8) : Bool := lowB c || (upB c || digB c)
def symB : UInt8 → Bool := amongB [43, 45, 42, 47, 92, 94, 60, 62, 61, 126, 58, 46, 63, 64, 35, 38, 36]
def punB : UInt8 → Bool := amongB [40, 41, 91, 93, 44, 124]
def sinB : UInt8 → Bool := amongB [33, 59]
def blkB (c : UInt8) : Bool := c == 9 || (c == 10 || (c == 13 || c == 32))

/-- How many bytes of one kind a text begins with. -/
def pre (p : UInt8 → Bool) : List UInt8 → Nat
  | [] => 0
  | c :: l => if p c then pre p l + 1 else 0

/-- How many bytes of blanks and comments a text begins with (within a comment, or not). -/
def skp : Bool → List UInt8 → Nat
  | _, [] => 0
  | true, c :: l => if c = 10 then skp false l + 1 else skp true l + 1
  | false, c :: l => if c = 37 then skp true l + 1 else if blkB c then skp false l + 1 else 0

structure Tok where
  kind : Int
  s : List UInt8
  n : Int
  q : Bool
  tight : Bool
  deriving DecidableEq

inductive Res where
  | bad (code : Int)
  | tok (t : Tok) (size : Nat)
  deriving DecidableEq

def limR (t : Tok) (size : Nat) : Res := if 64 < t.s.length then .bad 3 else .tok t size
def wrt (kind : Int) (l : List UInt8) : Res := limR ⟨kind, l, 0, false, false⟩ l.length

/-- A point and a digit. -/
def frac : List UInt8 → Bool
  | a :: b :: _ => a == 46 && digB b
  | _ => false
def numR (l : List UInt8) : Res :=
  if frac (l.drop (pre digB l)) then .bad 4
  else match Lib.parseUintB 64 (l.take (pre digB l)) with
    | .ok u => if 9223372036854775808 < u then .bad 2 else .tok ⟨3, [], IntKind.i64.wrap u, false, false⟩ (pre digB l)
    | _ => .bad 2

def closB : List UInt8 → Bool
  | [] => false
  | [c] => c == 39
  | c :: d :: _ => c == 39 && d != 39
/-- The byte that a text within marks begins with, and how many bytes stand for it. -/
def meanR : List UInt8 → Option (UInt8 × Nat)
  | [] => none
  | c :: l =>
    if c = 39 ∧ l.head? = some 39 ∨ c = 92 ∧ l.head? = some 39 then some (39, 2)
    else if c = 92 ∧ l.head? = some 92 then some (92, 2)
    else if c = 92 ∧ l.head? = some 110 then some (10, 2)
    else if c = 92 ∨ c.toNat < 32 then none
    else some (c, 1)
def quoF : Nat → List UInt8 → List UInt8 → Nat → Res
  | 0, _, _, _ => .bad 4
  | f + 1, acc, l, at_ =>
    if l = [] then .bad 4
    else if closB l then limR ⟨1, acc, 0, true, false⟩ (at_ + 1)
    else match meanR l with
      | none => .bad 4
      | some (c, n) => quoF f (acc ++ [c]) (l.drop n) (at_ + n)

def endsB : List UInt8 → Bool
  | [] => false
  | c :: r => c == 46 && (decide (r = []) || decide (0 < skp false r))

/-- The token that a text begins with. -/
def fstR (l : List UInt8) : Res :=
  match l with
  | [] => .bad 4
  | c :: r =>
    if lowB c then wrt 1 (l.take (pre wordB l))
    else if upB c then wrt 2 (l.take (pre wordB l))
    else if digB c then numR l
    else if c = 39 then quoF l.length [] r 1
    else if punB c then wrt 4 [c]
    else if sinB c then wrt 1 [c]
    else if endsB l then wrt 5 [c]
    else if symB c then wrt 1 (l.take (pre symB l))
    else .bad 4

inductive ScanR where
  | bad (pos : Nat) (code : Int)
  | ok (ts : List Tok)
  deriving DecidableEq

def ScanR.after (ts : List Tok) (e : Nat) : ScanR → ScanR
  | .bad p c => .bad (e + p) c
  | .ok us => .ok (ts ++ us)

/-- All tokens; b: is there one ahead? -/
def scnF : Nat → Bool → List UInt8 → ScanR
  | 0, _, _ => .ok []
  | f + 1, b, l =>
    if l.drop (skp false l) = [] then .ok []
    else match fstR (l.drop (skp false l)) with
      | .bad c => .bad (skp false l) c
      | .tok t n => (scnF f true (l.drop (skp false l + n))).after [{ t with tight := decide (skp false l = 0) && b }] (skp false l + n)

/-! ### Small laws -/
theorem pre_le (p : UInt8 → Bool) : ∀ l : List UInt8, pre p l ≤ l.length
  | [] => Nat.le_refl _
  | c :: l => by
    have := pre_le p l
    unfold pre; split <;> simp <;> omega
theorem skp_le : ∀ (b : Bool) (l : List UInt8), skp b l ≤ l.length
  | b, [] => by cases b <;> simp [skp]
  | true, c :: l => by
    have h1 := skp_le false l; have h2 := skp_le true l
    unfold skp; split <;> simp <;> omega
  | false, c :: l => by
    have h1 := skp_le false l; have h2 := skp_le true l
    unfold skp; split
    · simp; omega
    · split <;> simp
      omega
theorem skp_stop : ∀ (b : Bool) (l : List UInt8), skp false (l.drop (skp b l)) = 0
  | b, [] => by cases b <;> simp [skp]
  | true, c :: l => by
    rw [skp]; split
    · exact skp_stop false l
    · exact skp_stop true l
  | false, c :: l => by
    by_cases h : c = 37
    · rw [skp, if_pos h]; exact skp_stop true l
    · by_cases h2 : blkB c
      · rw [skp, if_neg h, if_pos h2]; exact skp_stop false l
      · rw [skp, if_neg h, if_neg h2]; simp [skp, h, h2]
theorem pre_pos {p : UInt8 → Bool} {c : UInt8} {l : List UInt8} (h : p c = true) : 0 < pre p (c :: l) := by simp [pre, h]
theorem pre_stop (p : UInt8 → Bool) : ∀ l : List UInt8, pre p (l.drop (pre p l)) = 0
  | [] => rfl
  | c :: l => by
    by_cases h : p c = true
    · simp [pre, h]; exact pre_stop p l
    · simp [pre, h]

theorem limR_size {t t' : Tok} {n m : Nat} (h : limR t n = .tok t' m) : t' = t ∧ m = n ∧ t.s.length ≤ 64 := by
  unfold limR at h
  split at h
  · cases h
  · cases h; exact ⟨rfl, rfl, by omega⟩
theorem meanR_cons (c : UInt8) (l : List UInt8) : meanR (c :: l) =
    if c = 39 ∧ l.head? = some 39 ∨ c = 92 ∧ l.head? = some 39 then some (39, 2)
    else if c = 92 ∧ l.head? = some 92 then some (92, 2)
    else if c = 92 ∧ l.head? = some 110 then some (10, 2)
    else if c = 92 ∨ c.toNat < 32 then none
    else some (c, 1) := by rw [meanR]
theorem meanR_size {l : List UInt8} {c : UInt8} {n : Nat} (h : meanR l = some (c, n)) : 0 < n ∧ n ≤ l.length := by
  cases l with
  | nil => cases h
  | cons a r =>
    have hl : ∀ x, r.head? = some x → 2 ≤ (a :: r).length := fun x hx => by cases r <;> simp_all
    rw [meanR_cons] at h
    by_cases h1 : a = 39 ∧ r.head? = some 39 ∨ a = 92 ∧ r.head? = some 39
    · rw [if_pos h1] at h
      cases h
      exact ⟨by decide, h1.elim (fun x => hl _ x.2) (fun x => hl _ x.2)⟩
    · rw [if_neg h1] at h
      by_cases h2 : a = 92 ∧ r.head? = some 92
      · rw [if_pos h2] at h; cases h; exact ⟨by decide, hl _ h2.2⟩
      · rw [if_neg h2] at h
        by_cases h3 : a = 92 ∧ r.head? = some 110
        · rw [if_pos h3] at h; cases h; exact ⟨by decide, hl _ h3.2⟩
        · rw [if_neg h3] at h
          by_cases h4 : a = 92 ∨ a.toNat < 32
          · rw [if_pos h4] at h; cases h
          · rw [if_neg h4] at h; cases h; exact ⟨by decide, by simp⟩

/-- What is told of a token: its size, its kind, and what else. -/
structure TokOk (l : List UInt8) (t : Tok) (n : Nat) : Prop where
  pos : 0 < n
  le : n ≤ l.length
  kind : 1 ≤ t.kind ∧ t.kind ≤ 5
  num : t.kind ≠ 3 → t.n = 0
  name : t.kind = 3 → t.s = []
  quo : t.q = true → t.kind = 1
  short : t.s.length ≤ 64
  part : t.q = false → t.s.length ≤ n
  fits : -9223372036854775808 ≤ t.n ∧ t.n ≤ 9223372036854775807

theorem wrt_ok {k : Int} {l l' : List UInt8} {t : Tok} {n : Nat} (h : wrt k l = .tok t n) (hk : 1 ≤ k ∧ k ≤ 5) (h3 : k ≠ 3) (hl : 0 < l.length) (hle : l.length ≤ l'.length) : TokOk l' t n := by
  obtain ⟨rfl, rfl, h6⟩ := limR_size h
  exact ⟨hl, hle, hk, fun _ => rfl, fun e => absurd e h3, fun e => (by simp at e), h6, fun _ => Nat.le_refl _, by simp⟩
theorem quoF_ok {L : List UInt8} : ∀ {f : Nat} {acc l : List UInt8} {at_ : Nat} {t : Tok} {n : Nat}, quoF f acc l at_ = .tok t n → at_ + l.length = L.length → TokOk L t n
  | 0, _, _, _, _, _, h, _ => by cases h
  | f + 1, acc, l, at_, t, n, h, hl => by
    unfold quoF at h
    split at h
    · cases h
    · rename_i hne
      have : 0 < l.length := List.length_pos_iff.2 hne
      split at h
      · obtain ⟨rfl, rfl, h6⟩ := limR_size h
        exact ⟨by omega, by omega, by simp, fun _ => rfl, fun e => (by simp at e), fun _ => rfl, h6, fun e => (by simp at e), by simp⟩
      · split at h
        · cases h
        · rename_i c m hm
          have := meanR_size hm
          exact quoF_ok h (by simp; omega)
theorem numR_ok {l : List UInt8} {t : Tok} {n : Nat} (hd : 0 < pre digB l) (h : numR l = .tok t n) : TokOk l t n := by
  unfold numR at h
  split at h
  · cases h
  · split at h
    · rename_i u _
      split at h
      · cases h
      · cases h
        refine ⟨hd, pre_le _ _, by simp, fun e => absurd rfl e, fun _ => rfl, fun e => (by simp at e), Nat.zero_le _, fun _ => Nat.zero_le _, ?_⟩
        show -9223372036854775808 ≤ IntKind.i64.wrap (u : Int) ∧ IntKind.i64.wrap (u : Int) ≤ 9223372036854775807
        rw [IntKind.wrap_i64]; omega
    · cases h
theorem fstR_ok {l : List UInt8} {t : Tok} {n : Nat} (h : fstR l = .tok t n) : TokOk l t n := by
  cases l with
  | nil => cases h
  | cons c r =>
    unfold fstR at h
    simp only at h
    have h1 : [c].length ≤ (c :: r).length := by simp
    split at h
    · rename_i hc
      have hp := pre_pos (p := wordB) (c := c) (l := r) (by simp [wordB, hc])
      exact wrt_ok h (by decide) (by decide) (by rw [List.length_take]; simp at hp ⊢; omega) (List.length_take_le' _ _)
    · split at h
      · rename_i hc
        have hp := pre_pos (p := wordB) (c := c) (l := r) (by simp [wordB, hc])
        exact wrt_ok h (by decide) (by decide) (by rw [List.length_take]; simp at hp ⊢; omega) (List.length_take_le' _ _)
      · split at h
        · rename_i hc
          exact numR_ok (pre_pos hc) h
        · split at h
          · exact quoF_ok h (by simp; omega)
          · split at h
            · exact wrt_ok h (by decide) (by decide) (by simp) h1
            · split at h
              · exact wrt_ok h (by decide) (by decide) (by simp) h1
              · split at h
                · exact wrt_ok h (by decide) (by decide) (by simp) h1
                · split at h
                  · rename_i hc
                    have hp := pre_pos (p := symB) (c := c) (l := r) hc
                    exact wrt_ok h (by decide) (by decide) (by rw [List.length_take]; simp at hp ⊢; omega) (List.length_take_le' _ _)
                  · cases h

theorem after_after (ts us : List Tok) (a b : Nat) (r : ScanR) : (r.after us b).after ts a = r.after (ts ++ us) (a + b) := by
  cases r <;> simp [ScanR.after, Nat.add_assoc]
theorem after_nil (r : ScanR) : r.after [] 0 = r := by cases r <;> simp [ScanR.after]

/-- More fuel than there are bytes changes nothing. -/
theorem scnF_more : ∀ (f g : Nat) (b : Bool) (l : List UInt8), l.length < f → l.length < g → scnF f b l = scnF g b l
  | 0, _, _, _, h, _ => by omega
  | _ + 1, 0, _, _, _, h => by omega
  | f + 1, g + 1, b, l, hf, hg => by
    rw [scnF, scnF]
    split
    · rfl
    · rename_i hne
      split
      · rfl
      · rename_i t n ht
        have h1 := fstR_ok ht
        have h2 := h1.pos
        have h3 := h1.le
        simp only [List.length_drop] at h3
        rw [scnF_more f g true _ (by simp; omega) (by simp; omega)]

def scan (b : Bool) (l : List UInt8) : ScanR := scnF (l.length + 1) b l
theorem scan_eq (b : Bool) (l : List UInt8) : scan b l =
    if l.drop (skp false l) = [] then .ok []
    else match fstR (l.drop (skp false l)) with
      | .bad c => .bad (skp false l) c
      | .tok t n => (scan true (l.drop (skp false l + n))).after [{ t with tight := decide (skp false l = 0) && b }] (skp false l + n) := by
  conv => lhs; rw [scan, scnF]
  split
  · rfl
  · split
    · rfl
    · rename_i t n ht
      have h1 := fstR_ok ht
      have h2 := h1.pos
      have h3 := h1.le
      simp only [List.length_drop] at h3
      rw [scan, scnF_more l.length ((l.drop (skp false l + n)).length + 1) true _ (by simp; omega) (by simp)]
theorem quoF_more : ∀ (f g : Nat) (acc l : List UInt8) (a : Nat), l.length < f → l.length < g → quoF f acc l a = quoF g acc l a
  | 0, _, _, _, _, h, _ => by omega
  | _ + 1, 0, _, _, _, _, h => by omega
  | f + 1, g + 1, acc, l, a, hf, hg => by
    rw [quoF, quoF]
    split
    · rfl
    · split
      · rfl
      · split
        · rfl
        · rename_i c n hm
          have h1 := meanR_size hm
          exact quoF_more f g _ _ _ (by simp; omega) (by simp; omega)
def quo (acc l : List UInt8) (a : Nat) : Res := quoF (l.length + 1) acc l a
theorem quo_eq (acc l : List UInt8) (a : Nat) : quo acc l a =
    if l = [] then .bad 4
    else if closB l then limR ⟨1, acc, 0, true, false⟩ (a + 1)
    else match meanR l with
      | none => .bad 4
      | some (c, n) => quo (acc ++ [c]) (l.drop n) (a + n) := by
  conv => lhs; rw [quo, quoF]
  split
  · rfl
  · split
    · rfl
    · split
      · rfl
      · rename_i c n hm
        have h1 := meanR_size hm
        rw [quo, quoF_more l.length ((l.drop n).length + 1) _ _ _ (by simp; omega) (by simp)]
end Go.Proofs.YtfencolokfghfaaGreatDoor
