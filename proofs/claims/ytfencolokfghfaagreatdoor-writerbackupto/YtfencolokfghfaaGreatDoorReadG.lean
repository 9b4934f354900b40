/-
  What tokens read as, apart from memory: a term of at most a priority, by how many terms and primaries may still begin within.
-/
import Derived.Test.YtfencolokfghfaaGreatDoorVars
import Derived.Test.YtfencolokfghfaaGreatDoorTokC
import Derived.Test.YtfencolokfghfaaGreatDoorOpsG
namespace Go.Proofs.YtfencolokfghfaaGreatDoor
open Go.RowKit
set_option linter.unusedVariables false

abbrev Nms := List (List UInt8)
/-- What reading comes to: something, the place behind it, the names so far; or the place of an error, and the error. -/
inductive Out (α : Type) where
  | ok (x : α) (i : Nat) (ns : Nms)
  | bad (i : Nat) (c : Int)
def Out.bind {α β : Type} : Out α → (α → Nat → Nms → Out β) → Out β
  | .ok x i ns, f => f x i ns
  | .bad i c, _ => .bad i c
/-- A way to read a term: the priority, the place, the names. -/
abbrev Rdr := Nat → Nat → Nms → Out Tm

def zTok : Tok := ⟨0, [], 0, false, false⟩
def ahd (L : List Tok) (i : Nat) : Tok := L.getD i zTok
def isP (t : Tok) (s : List UInt8) : Bool := decide (t.kind = 4) && decide (t.s = s)
def bare (t : Tok) : Bool := decide (t.kind = 1) && !t.q
def begins (t : Tok) : Bool :=
  if t.kind = 3 ∨ t.kind = 2 then true
  else if t.kind = 4 then decide (t.s = [40]) || decide (t.s = [91])
  else if t.kind = 1 then t.q || (infR t.s).isNone
  else false
abbrev empB : ByteArray := ByteArray.mk #[]
def nilT : Tm := .mk 3 0 (strV [91, 93]) []
def atomT (s : List UInt8) : Tm := .mk 3 0 (strV s) []
def pairT (t u : Tm) : Tm := .mk 3 0 (strV [46]) [t, u]
def consT (ts : List Tm) (u : Tm) : Tm := ts.foldr pairT u

/-- The Fun of a name, or the Seal that it stands for. -/
def funG (lv : Int) (nm : List UInt8) (kids : List Tm) (i : Nat) (ns : Nms) : Out Tm :=
  match kids with
  | [a, l] =>
    if nm = [64] then
      if l.kind ≠ 2 ∨ l.num < 0 ∨ lv ≤ l.num ∨ a.ground = false then .bad i 4 else .ok (.mk 4 l.num empB [a]) i ns
    else .ok (.mk 3 0 (strV nm) [a, l]) i ns
  | ks => .ok (.mk 3 0 (strV nm) ks) i ns
def needG {α : Type} (L : List Tok) (s : List UInt8) (x : α) (i : Nat) (ns : Nms) : Out α := if isP (ahd L i) s then .ok x (i + 1) ns else .bad i 4

section
variable (L : List Tok) (lv : Int) (r : Rdr)
/-- Terms behind commas. -/
def moreG : Nat → List Tm → Nat → Nms → Out (List Tm)
  | 0, acc, i, ns => .ok acc i ns
  | n + 1, acc, i, ns => if isP (ahd L i) [44] then (r 999 (i + 1) ns).bind fun t i ns => moreG n (acc ++ [t]) i ns else .ok acc i ns
def argsG (i : Nat) (ns : Nms) : Out (List Tm) := (r 999 i ns).bind fun t i ns => moreG L r (L.length + 1 - i) [t] i ns
def restG (i : Nat) (ns : Nms) : Out Tm := if isP (ahd L i) [124] then r 999 (i + 1) ns else .ok nilT i ns
def listG (i : Nat) (ns : Nms) : Out Tm :=
  if isP (ahd L i) [93] then .ok nilT (i + 1) ns
  else (argsG L r i ns).bind fun ts i ns => (restG L r i ns).bind fun u i ns => needG L [93] (consT ts u) i ns
def brackG (i : Nat) (ns : Nms) : Out Tm :=
  if isP (ahd L i) [40] then (r 1200 (i + 1) ns).bind fun t i ns => needG L [41] t i ns
  else if isP (ahd L i) [91] then listG L r (i + 1) ns
  else .bad i 4
def varG (i : Nat) (ns : Nms) : Out Tm :=
  if (ahd L i).s ∈ ns ∧ (ahd L i).s ≠ [95] then .ok (.mk 1 (ns.idxOf (ahd L i).s) empB []) (i + 1) ns
  else .ok (.mk 1 ns.length empB []) (i + 1) (ns ++ [(ahd L i).s])
def numG (i : Nat) (ns : Nms) : Out Tm := if (ahd L i).n < 0 then .bad i 2 else .ok (.mk 2 (ahd L i).n empB []) (i + 1) ns
def namedG (most i : Nat) (ns : Nms) : Out (Tm × Nat) :=
  if (ahd L (i + 1)).tight = true ∧ isP (ahd L (i + 1)) [40] = true then
    (argsG L r (i + 2) ns).bind fun ts i' ns => (needG L [41] ts i' ns).bind fun ts i' ns => (funG lv (ahd L i).s ts i' ns).bind fun t i' ns => .ok (t, 0) i' ns
  else if (ahd L (i + 1)).tight = true ∧ (ahd L (i + 1)).kind = 3 ∧ bare (ahd L i) = true ∧ (ahd L i).s = [45] then .ok (.mk 2 (wrap64 (-(ahd L (i + 1)).n)) empB [], 0) (i + 2) ns
  else match preR (ahd L i).s with
    | some (own, right) =>
      if bare (ahd L i) = true ∧ own ≤ most ∧ begins (ahd L (i + 1)) = true then
        (r right (i + 1) ns).bind fun t i' ns => (funG lv (ahd L i).s [t] i' ns).bind fun t i' ns => .ok (t, own) i' ns
      else .ok (atomT (ahd L i).s, 0) (i + 1) ns
    | none => .ok (atomT (ahd L i).s, 0) (i + 1) ns
def zeroG (o : Out Tm) : Out (Tm × Nat) := o.bind fun t i ns => .ok (t, 0) i ns
/-- A primary; r: a term within. -/
def primG (most i : Nat) (ns : Nms) : Out (Tm × Nat) :=
  if (ahd L i).kind = 3 then zeroG (numG L i ns)
  else if (ahd L i).kind = 2 then zeroG (varG L i ns)
  else if (ahd L i).kind = 4 then zeroG (brackG L r i ns)
  else if (ahd L i).kind = 1 then namedG L lv r most i ns
  else .bad i 4
/-- The operator that stands next: its priority and its right operand's. -/
def opG (most pri i : Nat) : Option (Nat × Nat) :=
  if bare (ahd L i) = true ∨ isP (ahd L i) [44] = true then
    match infR (ahd L i).s with
    | some (left, own, right) => if own ≤ most ∧ pri ≤ left then some (own, right) else none
    | none => none
  else none
/-- Operators and their right operands. -/
def loopG (most : Nat) : Nat → Tm → Nat → Nat → Nms → Out Tm
  | 0, t, _, i, ns => .ok t i ns
  | n + 1, t, pri, i, ns =>
    match opG L most pri i with
    | none => .ok t i ns
    | some (own, right) => (r right (i + 1) ns).bind fun u i' ns => (funG lv (ahd L i).s [t, u] i' ns).bind fun v i' ns => loopG most n v own i' ns
end

/-- A term of at most a priority; d: how many more terms and primaries may begin one within another. -/
def rd (L : List Tok) (lv : Int) : Nat → Rdr
  | 0, _, i, _ => .bad i 7
  | 1, _, i, _ => .bad i 7
  | d + 2, most, i, ns => (primG L lv (rd L lv d) most i ns).bind fun tp i ns => loopG L lv (rd L lv (d + 1)) most (L.length + 1 - i) tp.1 tp.2 i ns
/-- A sentence. -/
def readG (L : List Tok) (lv : Int) (i : Nat) : Out Tm :=
  (rd L lv 60 1200 i []).bind fun t i ns =>
    if (ahd L i).kind ≠ 5 then .bad i 4 else if t.check lv ≠ 0 then .bad (i + 1) (t.check lv) else .ok t (i + 1) ns
/-- What all sentences come to. -/
inductive AllR where
  | ok (ts : List Tm)
  | bad (i : Nat) (c : Int)
def allF (L : List Tok) (lv : Int) : Nat → List Tm → Nat → AllR
  | 0, acc, _ => .ok acc
  | n + 1, acc, i => if L.length ≤ i then .ok acc else match readG L lv i with
    | .bad j c => .bad j c
    | .ok t j _ => allF L lv n (acc ++ [t]) j

/-! ### What is read -/
def vlist (T : Tm) : List Int := (T.parts 1).filterMap fun x => if x.2.kind = 1 then some x.2.num else none
def scanV : Nat → List Int → Option Nat
  | c, [] => some c
  | c, x :: l => if 0 ≤ x ∧ x < c then scanV c l else if x = c then scanV (c + 1) l else none
theorem scanV_append : ∀ (l m : List Int) (c : Nat), scanV c (l ++ m) = (scanV c l).bind fun b => scanV b m
  | [], m, c => rfl
  | x :: l, m, c => by
    simp only [List.cons_append, scanV]
    split
    · exact scanV_append l m c
    · split
      · exact scanV_append l m (c + 1)
      · rfl
/-- The brackets of the tokens from a place on. -/
def par (t : Tok) : Int := if isP t [40] then 1 else if isP t [41] then -1 else 0
def bal (L : List Tok) (i : Nat) : Nat → Int
  | 0 => 0
  | n + 1 => bal L i n + par (ahd L (i + n))
theorem bal_add (L : List Tok) (i n : Nat) : ∀ m, bal L i (n + m) = bal L i n + bal L (i + n) m
  | 0 => by simp [bal]
  | m + 1 => by
    have := bal_add L i n m
    rw [← Nat.add_assoc, bal, bal, this, ← Nat.add_assoc]; omega

/-- The tokens from i to j are read as those terms, with names more. -/
structure Seg (L : List Tok) (σ : Nat) (i : Nat) (ns : Nms) (Ts : List Tm) (j : Nat) (ms : Nms) : Prop where
  le : i ≤ j
  len : j ≤ L.length
  size : Tm.sizes Ts + σ + i ≤ j
  names : ms.length + i ≤ j + ns.length
  bal : bal L i (j - i) = 0
  vars : scanV ns.length (Ts.flatMap vlist) = some ms.length
  ints : ∀ t ∈ Ts, t.kind = 2 → t.kids = []
  ends : ∀ k, i ≤ k → k < j → (ahd L k).kind ≠ 5

theorem parts_vl (T : Tm) : ∀ d, (T.parts d).filterMap (fun x => if x.2.kind = 1 then some x.2.num else none) = vlist T := by
  have key : ∀ (T : Tm) (d e : Nat), (T.parts d).filterMap (fun x => if x.2.kind = 1 then some x.2.num else none) = (T.parts e).filterMap (fun x => if x.2.kind = 1 then some x.2.num else none) := by
    intro T
    induction T using Tm.ind with
    | h k n s ks ih =>
      intro d e
      rw [Tm.parts_mk, Tm.parts_mk]
      have : ∀ (ks : List Tm), (∀ t ∈ ks, ∀ d e : Nat, (t.parts d).filterMap (fun x => if x.2.kind = 1 then some x.2.num else none) = (t.parts e).filterMap (fun x => if x.2.kind = 1 then some x.2.num else none)) → ∀ d e, (Tm.partss d ks).filterMap (fun x => if x.2.kind = 1 then some x.2.num else none) = (Tm.partss e ks).filterMap (fun x => if x.2.kind = 1 then some x.2.num else none) := by
        intro ks
        induction ks with
        | nil => intro _ d e; simp [Tm.partss_nil]
        | cons t ts iht => intro h d e; rw [Tm.partss_cons, Tm.partss_cons, List.filterMap_append, List.filterMap_append, h t (by simp) d e, iht (fun u hu => h u (by simp [hu])) d e]
      simp only [List.filterMap_cons]
      rw [this ks ih (d + 1) (e + 1)]
  exact fun d => key T d 1
theorem vlist_mk (k n : Int) (s : ByteArray) (ks : List Tm) : vlist (.mk k n s ks) = (if k = 1 then [n] else []) ++ ks.flatMap vlist := by
  have : ∀ (ks : List Tm) (d : Nat), (Tm.partss d ks).filterMap (fun x => if x.2.kind = 1 then some x.2.num else none) = ks.flatMap vlist := by
    intro ks
    induction ks with
    | nil => intro d; simp [Tm.partss_nil]
    | cons t ts ih => intro d; rw [Tm.partss_cons, List.filterMap_append, ih, parts_vl, List.flatMap_cons]
  unfold vlist
  rw [Tm.parts_mk, List.filterMap_cons, this]
  by_cases h : k = 1
  · simp [Tm.kind, Tm.num, h]; rfl
  · simp [Tm.kind, Tm.num, h]; rfl
theorem ground_vl {T : Tm} (h : T.ground = true) : vlist T = [] := by
  unfold Tm.ground groundL at h
  unfold vlist
  rw [List.filterMap_eq_nil_iff]
  intro x hx
  have := List.all_eq_true.1 h x hx
  simp only [decide_eq_true_eq] at this
  simp [this]

section
variable {L : List Tok}
theorem Seg.nil {i : Nat} {ns : Nms} (h : i ≤ L.length) : Seg L 0 i ns [] i ns := ⟨Nat.le_refl _, h, by simp [Tm.sizes_nil], by omega, by simp [Go.Proofs.YtfencolokfghfaaGreatDoor.bal], rfl, by simp, fun k h1 h2 => by omega⟩
theorem Seg.append {σ τ i j k : Nat} {ns ms os : Nms} {A B : List Tm} (h : Seg L σ i ns A j ms) (g : Seg L τ j ms B k os) : Seg L (σ + τ) i ns (A ++ B) k os := by
  have h1 := h.le; have h2 := g.le; have h3 := h.size; have h4 := g.size; have h5 := h.names; have h6 := g.names
  refine ⟨by omega, g.len, by rw [Tm.sizes_append]; omega, by omega, ?_, ?_, ?_, ?_⟩
  · have e : k - i = (j - i) + (k - j) := by omega
    rw [e, bal_add, h.bal, show i + (j - i) = j by omega, g.bal]; rfl
  · rw [List.flatMap_append, scanV_append, h.vars]; exact g.vars
  · intro t ht
    rcases List.mem_append.1 ht with ht | ht
    · exact h.ints t ht
    · exact g.ints t ht
  · intro x hx1 hx2
    by_cases hx : x < j
    · exact h.ends x hx1 hx
    · exact g.ends x (by omega) hx2
theorem ahd_lt {i : Nat} (h : (ahd L i).kind ≠ 0) : i < L.length := by
  refine Decidable.byContradiction fun hn => h ?_
  unfold ahd
  rw [List.getD_eq_getElem?_getD, List.getElem?_eq_none (by omega)]; rfl
theorem isP_lt {i : Nat} {s : List UInt8} (h : isP (ahd L i) s = true) : i < L.length ∧ (ahd L i).kind = 4 ∧ (ahd L i).s = s := by
  unfold isP at h
  simp only [Bool.and_eq_true, decide_eq_true_eq] at h
  exact ⟨ahd_lt (by rw [h.1]; decide), h.1, h.2⟩
theorem Seg.tok {i : Nat} {ns : Nms} (h : i < L.length) (hp : par (ahd L i) = 0) (he : (ahd L i).kind ≠ 5) : Seg L 1 i ns [] (i + 1) ns :=
  ⟨by omega, h, by simp [Tm.sizes_nil]; omega, by omega, by simp [Go.Proofs.YtfencolokfghfaaGreatDoor.bal, hp], rfl, by simp, fun k h1 h2 => (show k = i by omega) ▸ he⟩
theorem par_kind {t : Tok} (h : t.kind ≠ 4) : par t = 0 := by simp [par, isP, h]
theorem par_text {t : Tok} (h1 : t.s ≠ [40]) (h2 : t.s ≠ [41]) : par t = 0 := by simp [par, isP, h1, h2]
theorem Seg.punct {i : Nat} {ns : Nms} {s : List UInt8} (h : isP (ahd L i) s = true) (h1 : s ≠ [40]) (h2 : s ≠ [41]) : Seg L 1 i ns [] (i + 1) ns := by
  obtain ⟨a, b, c⟩ := isP_lt h
  exact .tok a (par_text (by rw [c]; exact h1) (by rw [c]; exact h2)) (by rw [b]; decide)
theorem Seg.paren {σ i j : Nat} {ns ms : Nms} {A : List Tm} (h1 : isP (ahd L i) [40] = true) (g : Seg L σ (i + 1) ns A j ms) (h2 : isP (ahd L j) [41] = true) : Seg L (σ + 2) i ns A (j + 1) ms := by
  obtain ⟨a1, b1, c1⟩ := isP_lt h1
  obtain ⟨a2, b2, c2⟩ := isP_lt h2
  have k1 := g.le; have k2 := g.size; have k3 := g.names
  refine ⟨by omega, by omega, by omega, by omega, ?_, g.vars, g.ints, ?_⟩
  · have e : j + 1 - i = 1 + ((j - (i + 1)) + 1) := by omega
    rw [e, bal_add, bal_add, g.bal, show i + 1 + (j - (i + 1)) = j by omega]
    have p1 : par (ahd L i) = 1 := by simp [par, h1]
    have p2 : par (ahd L j) = -1 := by
      have : isP (ahd L j) [40] = false := by simp [isP, b2, c2]
      simp [par, h2, this]
    simp [Go.Proofs.YtfencolokfghfaaGreatDoor.bal, p1, p2]
  · intro x hx1 hx2
    by_cases e1 : x = i
    · rw [e1, b1]; decide
    · by_cases e2 : x = j
      · rw [e2, b2]; decide
      · exact g.ends x (by omega) (by omega)
theorem Seg.fun3 {σ i j : Nat} {ns ms : Nms} {A : List Tm} (h : Seg L (σ + 1) i ns A j ms) (s : ByteArray) : Seg L σ i ns [.mk 3 0 s A] j ms := by
  have h3 := h.size
  refine ⟨h.le, h.len, by rw [Tm.sizes_cons, Tm.sizes_nil, Tm.size_mk]; omega, h.names, h.bal, ?_, ?_, h.ends⟩
  · rw [List.flatMap_cons, List.flatMap_nil, List.append_nil, vlist_mk, if_neg (by decide), List.nil_append]; exact h.vars
  · intro t ht e
    rw [List.mem_singleton.1 ht] at e
    exact absurd e (by simp [Tm.kind])
theorem Seg.weak {σ τ i j : Nat} {ns ms : Nms} {A : List Tm} (h : Seg L σ i ns A j ms) (hl : τ ≤ σ) : Seg L τ i ns A j ms :=
  ⟨h.le, h.len, by have := h.size; omega, h.names, h.bal, h.vars, h.ints, h.ends⟩
theorem Seg.fn {σ i j : Nat} {ns ms : Nms} {A : List Tm} (h : Seg L (σ + 1) i ns A j ms) {lv : Int} {nm : List UInt8} {T : Tm} {j' : Nat} {ms' : Nms} (e : funG lv nm A j ms = .ok T j' ms') : Seg L σ i ns [T] j' ms' := by
  unfold funG at e
  split at e
  · rename_i a l
    split at e
    · split at e
      · cases e
      · rename_i hn
        cases e
        have g1 := h.size; have g2 := h.ints l (by simp)
        have hk : l.kind = 2 := Decidable.byContradiction fun hc => hn (Or.inl hc)
        have hg : a.ground = true := by cases hag : a.ground with
          | true => rfl
          | false => exact absurd (Or.inr (Or.inr (Or.inr hag))) hn
        have hl := g2 hk
        have hlv : vlist l = [] := by
          obtain ⟨k, n, s, ks⟩ := l
          simp only [Tm.kind] at hk
          simp only [Tm.kids] at hl
          rw [hk, hl, vlist_mk]; rfl
        refine ⟨h.le, h.len, ?_, h.names, h.bal, ?_, ?_, h.ends⟩
        · have := l.size_pos
          simp only [Tm.sizes_cons, Tm.sizes_nil, Tm.size_mk] at g1 ⊢; omega
        · have hv := h.vars
          simp only [List.flatMap_cons, List.flatMap_nil, List.append_nil, hlv] at hv
          rw [List.flatMap_cons, List.flatMap_nil, List.append_nil, vlist_mk, if_neg (by decide), List.nil_append]
          simpa using hv
        · intro t ht e
          rw [List.mem_singleton.1 ht] at e
          exact absurd e (by simp [Tm.kind])
    · cases e; exact h.fun3 _
  · cases e; exact h.fun3 _

/-- A way to read that reads so. -/
def Reads7 (L : List Tok) (r : Rdr) : Prop := ∀ most i ns T j ms, r most i ns = .ok T j ms → Seg L 0 i ns [T] j ms ∧ i < j

theorem Out.bind_ok {α β : Type} {o : Out α} {f : α → Nat → Nms → Out β} {y : β} {j : Nat} {ms : Nms} (h : o.bind f = .ok y j ms) : ∃ x i ns, o = .ok x i ns ∧ f x i ns = .ok y j ms := by
  cases o with
  | ok x i ns => exact ⟨x, i, ns, rfl, h⟩
  | bad i c => cases h
theorem need_ok {α : Type} {s : List UInt8} {x y : α} {i j : Nat} {ns ms : Nms} (h : needG L s x i ns = .ok y j ms) : isP (ahd L i) s = true ∧ y = x ∧ j = i + 1 ∧ ms = ns := by
  unfold needG at h
  split at h
  · cases h; exact ⟨by assumption, rfl, rfl, rfl⟩
  · cases h

variable {r : Rdr} (hr : Reads7 L r)
include hr
theorem more_seg : ∀ (n : Nat) (acc : List Tm) (i : Nat) (ns : Nms) (i0 : Nat) (ns0 : Nms) (σ : Nat), Seg L σ i0 ns0 acc i ns → ∀ ts j ms, moreG L r n acc i ns = .ok ts j ms → ∃ τ, Seg L τ i0 ns0 ts j ms ∧ τ + acc.length = σ + ts.length
  | 0, acc, i, ns, i0, ns0, σ, h, ts, j, ms, e => by cases e; exact ⟨σ, h, rfl⟩
  | n + 1, acc, i, ns, i0, ns0, σ, h, ts, j, ms, e => by
    unfold moreG at e
    split at e
    · rename_i hp
      obtain ⟨t, i1, ns1, e1, e2⟩ := Out.bind_ok e
      have g := (h.append (Seg.punct hp (by decide) (by decide))).append (hr _ _ _ _ _ _ e1).1
      obtain ⟨τ, g2, hl⟩ := more_seg n _ i1 ns1 i0 ns0 _ g ts j ms (by simpa using e2)
      refine ⟨τ, g2, ?_⟩
      simp at hl
      omega
    · cases e; exact ⟨σ, h, rfl⟩
theorem args_seg {i : Nat} {ns : Nms} {ts : List Tm} {j : Nat} {ms : Nms} (h : argsG L r i ns = .ok ts j ms) : ∃ τ, Seg L τ i ns ts j ms ∧ τ + 1 = ts.length ∧ i < j := by
  obtain ⟨t, i1, ns1, e1, e2⟩ := Out.bind_ok h
  have g := hr _ _ _ _ _ _ e1
  obtain ⟨τ, g2, hl⟩ := more_seg hr _ [t] i1 ns1 i ns 0 g.1 ts j ms e2
  refine ⟨τ, g2, by simpa using hl, ?_⟩
  have := g2.size
  have := Tm.length_le_sizes ts
  simp at hl
  omega
omit hr in
theorem cons_seg {i j : Nat} {ns ms : Nms} {u : Tm} : ∀ (ts : List Tm) (σ : Nat), Seg L (σ + ts.length) i ns (ts ++ [u]) j ms → Seg L σ i ns [consT ts u] j ms
  | [], σ, h => by simpa [consT] using h
  | t :: ts, σ, h => by
    have key : ∀ (ts : List Tm) (u : Tm), (consT ts u).size = Tm.sizes (ts ++ [u]) + ts.length ∧ vlist (consT ts u) = (ts ++ [u]).flatMap vlist := by
      intro ts u
      induction ts with
      | nil => simp [consT, Tm.sizes_cons, Tm.sizes_nil]
      | cons t ts ih =>
        have e : consT (t :: ts) u = pairT t (consT ts u) := rfl
        rw [e]
        unfold pairT
        rw [Tm.size_mk, vlist_mk, if_neg (by decide), Tm.sizes_cons, Tm.sizes_cons, Tm.sizes_nil, ih.1]
        simp only [List.cons_append, Tm.sizes_cons, List.flatMap_cons, List.flatMap_nil, List.append_nil, List.nil_append, ih.2, List.length_cons, and_true]
        omega
    have h3 := h.size
    refine ⟨h.le, h.len, ?_, h.names, h.bal, ?_, ?_, h.ends⟩
    · rw [Tm.sizes_cons, Tm.sizes_nil, (key (t :: ts) u).1]; omega
    · rw [List.flatMap_cons, List.flatMap_nil, List.append_nil, (key (t :: ts) u).2]; exact h.vars
    · intro x hx e
      rw [List.mem_singleton.1 hx] at e
      exact absurd e (by simp [consT, pairT, Tm.kind])
theorem list_seg {i : Nat} {ns : Nms} {T : Tm} {j : Nat} {ms : Nms} (hb : isP (ahd L i) [91] = true) (h : listG L r (i + 1) ns = .ok T j ms) : Seg L 0 i ns [T] j ms ∧ i < j := by
  have h0 := Seg.punct (ns := ns) hb (by decide) (by decide)
  unfold listG at h
  split at h
  · rename_i hp
    cases h
    exact ⟨Seg.weak ((h0.append (Seg.punct hp (by decide) (by decide))).fun3 _) (by omega), by omega⟩
  · obtain ⟨ts, i1, ns1, e1, e2⟩ := Out.bind_ok h
    obtain ⟨u, i2, ns2, e3, e4⟩ := Out.bind_ok e2
    obtain ⟨hp, rfl, rfl, rfl⟩ := need_ok e4
    obtain ⟨τ, g1, hl, hlt⟩ := args_seg hr e1
    have h2 := Seg.punct (ns := ms) hp (by decide) (by decide)
    unfold restG at e3
    split at e3
    · rename_i hq
      have g3 := ((h0.append g1).append ((Seg.punct hq (by decide) (by decide)).append (hr _ _ _ _ _ _ e3).1)).append h2
      have := g1.le; have := (hr _ _ _ _ _ _ e3).2
      refine ⟨cons_seg ts 0 (Seg.weak (by simpa using g3) (by omega)), by omega⟩
    · cases e3
      have g3 := (h0.append g1).append h2
      have h5 := g3.size; have := g1.le
      have g4 : Seg L (ts.length) i ns (ts ++ [nilT]) (i1 + 1) ms := by
        refine ⟨g3.le, g3.len, ?_, g3.names, g3.bal, ?_, ?_, g3.ends⟩
        · simp only [List.nil_append, List.append_nil] at h5
          rw [Tm.sizes_append, Tm.sizes_cons, Tm.sizes_nil]
          unfold nilT
          rw [Tm.size_mk, Tm.sizes_nil]; omega
        · have hv := g3.vars
          simp only [List.nil_append, List.append_nil] at hv
          rw [List.flatMap_append, List.flatMap_cons, List.flatMap_nil, nilT, vlist_mk, if_neg (by decide)]
          simpa using hv
        · intro t ht e
          rcases List.mem_append.1 ht with ht | ht
          · exact g1.ints t ht e
          · rw [List.mem_singleton.1 ht] at e; exact absurd e (by simp [nilT, Tm.kind])
      exact ⟨cons_seg ts 0 (by simpa using g4), by omega⟩
theorem brack_seg {i : Nat} {ns : Nms} {T : Tm} {j : Nat} {ms : Nms} (h : brackG L r i ns = .ok T j ms) : Seg L 0 i ns [T] j ms ∧ i < j := by
  unfold brackG at h
  split at h
  · rename_i hp
    obtain ⟨t, i1, ns1, e1, e2⟩ := Out.bind_ok h
    obtain ⟨hq, rfl, rfl, rfl⟩ := need_ok e2
    have g := hr _ _ _ _ _ _ e1
    exact ⟨(Seg.paren hp g.1 hq).weak (by omega), by omega⟩
  · split at h
    · rename_i hp; exact list_seg hr hp h
    · cases h
omit hr in
theorem one_seg {i k n : Nat} {ns : Nms} {T : Tm} (hk : Seg L k i ns [] n ns) (h1 : 1 ≤ k) (hs : T.size = 1) (hv : vlist T = []) (hi : T.kind = 2 → T.kids = []) : Seg L 0 i ns [T] n ns := by
  have := hk.size
  refine ⟨hk.le, hk.len, ?_, hk.names, hk.bal, ?_, ?_, hk.ends⟩
  · rw [Tm.sizes_nil] at this; rw [Tm.sizes_cons, Tm.sizes_nil, hs]; omega
  · rw [List.flatMap_cons, hv]; exact hk.vars
  · intro t ht; rw [List.mem_singleton.1 ht]; exact hi
omit hr in
theorem num_seg {i : Nat} {ns : Nms} {T : Tm} {j : Nat} {ms : Nms} (hk : (ahd L i).kind = 3) (h : numG L i ns = .ok T j ms) : Seg L 0 i ns [T] j ms ∧ i < j := by
  unfold numG at h
  split at h
  · cases h
  · cases h
    exact ⟨one_seg (Seg.tok (ahd_lt (by rw [hk]; decide)) (par_kind (by rw [hk]; decide)) (by rw [hk]; decide)) (Nat.le_refl _) (by rw [Tm.size_mk, Tm.sizes_nil]) (by rw [vlist_mk]; rfl) (fun _ => rfl), by omega⟩
omit hr in
theorem var_seg {i : Nat} {ns : Nms} {T : Tm} {j : Nat} {ms : Nms} (hk : (ahd L i).kind = 2) (h : varG L i ns = .ok T j ms) : Seg L 0 i ns [T] j ms ∧ i < j := by
  have g := Seg.tok (ns := ns) (ahd_lt (L := L) (i := i) (by rw [hk]; decide)) (par_kind (by rw [hk]; decide)) (by rw [hk]; decide)
  have hz := g.size
  unfold varG at h
  split at h
  · rename_i hm
    cases h
    refine ⟨⟨g.le, g.len, ?_, g.names, g.bal, ?_, ?_, g.ends⟩, by omega⟩
    · rw [Tm.sizes_cons, Tm.sizes_nil, Tm.size_mk, Tm.sizes_nil]; omega
    · have hx : List.idxOf (ahd L i).s ns < ns.length := List.idxOf_lt_length_of_mem hm.1
      rw [List.flatMap_cons, List.flatMap_nil, vlist_mk, if_pos rfl]
      simp only [List.flatMap_nil, List.append_nil, scanV]
      rw [if_pos ⟨by omega, by omega⟩]
    · intro t ht e; rw [List.mem_singleton.1 ht]; rfl
  · cases h
    refine ⟨⟨g.le, g.len, ?_, by simp; omega, g.bal, ?_, ?_, g.ends⟩, by omega⟩
    · rw [Tm.sizes_cons, Tm.sizes_nil, Tm.size_mk, Tm.sizes_nil]; omega
    · rw [List.flatMap_cons, List.flatMap_nil, vlist_mk, if_pos rfl]
      simp [scanV]
    · intro t ht e; rw [List.mem_singleton.1 ht]; rfl
theorem named_seg {lv : Int} {most i : Nat} {ns : Nms} {T : Tm} {p j : Nat} {ms : Nms} (hk : (ahd L i).kind = 1) (h : namedG L lv r most i ns = .ok (T, p) j ms) : Seg L 0 i ns [T] j ms ∧ i < j := by
  have h0 := Seg.tok (ns := ns) (ahd_lt (L := L) (i := i) (by rw [hk]; decide)) (par_kind (by rw [hk]; decide)) (by rw [hk]; decide)
  have hat : Seg L 0 i ns [atomT (ahd L i).s] (i + 1) ns := h0.fun3 _
  unfold namedG at h
  split at h
  · rename_i hp
    obtain ⟨ts, i1, ns1, e1, e2⟩ := Out.bind_ok h
    obtain ⟨ts', i2, ns2, e3, e4⟩ := Out.bind_ok e2
    obtain ⟨hq, rfl, rfl, rfl⟩ := need_ok e3
    obtain ⟨t, i3, ns3, e5, e6⟩ := Out.bind_ok e4
    cases e6
    obtain ⟨τ, g1, hl, hlt⟩ := args_seg hr e1
    have g := h0.append (Seg.paren hp.2 g1 hq)
    have g' := Seg.fn (Seg.weak (τ := 0 + 1) (by simpa using g) (by omega)) e5
    have := g'.size
    refine ⟨g', ?_⟩
    have := Tm.length_le_sizes [T]
    simp at this; omega
  · split at h
    · rename_i hp
      cases h
      have h1 := Seg.tok (ns := ns) (ahd_lt (L := L) (i := i + 1) (by rw [hp.2.1]; decide)) (par_kind (by rw [hp.2.1]; decide)) (by rw [hp.2.1]; decide)
      exact ⟨one_seg (h0.append h1) (by omega) (by rw [Tm.size_mk, Tm.sizes_nil]) (by rw [vlist_mk]; rfl) (fun _ => rfl), by omega⟩
    · split at h
      · split at h
        · obtain ⟨t, i1, ns1, e1, e2⟩ := Out.bind_ok h
          obtain ⟨t', i2, ns2, e3, e4⟩ := Out.bind_ok e2
          cases e4
          have g := h0.append (hr _ _ _ _ _ _ e1).1
          have g' := Seg.fn (σ := 0) (by simpa using g) e3
          have := g'.size
          refine ⟨g', ?_⟩
          have := Tm.length_le_sizes [T]
          simp at this; omega
        · cases h; exact ⟨hat, by omega⟩
      · cases h; exact ⟨hat, by omega⟩
theorem prim_seg {lv : Int} {most i : Nat} {ns : Nms} {T : Tm} {p j : Nat} {ms : Nms} (h : primG L lv r most i ns = .ok (T, p) j ms) : Seg L 0 i ns [T] j ms ∧ i < j := by
  have hz : ∀ {o : Out Tm}, zeroG o = .ok (T, p) j ms → o = .ok T j ms := fun {o} e => by
    obtain ⟨t, i1, ns1, e1, e2⟩ := Out.bind_ok e
    cases e2; exact e1
  unfold primG at h
  split at h
  · rename_i hk; exact num_seg hk (hz h)
  · split at h
    · rename_i hk; exact var_seg hk (hz h)
    · split at h
      · exact brack_seg hr (hz h)
      · split at h
        · rename_i hk; exact named_seg hr hk h
        · cases h
theorem loop_seg {lv : Int} {most i0 : Nat} {ns0 : Nms} : ∀ (n : Nat) (t : Tm) (pri i : Nat) (ns : Nms), Seg L 0 i0 ns0 [t] i ns → ∀ T j ms, loopG L lv r most n t pri i ns = .ok T j ms → Seg L 0 i0 ns0 [T] j ms
  | 0, t, pri, i, ns, h, T, j, ms, e => by cases e; exact h
  | n + 1, t, pri, i, ns, h, T, j, ms, e => by
    unfold loopG at e
    split at e
    · cases e; exact h
    · rename_i own right ho
      obtain ⟨u, i1, ns1, e1, e2⟩ := Out.bind_ok e
      obtain ⟨v, i2, ns2, e3, e4⟩ := Out.bind_ok e2
      have hop : Seg L 1 i ns [] (i + 1) ns := by
        unfold opG at ho
        split at ho
        · rename_i hb
          rcases hb with hb | hb
          · unfold bare at hb
            simp only [Bool.and_eq_true, decide_eq_true_eq] at hb
            exact Seg.tok (ahd_lt (by rw [hb.1]; decide)) (par_kind (by rw [hb.1]; decide)) (by rw [hb.1]; decide)
          · exact Seg.punct hb (by decide) (by decide)
        · cases ho
      have g := (h.append hop).append (hr _ _ _ _ _ _ e1).1
      exact loop_seg n v own i2 ns2 (Seg.fn (σ := 0) (by simpa using g) e3) T j ms e4
end

theorem rd_seg (L : List Tok) (lv : Int) : ∀ d, Reads7 L (rd L lv d)
  | 0 => fun most i ns T j ms h => by cases h
  | 1 => fun most i ns T j ms h => by cases h
  | d + 2 => fun most i ns T j ms h => by
    rw [rd] at h
    obtain ⟨⟨t, p⟩, i1, ns1, e1, e2⟩ := Out.bind_ok h
    obtain ⟨g1, g2⟩ := prim_seg (rd_seg L lv d) e1
    have g := loop_seg (rd_seg L lv (d + 1)) _ _ _ _ _ g1 _ _ _ e2
    refine ⟨g, ?_⟩
    have h1 := g.size
    have := Tm.length_le_sizes [T]
    simp at this; omega
end Go.Proofs.YtfencolokfghfaaGreatDoor
