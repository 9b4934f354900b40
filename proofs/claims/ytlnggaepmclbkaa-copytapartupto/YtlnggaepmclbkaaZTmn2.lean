/-
  Terms: what a term is, apart from memory; when a value is that term in memory; its parts, in the order in which they are met.
-/
import Derived.RangeFuncNested
import Derived.RangeFuncBound
import Derived.RangeFuncCalls
import Derived.RangeFuncLeaves
import Derived.Shelf.Abstract
import Derived.Shelf.RegionOpen
import Derived.WalkKit
import Derived.OwnWalkIn
import Derived.TacticsInMore
import Derived.LoopNIn
import Derived.LoopIn
import Derived.Maps.OwnIn
import Derived.Maps.AppendAt
import Derived.Lib.Hide
import Derived.Test.YtlnggaepmclbkaaProg
namespace Go.Proofs.Ytlnggaepmclbkaa
open Go.RowKit Go.Shelf
set_option linter.unusedVariables false

/-- A term: its kind, its number, its name, its kids. -/
inductive Tm where
  | mk (k n : Int) (s : ByteArray) (ks : List Tm)

def Tm.kind : Tm → Int | .mk k _ _ _ => k
def Tm.num : Tm → Int | .mk _ n _ _ => n
def Tm.name : Tm → ByteArray | .mk _ _ s _ => s
def Tm.kids : Tm → List Tm | .mk _ _ _ ks => ks

theorem Tm.ind {p : Tm → Prop} (h : ∀ k n s ks, (∀ t ∈ ks, p t) → p (.mk k n s ks)) : ∀ t, p t
  | .mk k n s ks => h k n s ks fun t ht => Tm.ind h t
termination_by t => SizeOf.sizeOf t
decreasing_by
  have := List.sizeOf_lt_of_mem ht
  simp
  omega

mutual
def Tm.size : Tm → Nat
  | .mk _ _ _ ks => 1 + Tm.sizes ks
def Tm.sizes : List Tm → Nat
  | [] => 0
  | t :: ts => t.size + Tm.sizes ts
end

mutual
/-- The parts of a term, each before its kids, with how deep it stands. -/
def Tm.parts : Nat → Tm → List (Nat × Tm)
  | d, .mk k n s ks => (d, .mk k n s ks) :: Tm.partss (d + 1) ks
def Tm.partss : Nat → List Tm → List (Nat × Tm)
  | _, [] => []
  | d, t :: ts => Tm.parts d t ++ Tm.partss d ts
end

theorem Tm.size_mk (k n : Int) (s : ByteArray) (ks : List Tm) : (Tm.mk k n s ks).size = 1 + Tm.sizes ks := by rw [Tm.size]
theorem Tm.parts_mk (d : Nat) (k n : Int) (s : ByteArray) (ks : List Tm) : (Tm.mk k n s ks).parts d = (d, .mk k n s ks) :: Tm.partss (d + 1) ks := by rw [Tm.parts]
theorem Tm.sizes_cons (t : Tm) (ts : List Tm) : Tm.sizes (t :: ts) = t.size + Tm.sizes ts := by rw [Tm.sizes]
theorem Tm.sizes_nil : Tm.sizes [] = 0 := by rw [Tm.sizes]
theorem Tm.partss_cons (d : Nat) (t : Tm) (ts : List Tm) : Tm.partss d (t :: ts) = t.parts d ++ Tm.partss d ts := by rw [Tm.partss]
theorem Tm.partss_nil (d : Nat) : Tm.partss d [] = [] := by rw [Tm.partss]
theorem Tm.sizes_append (xs ys : List Tm) : Tm.sizes (xs ++ ys) = Tm.sizes xs + Tm.sizes ys := by
  induction xs with
  | nil => simp [Tm.sizes_nil]
  | cons x xs ih => rw [List.cons_append, Tm.sizes_cons, Tm.sizes_cons, ih]; omega
theorem Tm.partss_append (d : Nat) (xs ys : List Tm) : Tm.partss d (xs ++ ys) = Tm.partss d xs ++ Tm.partss d ys := by
  induction xs with
  | nil => simp [Tm.partss_nil]
  | cons x xs ih => rw [List.cons_append, Tm.partss_cons, Tm.partss_cons, ih, List.append_assoc]
theorem Tm.size_pos (t : Tm) : 1 ≤ t.size := by cases t; rw [Tm.size_mk]; omega
theorem Tm.length_le_sizes : ∀ ks : List Tm, ks.length ≤ Tm.sizes ks
  | [] => by simp
  | t :: ts => by have := Tm.length_le_sizes ts; have := t.size_pos; rw [Tm.sizes_cons, List.length_cons]; omega
theorem Tm.sizes_take_le (ks : List Tm) (i : Nat) : Tm.sizes (ks.take i) ≤ Tm.sizes ks := by
  have := Tm.sizes_append (ks.take i) (ks.drop i)
  rw [List.take_append_drop] at this
  omega
theorem Tm.size_le_sizes {t : Tm} : ∀ {ks : List Tm}, t ∈ ks → t.size ≤ Tm.sizes ks
  | u :: us, h => by
    rw [Tm.sizes_cons]
    rcases List.mem_cons.1 h with rfl | h
    · omega
    · have := Tm.size_le_sizes h; omega
theorem Tm.partss_length {d : Nat} : ∀ {ks : List Tm}, (∀ t ∈ ks, ∀ d, (t.parts d).length = t.size) → (Tm.partss d ks).length = Tm.sizes ks
  | [], _ => by simp [Tm.partss_nil, Tm.sizes_nil]
  | t :: ts, h => by rw [Tm.partss_cons, Tm.sizes_cons, List.length_append, h t (by simp), Tm.partss_length fun u hu => h u (by simp [hu])]
theorem Tm.parts_length (t : Tm) : ∀ d, (t.parts d).length = t.size := by
  induction t using Tm.ind with
  | h k n s ks ih => intro d; rw [Tm.parts_mk, Tm.size_mk, List.length_cons, Tm.partss_length ih]; omega
theorem Tm.take_succ_partss (d : Nat) (ks : List Tm) (i : Nat) (t : Tm) (h : ks[i]? = some t) : Tm.partss d (ks.take (i + 1)) = Tm.partss d (ks.take i) ++ t.parts d := by
  rw [List.take_add_one, h, Tm.partss_append]; simp [Tm.partss_cons, Tm.partss_nil]
theorem Tm.take_succ_sizes (ks : List Tm) (i : Nat) (t : Tm) (h : ks[i]? = some t) : Tm.sizes (ks.take (i + 1)) = Tm.sizes (ks.take i) + t.size := by
  rw [List.take_add_one, h, Tm.sizes_append]; simp [Tm.sizes_cons, Tm.sizes_nil]

/-- The four cells of a term that stands at a place of a list. -/
structure ElemAt (p : Nat → Prop) (W : World) (a : Option Addr) (i : Nat) (k n : Int) (s : ByteArray) (v : Value) : Prop where
  ex : ∃ b o, a = some ⟨b, o, none⟩ ∧ p b ∧ W.cell? ⟨b, o + i * 4, none⟩ = some (.int .i64 k) ∧ W.cell? ⟨b, o + i * 4 + 1, none⟩ = some (.int .i64 n) ∧
    W.cell? ⟨b, o + i * 4 + 2, none⟩ = some (.string s) ∧ W.cell? ⟨b, o + i * 4 + 3, none⟩ = some v

abbrev i64ok (x : Int) : Prop := -9223372036854775808 ≤ x ∧ x ≤ 9223372036854775807

/-- A value is a term, in blocks of which p holds. -/
inductive TmIn (p : Nat → Prop) (W : World) : Value → Tm → Prop
  | mk {k n : Int} {s : ByteArray} {a : Option Addr} {cap : Nat} {ks : List Tm} (hk : i64ok k) (hn : i64ok n) (hs : s.size ≤ maxLen) (hc : ks.length ≤ cap) (hm : cap ≤ maxLen) (ha : a = none → cap = 0)
      (vs : Nat → Value) (K N : Nat → Int) (S : Nat → ByteArray) (hv : ∀ i, i < ks.length → ElemAt p W a i (K i) (N i) (S i) (vs i))
      (hkid : ∀ i (h : i < ks.length), TmIn p W (.agg #[.int .i64 (K i), .int .i64 (N i), .string (S i), vs i]) ks[i]) :
      TmIn p W (.agg #[.int .i64 k, .int .i64 n, .string s, .slice a ks.length cap]) (.mk k n s ks)

theorem TmIn.form {p : Nat → Prop} {W : World} {v : Value} {T : Tm} (h : TmIn p W v T) : ∃ k n s a len cap ks, v = .agg #[.int .i64 k, .int .i64 n, .string s, .slice a len cap] ∧ T = .mk k n s ks ∧ len = ks.length ∧
    i64ok k ∧ i64ok n ∧ s.size ≤ maxLen ∧ len ≤ cap ∧ cap ≤ maxLen ∧ (a = none → cap = 0) := by
  cases h with
  | mk hk hn hs hc hm ha => exact ⟨_, _, _, _, _, _, _, rfl, rfl, rfl, hk, hn, hs, hc, hm, ha⟩

/-- What the blocks hold that it lies in is all that it asks. -/
theorem TmIn.carry {p q : Nat → Prop} {A B : World} (h : ∀ b, p b → B.heap[b]? = A.heap[b]?) (hq : ∀ b, p b → q b) {v : Value} {T : Tm} (ht : TmIn p A v T) : TmIn q B v T := by
  induction ht with
  | mk hk hn hs hc hm ha vs K N S hv hkid ih =>
    refine .mk hk hn hs hc hm ha vs K N S (fun i hi => ?_) ih
    obtain ⟨⟨b, o, e, hb, c0, c1, c2, c3⟩⟩ := hv i hi
    exact ⟨⟨b, o, e, hq b hb, (World.cell?_of_block (a := ⟨b, _, none⟩) (h b hb)).trans c0, (World.cell?_of_block (a := ⟨b, _, none⟩) (h b hb)).trans c1, (World.cell?_of_block (a := ⟨b, _, none⟩) (h b hb)).trans c2, (World.cell?_of_block (a := ⟨b, _, none⟩) (h b hb)).trans c3⟩⟩

/-- A list of terms in memory. -/
def TsIn (p : Nat → Prop) (W : World) (v : Value) (ks : List Tm) : Prop :=
  ∃ a cap, v = .slice a ks.length cap ∧ ks.length ≤ cap ∧ cap ≤ maxLen ∧ (a = none → cap = 0) ∧
    ∀ i (hi : i < ks.length), ∃ (b o : Nat) (k' n' : Int) (s' : ByteArray) (a' : Option Addr) (l' c' : Nat), a = some ⟨b, o, none⟩ ∧ p b ∧ W.cell? ⟨b, o + i * 4, none⟩ = some (.int .i64 k') ∧ W.cell? ⟨b, o + i * 4 + 1, none⟩ = some (.int .i64 n') ∧
      W.cell? ⟨b, o + i * 4 + 2, none⟩ = some (.string s') ∧ W.cell? ⟨b, o + i * 4 + 3, none⟩ = some (.slice a' l' c') ∧ TmIn p W (.agg #[.int .i64 k', .int .i64 n', .string s', .slice a' l' c']) ks[i]

theorem TmIn.kids {p : Nat → Prop} {W : World} {k n : Int} {s : ByteArray} {v : Value} {ks : List Tm} (h : TmIn p W (.agg #[.int .i64 k, .int .i64 n, .string s, v]) (.mk k n s ks)) : TsIn p W v ks := by
  cases h with
  | mk hk hn hs hc hm ha vs K N S hv hkid =>
    refine ⟨_, _, rfl, hc, hm, ha, fun i hi => ?_⟩
    have h1 := hkid i hi
    obtain ⟨⟨b, o, e, hb, c0, c1, c2, c3⟩⟩ := hv i hi
    obtain ⟨k', n', s', a', len', cap', ks', e', _⟩ := h1.form
    simp only [Value.agg.injEq, Array.mk.injEq, List.cons.injEq, Value.int.injEq, Value.string.injEq, true_and, and_true] at e'
    obtain ⟨e0, e1, e2, e3⟩ := e'
    rw [e3] at h1 c3
    exact ⟨b, o, _, _, _, a', len', cap', e, hb, c0, c1, c2, c3, h1⟩

theorem TsIn.term {p : Nat → Prop} {W : World} {k n : Int} {s : ByteArray} {v : Value} {ks : List Tm} (h : TsIn p W v ks) (hk : i64ok k) (hn : i64ok n) (hs : s.size ≤ maxLen) : TmIn p W (.agg #[.int .i64 k, .int .i64 n, .string s, v]) (.mk k n s ks) := by
  classical
  obtain ⟨a, cap, rfl, hc, hm, ha, hx⟩ := h
  have hx' : ∀ i, ∃ (x : Int × Int × ByteArray × Value), ∀ hi : i < ks.length, ElemAt p W a i x.1 x.2.1 x.2.2.1 x.2.2.2 ∧ TmIn p W (.agg #[.int .i64 x.1, .int .i64 x.2.1, .string x.2.2.1, x.2.2.2]) ks[i] := fun i => by
    by_cases hi : i < ks.length
    · obtain ⟨b, o, k', n', s', a', l', c', e, hb, c0, c1, c2, c3, ht⟩ := hx i hi
      exact ⟨(k', n', s', .slice a' l' c'), fun _ => ⟨⟨⟨b, o, e, hb, c0, c1, c2, c3⟩⟩, ht⟩⟩
    · exact ⟨(0, 0, s, .bool true), fun h => absurd h hi⟩
  exact .mk hk hn hs hc hm ha (fun i => (Classical.choose (hx' i)).2.2.2) (fun i => (Classical.choose (hx' i)).1) (fun i => (Classical.choose (hx' i)).2.1) (fun i => (Classical.choose (hx' i)).2.2.1)
    (fun i hi => (Classical.choose_spec (hx' i) hi).1) (fun i hi => (Classical.choose_spec (hx' i) hi).2)

theorem TsIn.carry {p q : Nat → Prop} {A B : World} (h : ∀ b, p b → B.heap[b]? = A.heap[b]?) (hq : ∀ b, p b → q b) {v : Value} {ks : List Tm} (ht : TsIn p A v ks) : TsIn q B v ks := by
  have h1 := ((ht.term (k := 0) (n := 0) (s := ByteArray.mk #[]) ⟨by decide, by decide⟩ ⟨by decide, by decide⟩ (Nat.zero_le _)).carry h hq)
  exact h1.kids

/-- A value is a term, in memory below n₀. -/
abbrev IsTm (n₀ : Nat) (W : World) (v : Value) (T : Tm) : Prop := TmIn (fun b => b < n₀) W v T

theorem IsTm.form {n₀ : Nat} {W : World} {v : Value} {T : Tm} (h : IsTm n₀ W v T) : ∃ k n s a len cap ks, v = .agg #[.int .i64 k, .int .i64 n, .string s, .slice a len cap] ∧ T = .mk k n s ks ∧ len = ks.length ∧
    i64ok k ∧ i64ok n ∧ s.size ≤ maxLen ∧ len ≤ cap ∧ cap ≤ maxLen ∧ (a = none → cap = 0) := TmIn.form h

/-- A kid: its cells; it is a term. -/
theorem IsTm.kid {n₀ : Nat} {W : World} {k n : Int} {s : ByteArray} {a : Option Addr} {len cap : Nat} {ks : List Tm} (h : IsTm n₀ W (.agg #[.int .i64 k, .int .i64 n, .string s, .slice a len cap]) (.mk k n s ks)) (i : Nat) (hi : i < ks.length) :
    ∃ (b o : Nat) (k' n' : Int) (s' : ByteArray) (a' : Option Addr) (l' c' : Nat) (T' : Tm), a = some ⟨b, o, none⟩ ∧ b < n₀ ∧ W.cell? ⟨b, o + i * 4, none⟩ = some (.int .i64 k') ∧ W.cell? ⟨b, o + i * 4 + 1, none⟩ = some (.int .i64 n') ∧
      W.cell? ⟨b, o + i * 4 + 2, none⟩ = some (.string s') ∧ W.cell? ⟨b, o + i * 4 + 3, none⟩ = some (.slice a' l' c') ∧ ks[i]? = some T' ∧ IsTm n₀ W (.agg #[.int .i64 k', .int .i64 n', .string s', .slice a' l' c']) T' := by
  obtain ⟨a2, cap2, e, hc, hm, ha, hx⟩ := TmIn.kids h
  injection e with e1 e2 e3
  subst e1
  obtain ⟨b, o, k', n', s', a', l', c', e, hb, c0, c1, c2, c3, ht⟩ := hx i hi
  exact ⟨b, o, k', n', s', a', l', c', ks[i], e, hb, c0, c1, c2, c3, List.getElem?_eq_getElem hi, ht⟩

theorem IsTm.later {n₀ n₁ : Nat} {A B : World} (h : Below n₀ A B) (hn : n₀ ≤ n₁) {v : Value} {T : Tm} (ht : IsTm n₀ A v T) : IsTm n₁ B v T :=
  TmIn.carry (fun b hb => h.block b hb) (fun b hb => Nat.lt_of_lt_of_le hb hn) ht

/-- A part, as it is handed on: how deep it stands, its value, the term that it is. -/
abbrev Part (n₀ : Nat) (w0 : World) := { x : Nat × Value × Tm // IsTm n₀ w0 x.2.1 x.2.2 ∧ x.1 ≤ 4611686018427387904 ∧ x.2.2.size ≤ 4000000000000000000 }
def Part.key {n₀ : Nat} {w0 : World} (x : Part n₀ w0) : Nat × Tm := (x.1.1, x.1.2.2)

end Go.Proofs.Ytlnggaepmclbkaa

namespace Go.Proofs.Ytlnggaepmclbkaa
open Go.RowKit Go.Shelf
set_option linter.unusedVariables false
attribute [local go_sem] Oper.semAt_some

theorem room_none {F : Fence} (hd : F.depth = none) (k : Nat) : F.room k := fun d h => by rw [hd] at h; cases h
theorem RoundIn.anyDeep {F : Fence} (hd : F.depth = none) {m m' : Nat} {P : Program} {l : Nat} {f : FuncId} {tmps : Array Value} {assign body : Code} {w : World} {R : Ending → World → Prop}
    (h : RoundIn F m P l f tmps assign body w R) : RoundIn F m' P l f tmps assign body w R := ⟨h.1, fun c cs _ => h.2 c cs (room_none hd _)⟩
theorem YieldAt.anyDeep {F : Fence} (hd : F.depth = none) {m : Nat} (m' : Nat) {P : Program} {l : Nat} {args : Array Value} {W : World} {R : Ending → World → Prop} (h : YieldAt F m P l args W R) : YieldAt F m' P l args W R := by
  obtain ⟨fn, tmps, assign, body, hy, hR⟩ := h
  exact ⟨fn, tmps, assign, body, hy, RoundIn.anyDeep hd hR⟩

theorem abides_alloc {β : Type} {B : Nat} {J : β → World → Prop} (h : AbidesFrom B J) {s : β} {W : World} (hs : J s W) (o : Obj) : J s (W.alloc o) :=
  h s W _ none hs (World.grownBy_alloc W o none) (fun r e => by cases e)

/-- What a round keeps: all that lies below n₀, and each block of terms. -/
structure Keeps (n₀ : Nat) (W W' : World) : Prop where
  below : Below n₀ W W'
  terms : ∀ (b : Nat) (c : Array Value) (z : Nat × Nat), W.heap[b]? = some (.cells c 24 z) → W'.heap[b]? = some (.cells c 24 z)

theorem Keeps.refl (n₀ : Nat) (W : World) : Keeps n₀ W W := ⟨Below.refl _ _, fun _ _ _ h => h⟩
theorem Keeps.trans {n₀ : Nat} {A B C : World} (h : Keeps n₀ A B) (k : Keeps n₀ B C) : Keeps n₀ A C := ⟨h.below.trans k.below, fun b c z e => k.terms b c z (h.terms b c z e)⟩
theorem Keeps.all {n₀ : Nat} {A B : World} (h : Below A.heap.size A B) (hn : n₀ ≤ A.heap.size) : Keeps n₀ A B := ⟨h.mono hn, fun b c z e => (h.block b (Array.getElem?_eq_some_iff.1 e).1).trans e⟩
theorem Keeps.alloc {n₀ : Nat} {A B : World} (h : Keeps n₀ A B) (hn : n₀ ≤ B.heap.size) (o : Obj) : Keeps n₀ A (B.alloc o) :=
  h.trans (.all ((Below.refl _ _).alloc (Nat.le_refl _) o) hn)
theorem keeps_t {n₀ : Nat} : ∀ {A B C : World}, Keeps n₀ A B → Keeps n₀ B C → Keeps n₀ A C := fun h k => h.trans k
theorem keeps_b {n₀ : Nat} {w : World} (hn : n₀ ≤ w.heap.size) : ∀ (W : World) (l : Nat) (o o' : Obj), w.heap.size ≤ l → W.heap[l]? = some o → o.isCells = false → o.isWalk = false → Keeps n₀ W (W.putObj l o') :=
  fun W l o o' hl ho hc hw => ⟨belowK_b hn W l o o' hl ho hc hw, fun b c z e => by
    by_cases h : b = l
    · subst h; rw [ho] at e; cases e; cases hc
    · exact (World.putObj_heap_other h).trans e⟩

def Part.encs {n₀ : Nat} {w0 : World} (x : Part n₀ w0) : Array Value := #[.int .i64 (x.1.1 : Int), x.1.2.1]

set_option maxRecDepth 100000 in
set_option maxHeartbeats 2000000 in
theorem walk_in (F : Fence) (hd : F.depth = none) (hf : F.fn 42) (hro : F.round = none) (n₀ : Nat) (w0 : World) (l N B : Nat) (J Jx : List (Part n₀ w0) → World → Prop) (hJ : AbidesFrom B J)
    (hY : ∀ m pre (x : Part n₀ w0) W, J pre W → pre.length < N → YieldAt F m Try.prog l x.encs W fun e W' =>
      (e = .returned (.bool true) ∧ J (pre ++ [x]) W' ∧ Keeps n₀ W W') ∨ (e = .returned (.bool false) ∧ Jx (pre ++ [x]) W')) (T : Tm) :
    ∀ (v : Value) (d n : Nat) (pre : List (Part n₀ w0)) (W : World), IsTm n₀ w0 v T → Below n₀ w0 W → n₀ ≤ W.heap.size → J pre W → d + T.size ≤ 4611686018427387904 → T.size ≤ 4000000000000000000 → pre.length + T.size ≤ N →
      CallsIn F n Try.prog 42 #[v, .int .i64 d, .func (.yield l) #[] #[]] W fun e W' =>
        (e = .returned (.bool true) ∧ (∃ L, L.map Part.key = T.parts d ∧ J (pre ++ L) W') ∧ Keeps n₀ W W') ∨ (e = .returned (.bool false) ∧ ∃ q, q.map Part.key <+: T.parts d ∧ Jx (pre ++ q) W') := by
  induction T using Tm.ind with
  | h k n' s ks ih =>
    intro v d n pre W ht hb hn₀ hJ0 hd0 hd1 hN
    have hdd : ∀ k : Nat, (F.depth.isSome = true → 1 ≤ k) := fun k h => by rw [hd] at h; cases h
    have ht' := ht
    obtain ⟨k_, n_, s_, a, len, cap, ks_, rfl, e, rfl, hk, hn, hs, hc, hm, ha⟩ := ht'.form
    injection e with e1 e2 e3 e4
    subst e1 e2 e3 e4
    obtain ⟨W1, hW1⟩ : ∃ W1, W.alloc (.cells #[.int .i64 k, .int .i64 n', .string s, .slice a ks.length cap] 24) = W1 := ⟨_, rfl⟩
    have hJ1 : J pre W1 := by rw [← hW1]; exact abides_alloc hJ hJ0 _
    obtain ⟨fn, tmps, assign, body, hy, hR⟩ := hY (n - 1) pre ⟨(d, _, _), ht, by omega, hd1⟩ W1 hJ1 (by have := (Tm.mk k n' s ks).size_pos; omega)
    simp only [Part.encs] at hy
    subst hW1
    refine callsIn_of_wp Try.func42 rfl hf ?_ hro
    simp only [Try.ntmps42, List.size_toArray, List.length_cons, List.length_nil, Nat.reduceAdd, Nat.reduceSub, Array.replicate_succ, Array.replicate_zero, List.push_toArray, List.append_toArray, List.nil_append, List.cons_append]
    have hbox := World.alloc_heap_new W (.cells #[.int .i64 k, .int .i64 n', .string s, .slice a ks.length cap] 24)
    obtain ⟨W1, hW1⟩ : ∃ W1, W1 = W.alloc (.cells #[.int .i64 k, .int .i64 n', .string s, .slice a ks.length cap] 24) := ⟨_, rfl⟩
    have hk1 : Keeps n₀ W W1 := by rw [hW1]; exact (Keeps.refl _ _).alloc hn₀ _
    have hR' := hR.mono (R' := fun e W2 => (e = .returned (.bool true) ∧ W2.cell? ⟨W.heap.size, 3, none⟩ = some (.slice a ks.length cap) ∧ J (pre ++ [⟨(d, _, _), ht, by omega, hd1⟩]) W2 ∧ Keeps n₀ W W2) ∨ (e = .returned (.bool false) ∧ Jx (pre ++ [⟨(d, _, _), ht, by omega, hd1⟩]) W2))
      (fun e W2 h => h.elim (fun ⟨he, hj, hb2⟩ => .inl ⟨he, by simp [World.cell?, hb2.terms _ _ _ hbox], hj, hk1.trans (by rw [hW1]; exact hb2)⟩) .inr)
    clear hR hbox hk1 hW1 W1
    gi_wp2_with ((try refine ⟨hdd _, ?_⟩); refine hR'.mono ?_; clear hR'; rintro e W2 (⟨rfl, hc2, hJ2, hk2⟩ | ⟨rfl, hx2⟩))
    · gi_loopw [17] (fun i wr => ∃ (c : Nat) (L : List (Part n₀ w0)), i = .int .i64 c ∧ c ≤ ks.length ∧ L.map Part.key = (d, .mk k n' s ks) :: Tm.partss (d + 1) (ks.take c) ∧ J (pre ++ L) wr ∧ Keeps n₀ W wr)
        (fun i _ => ks.length - (intOf i).toNat)
      case atStart => exact ⟨0, [⟨(d, _, _), ht, by omega, hd1⟩], rfl, Nat.zero_le _, by simp [Part.key, Tm.partss_nil], hJ2, hk2⟩
      case round =>
        obtain ⟨c, L, rfl, hc1, hL, hJr, hkr⟩ := hrel
        clear hJ2 hk2 hc2
        by_cases hlt : c < ks.length
        · obtain ⟨b, o, k1, n1, s1, a1, l1, c1, T1, rfl, hbn, e0, e1, e2, e3, hT1, ht1⟩ := ht.kid c hlt
          have hbr := hb.trans hkr.below
          have hnr : n₀ ≤ wr.heap.size := Nat.le_trans hn₀ hkr.below.size
          have q0 := (hbr.cell (p := ⟨b, o + c * 4, none⟩) hbn).trans e0
          have q1 := (hbr.cell (p := ⟨b, o + c * 4 + 1, none⟩) hbn).trans e1
          have q2 := (hbr.cell (p := ⟨b, o + c * 4 + 2, none⟩) hbn).trans e2
          have q3 := (hbr.cell (p := ⟨b, o + c * 4 + 3, none⟩) hbn).trans e3
          have hdi : (d : Int) ≤ 4611686018427387904 := by omega
          have hsz : ks.length ≤ 4611686018427387904 := by have := Tm.length_le_sizes ks; rw [Tm.size_mk] at hd0; omega
          have hLl : L.length = 1 + Tm.sizes (ks.take c) := by
            have := congrArg List.length hL
            rw [List.length_map, List.length_cons, Tm.partss_length (fun t _ d => t.parts_length d)] at this
            omega
          have hts := Tm.take_succ_sizes ks c T1 hT1
          have htl := Tm.sizes_take_le ks (c + 1)
          have hih : ∀ W3, Keeps n₀ wr W3 → J (pre ++ L) W3 → CallsIn F (n - 1) Try.prog 42 #[.agg #[.int .i64 k1, .int .i64 n1, .string s1, .slice a1 l1 c1], .int .i64 ((d : Int) + 1), .func (.yield l) #[] #[]] W3 fun e W' =>
              (e = .returned (.bool true) ∧ ∃ L', L'.map Part.key = (d, .mk k n' s ks) :: Tm.partss (d + 1) (ks.take (c + 1)) ∧ J (pre ++ L') W' ∧ Keeps n₀ W W') ∨ (e = .returned (.bool false) ∧ ∃ q, q.map Part.key <+: (Tm.mk k n' s ks).parts d ∧ Jx (pre ++ q) W') := fun W3 h3 hJ3 => by
            have := ih T1 (List.mem_of_getElem? hT1) _ (d + 1) (n - 1) (pre ++ L) W3 ht1 (hbr.trans h3.below) (Nat.le_trans hnr h3.below.size) hJ3 (by rw [Tm.size_mk] at hd0; omega) (by rw [Tm.size_mk] at hd1; omega) (by rw [Tm.size_mk] at hN; rw [List.length_append]; omega)
            refine this.mono ?_
            rintro e W' (⟨he, ⟨L', hL', hJ'⟩, hk'⟩ | ⟨he, q, hq, hx⟩)
            · exact .inl ⟨he, L ++ L', by rw [List.map_append, hL, hL', Tm.take_succ_partss _ _ _ _ hT1]; rfl, by rw [← List.append_assoc]; exact hJ', hkr.trans (h3.trans hk')⟩
            · refine .inr ⟨he, L ++ q, ?_, by rw [← List.append_assoc]; exact hx⟩
              rw [List.map_append, hL, Tm.parts_mk]
              obtain ⟨r, hr⟩ := hq
              have h2 := Tm.take_succ_partss (d + 1) ks c T1 hT1
              have h3 := Tm.partss_append (d + 1) (ks.take (c + 1)) (ks.drop (c + 1))
              rw [List.take_append_drop, h2, ← hr] at h3
              exact ⟨r ++ Tm.partss (d + 1) (ks.drop (c + 1)), by rw [h3]; simp⟩
          have HH := Lib.hid (And.intro hL (And.intro hLl (And.intro hts (And.intro htl (And.intro hdd (And.intro hY ih))))))
          clear hL hLl hts htl ih hY e0 e1 e2 e3 hJ0 hJ1 hy ht ht'
          gi_wp2_with ((try refine ⟨HH.out.2.2.2.2.1 _, ?_⟩); gi_at_call 42; refine (hih _ ((Keeps.refl _ _).alloc hnr _) (abides_alloc hJ hJr _)).mono ?_; rintro e W3 (⟨rfl, L3, hL3, hJ3, hk3⟩ | ⟨rfl, q, hq, hx3⟩))
          · go_roundw
            case rel => exact ⟨c + 1, L3, by simp, hlt, hL3, hJ3, hk3⟩
            case measure => simp [intOf]; omega
          · go_ret
            exact .inr ⟨rfl, q, hq, hx3⟩
        · have hce : c = ks.length := by omega
          subst hce
          gi_wp2
          go_ret
          exact .inl ⟨rfl, ⟨L, by rw [hL, List.take_length, Tm.parts_mk], hJr⟩, hkr⟩
    · go_ret
      exact .inr ⟨rfl, _, by rw [Tm.parts_mk]; exact ⟨Tm.partss (d + 1) ks, by simp [Part.key]⟩, hx2⟩

set_option maxRecDepth 100000 in
set_option maxHeartbeats 1000000 in
theorem parts1_in (F : Fence) (hd : F.depth = none) (n : Nat) (h1 : F.fn 41) (hf : F.fn 42) (hro : F.round = none) (n₀ : Nat) (w0 : World) (l B Bt : Nat) (T : Tm) (v : Value) (J Jx : List (Part n₀ w0) → World → Prop) (hJ : AbidesFrom B J)
    (hY : ∀ pre (x : Part n₀ w0) W, J pre W → pre.length < T.size → YieldAt F (n - 1) Try.prog l x.encs W fun e W' =>
      (e = .returned (.bool true) ∧ J (pre ++ [x]) W' ∧ Keeps n₀ W W') ∨ (e = .returned (.bool false) ∧ Jx (pre ++ [x]) W'))
    (W : World) (ht : IsTm n₀ w0 v T) (hb : Below n₀ w0 W) (hn₀ : n₀ ≤ W.heap.size) (hs : T.size ≤ 4000000000000000000) (hbox : W.heap[Bt]? = some (.cells v.cells 24 (0, 0))) (h0 : J [] W) :
    CallsIn F n Try.prog 41 #[.func (.yield l) #[] #[], .pointer (some ⟨Bt, 0, none⟩)] W fun e W' => (∃ v, e = .returned v) ∧
      ((∃ ys, ys.map Part.key = T.parts 1 ∧ J ys W') ∨ (∃ pre, pre.map Part.key <+: T.parts 1 ∧ Jx pre W')) := by
  have hdd : ∀ k : Nat, (F.depth.isSome = true → 1 ≤ k) := fun k h => by rw [hd] at h; cases h
  have hp := walk_in F hd hf hro n₀ w0 l T.size B J Jx hJ (fun m pre x W hj hl => YieldAt.anyDeep hd m (hY pre x W hj hl)) T v 1 (n - 1) [] W ht hb hn₀ h0 (by omega) hs (by simp)
  obtain ⟨k_, n_, s_, a, len, cap, ks_, rfl, rfl, rfl, hk, hn, hs, hc, hm, ha⟩ := ht.form
  have c0 : W.cell? ⟨Bt, 0, none⟩ = some (.int .i64 k_) := by simp [World.cell?, hbox, Value.cells]
  have c1 : W.cell? ⟨Bt, 1, none⟩ = some (.int .i64 n_) := by simp [World.cell?, hbox, Value.cells]
  have c2 : W.cell? ⟨Bt, 2, none⟩ = some (.string s_) := by simp [World.cell?, hbox, Value.cells]
  have c3 : W.cell? ⟨Bt, 3, none⟩ = some (.slice a ks_.length cap) := by simp [World.cell?, hbox, Value.cells]
  clear hbox hY ht
  refine callsIn_of_wp Try.func41 rfl h1 ?_ hro
  simp only [Try.ntmps41, List.size_toArray, List.length_cons, List.length_nil, Nat.reduceAdd, Nat.reduceSub, Array.replicate_succ, Array.replicate_zero, List.push_toArray, List.append_toArray, List.nil_append, List.cons_append]
  gi_wp2_with ((try refine ⟨hdd _, ?_⟩); gi_at_call 42; refine hp.mono ?_; clear hp; rintro e W1 (⟨rfl, ⟨L, hL, hJ1⟩, _⟩ | ⟨rfl, q, hq, hx⟩))
  · go_end0
    exact ⟨⟨_, rfl⟩, .inl ⟨_, hL, by simpa using hJ1⟩⟩
  · go_end0
    exact ⟨⟨_, rfl⟩, .inr ⟨q, hq, by simpa using hx⟩⟩

set_option maxHeartbeats 1000000 in
theorem parts_in (F : Fence) (n : Nat) (h : F.fn 34) (hro : F.round = none) (c0 c1 c2 c3 : Value) (w : World) :
    CallsIn F n Try.prog 34 #[.agg #[c0, c1, c2, c3]] w fun e w' => e = .returned (.func (.func 41) #[] #[.pointer (some ⟨w.heap.size, 0, none⟩)]) ∧ w' = w.alloc (.cells #[c0, c1, c2, c3] 24) := by
  refine callsIn_of_wp Try.func34 rfl h ?_ hro
  simp only [Try.ntmps34, List.size_toArray, List.length_cons, List.length_nil, Nat.reduceAdd, Nat.reduceSub, Array.replicate_succ, Array.replicate_zero, List.push_toArray, List.append_toArray, List.nil_append, List.cons_append]
  gi_wp2
  go_ret
  exact ⟨rfl, rfl⟩

/-- What term.parts hands back: all parts of the term, in their order; or the first ones of them. -/
theorem parts_stops (F : Fence) (hd : F.depth = none) (n : Nat) (h1 : F.fn 41) (hf : F.fn 42) (hro : F.round = none) (Bt n₀ : Nat) (T : Tm) (v : Value) (w w0 : World) (hn₀ : n₀ ≤ w.heap.size) (hb : Below n₀ w0 w)
    (hbox : w.heap[Bt]? = some (.cells v.cells 24 (0, 0))) (ht : IsTm n₀ w0 v T) (hs : T.size ≤ 4000000000000000000) :
    SeqStopsK F n Try.prog 41 #[.pointer (some ⟨Bt, 0, none⟩)] (fun x : Part n₀ w0 => #[Value.int .i64 (x.1.1 : Int), x.1.2.1]) (Keeps n₀) (fun ys => ys.map Part.key = T.parts 1) (fun pre => pre.map Part.key <+: T.parts 1) T.size w := fun l J Jx W hW hJ _ hY h0 =>
  parts1_in F hd n h1 hf hro n₀ w0 l W.heap.size Bt T v J Jx hJ hY W ht (hb.trans (hW.mono hn₀)) (Nat.le_trans hn₀ hW.size) hs ((hW.block Bt (Array.getElem?_eq_some_iff.1 hbox).1).trans hbox) h0

end Go.Proofs.Ytlnggaepmclbkaa
