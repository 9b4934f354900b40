/-
  Terms: what a term is, apart from memory; when a value is that term in memory; its parts, in the order in which they are met.
-/
import Derived.RangeFuncNested
import Derived.RangeFuncBound
import Derived.RangeFuncCalls
import Derived.RangeFuncLeaves
import Derived.Shelf.Abstract
import Derived.Shelf.RegionOpen
import Derived.WalkKit
import Derived.OwnWalkIn
import Derived.TacticsInMore
import Derived.LoopNIn
import Derived.LoopIn
import Derived.Maps.OwnIn
import Derived.Maps.AppendAt
import Derived.Lib.Hide
import Derived.Test.YtbdkakpbhijilaaProg
namespace Go.Proofs.Ytbdkakpbhijilaa
open Go.RowKit Go.Shelf
set_option linter.unusedVariables false

/-- A term: its kind, its number, its name, its kids. -/
inductive Tm where
  | mk (k n : Int) (s : ByteArray) (ks : List Tm)

def Tm.kind : Tm → Int | .mk k _ _ _ => k
def Tm.num : Tm → Int | .mk _ n _ _ => n
def Tm.name : Tm → ByteArray | .mk _ _ s _ => s
def Tm.kids : Tm → List Tm | .mk _ _ _ ks => ks

theorem Tm.ind {p : Tm → Prop} (h : ∀ k n s ks, (∀ t ∈ ks, p t) → p (.mk k n s ks)) : ∀ t, p t
  | .mk k n s ks => h k n s ks fun t ht => Tm.ind h t
termination_by t => SizeOf.sizeOf t
decreasing_by
  have := List.sizeOf_lt_of_mem ht
  simp
  omega

mutual
def Tm.size : Tm → Nat
  | .mk _ _ _ ks => 1 + Tm.sizes ks
def Tm.sizes : List Tm → Nat
  | [] => 0
  | t :: ts => t.size + Tm.sizes ts
end

mutual
/-- The parts of a term, each before its kids, with how deep it stands. -/
def Tm.parts : Nat → Tm → List (Nat × Tm)
  | d, .mk k n s ks => (d, .mk k n s ks) :: Tm.partss (d + 1) ks
def Tm.partss : Nat → List Tm → List (Nat × Tm)
  | _, [] => []
  | d, t :: ts => Tm.parts d t ++ Tm.partss d ts
end

theorem Tm.size_mk (k n : Int) (s : ByteArray) (ks : List Tm) : (Tm.mk k n s ks).size = 1 + Tm.sizes ks := by rw [Tm.size]
theorem Tm.parts_mk (d : Nat) (k n : Int) (s : ByteArray) (ks : List Tm) : (Tm.mk k n s ks).parts d = (d, .mk k n s ks) :: Tm.partss (d + 1) ks := by rw [Tm.parts]
theorem Tm.sizes_cons (t : Tm) (ts : List Tm) : Tm.sizes (t :: ts) = t.size + Tm.sizes ts := by rw [Tm.sizes]
theorem Tm.sizes_nil : Tm.sizes [] = 0 := by rw [Tm.sizes]
theorem Tm.partss_cons (d : Nat) (t : Tm) (ts : List Tm) : Tm.partss d (t :: ts) = t.parts d ++ Tm.partss d ts := by rw [Tm.partss]
theorem Tm.partss_nil (d : Nat) : Tm.partss d [] = [] := by rw [Tm.partss]
theorem Tm.sizes_append (xs ys : List Tm) : Tm.sizes (xs ++ ys) = Tm.sizes xs + Tm.sizes ys := by
  induction xs with
  | nil => simp [Tm.sizes_nil]
  | cons x xs ih => rw [List.cons_append, Tm.sizes_cons, Tm.sizes_cons, ih]; omega
theorem Tm.partss_append (d : Nat) (xs ys : List Tm) : Tm.partss d (xs ++ ys) = Tm.partss d xs ++ Tm.partss d ys := by
  induction xs with
  | nil => simp [Tm.partss_nil]
  | cons x xs ih => rw [List.cons_append, Tm.partss_cons, Tm.partss_cons, ih, List.append_assoc]
theorem Tm.size_pos (t : Tm) : 1 ≤ t.size := by cases t; rw [Tm.size_mk]; omega
theorem Tm.length_le_sizes : ∀ ks : List Tm, ks.length ≤ Tm.sizes ks
  | [] => by simp
  | t :: ts => by have := Tm.length_le_sizes ts; have := t.size_pos; rw [Tm.sizes_cons, List.length_cons]; omega
theorem Tm.sizes_take_le (ks : List Tm) (i : Nat) : Tm.sizes (ks.take i) ≤ Tm.sizes ks := by
  have := Tm.sizes_append (ks.take i) (ks.drop i)
  rw [List.take_append_drop] at this
  omega
theorem Tm.size_le_sizes {t : Tm} : ∀ {ks : List Tm}, t ∈ ks → t.size ≤ Tm.sizes ks
  | u :: us, h => by
    rw [Tm.sizes_cons]
    rcases List.mem_cons.1 h with rfl | h
    · omega
    · have := Tm.size_le_sizes h; omega
theorem Tm.partss_length {d : Nat} : ∀ {ks : List Tm}, (∀ t ∈ ks, ∀ d, (t.parts d).length = t.size) → (Tm.partss d ks).length = Tm.sizes ks
  | [], _ => by simp [Tm.partss_nil, Tm.sizes_nil]
  | t :: ts, h => by rw [Tm.partss_cons, Tm.sizes_cons, List.length_append, h t (by simp), Tm.partss_length fun u hu => h u (by simp [hu])]
theorem Tm.parts_length (t : Tm) : ∀ d, (t.parts d).length = t.size := by
  induction t using Tm.ind with
  | h k n s ks ih => intro d; rw [Tm.parts_mk, Tm.size_mk, List.length_cons, Tm.partss_length ih]; omega
theorem Tm.take_succ_partss (d : Nat) (ks : List Tm) (i : Nat) (t : Tm) (h : ks[i]? = some t) : Tm.partss d (ks.take (i + 1)) = Tm.partss d (ks.take i) ++ t.parts d := by
  rw [List.take_add_one, h, Tm.partss_append]; simp [Tm.partss_cons, Tm.partss_nil]
theorem Tm.take_succ_sizes (ks : List Tm) (i : Nat) (t : Tm) (h : ks[i]? = some t) : Tm.sizes (ks.take (i + 1)) = Tm.sizes (ks.take i) + t.size := by
  rw [List.take_add_one, h, Tm.sizes_append]; simp [Tm.sizes_cons, Tm.sizes_nil]

/-- The four cells of a term that stands at a place of a list. -/
structure ElemAt (p : Nat → Prop) (W : World) (a : Option Addr) (i : Nat) (k n : Int) (s : ByteArray) (v : Value) : Prop where
  ex : ∃ b o, a = some ⟨b, o, none⟩ ∧ p b ∧ W.cell? ⟨b, o + i * 4, none⟩ = some (.int .i64 k) ∧ W.cell? ⟨b, o + i * 4 + 1, none⟩ = some (.int .i64 n) ∧
    W.cell? ⟨b, o + i * 4 + 2, none⟩ = some (.string s) ∧ W.cell? ⟨b, o + i * 4 + 3, none⟩ = some v

abbrev i64ok (x : Int) : Prop := -9223372036854775808 ≤ x ∧ x ≤ 9223372036854775807

/-- A value is a term, in blocks of which p holds. -/
inductive TmIn (p : Nat → Prop) (W : World) : Value → Tm → Prop
  | mk {k n : Int} {s : ByteArray} {a : Option Addr} {cap : Nat} {ks : List Tm} (hk : i64ok k) (hn : i64ok n) (hs : s.size ≤ maxLen) (hc : ks.length ≤ cap) (hm : cap ≤ maxLen) (ha : a = none → cap = 0)
      (vs : Nat → Value) (K N : Nat → Int) (S : Nat → ByteArray) (hv : ∀ i, i < ks.length → ElemAt p W a i (K i) (N i) (S i) (vs i))
      (hkid : ∀ i (h : i < ks.length), TmIn p W (.agg #[.int .i64 (K i), .int .i64 (N i), .string (S i), vs i]) ks[i]) :
      TmIn p W (.agg #[.int .i64 k, .int .i64 n, .string s, .slice a ks.length cap]) (.mk k n s ks)

theorem TmIn.form {p : Nat → Prop} {W : World} {v : Value} {T : Tm} (h : TmIn p W v T) : ∃ k n s a len cap ks, v = .agg #[.int .i64 k, .int .i64 n, .string s, .slice a len cap] ∧ T = .mk k n s ks ∧ len = ks.length ∧
    i64ok k ∧ i64ok n ∧ s.size ≤ maxLen ∧ len ≤ cap ∧ cap ≤ maxLen ∧ (a = none → cap = 0) := by
  cases h with
  | mk hk hn hs hc hm ha => exact ⟨_, _, _, _, _, _, _, rfl, rfl, rfl, hk, hn, hs, hc, hm, ha⟩

/-- What the blocks hold that it lies in is all that it asks. -/
theorem TmIn.carry {p q : Nat → Prop} {A B : World} (h : ∀ b, p b → B.heap[b]? = A.heap[b]?) (hq : ∀ b, p b → q b) {v : Value} {T : Tm} (ht : TmIn p A v T) : TmIn q B v T := by
  induction ht with
  | mk hk hn hs hc hm ha vs K N S hv hkid ih =>
    refine .mk hk hn hs hc hm ha vs K N S (fun i hi => ?_) ih
    obtain ⟨⟨b, o, e, hb, c0, c1, c2, c3⟩⟩ := hv i hi
    exact ⟨⟨b, o, e, hq b hb, (World.cell?_of_block (a := ⟨b, _, none⟩) (h b hb)).trans c0, (World.cell?_of_block (a := ⟨b, _, none⟩) (h b hb)).trans c1, (World.cell?_of_block (a := ⟨b, _, none⟩) (h b hb)).trans c2, (World.cell?_of_block (a := ⟨b, _, none⟩) (h b hb)).trans c3⟩⟩

/-- A list of terms in memory. -/
def TsIn (p : Nat → Prop) (W : World) (v : Value) (ks : List Tm) : Prop :=
  ∃ a cap, v = .slice a ks.length cap ∧ ks.length ≤ cap ∧ cap ≤ maxLen ∧ (a = none → cap = 0) ∧
    ∀ i (hi : i < ks.length), ∃ (b o : Nat) (k' n' : Int) (s' : ByteArray) (a' : Option Addr) (l' c' : Nat), a = some ⟨b, o, none⟩ ∧ p b ∧ W.cell? ⟨b, o + i * 4, none⟩ = some (.int .i64 k') ∧ W.cell? ⟨b, o + i * 4 + 1, none⟩ = some (.int .i64 n') ∧
      W.cell? ⟨b, o + i * 4 + 2, none⟩ = some (.string s') ∧ W.cell? ⟨b, o + i * 4 + 3, none⟩ = some (.slice a' l' c') ∧ TmIn p W (.agg #[.int .i64 k', .int .i64 n', .string s', .slice a' l' c']) ks[i]

theorem TmIn.kids {p : Nat → Prop} {W : World} {k n : Int} {s : ByteArray} {v : Value} {ks : List Tm} (h : TmIn p W (.agg #[.int .i64 k, .int .i64 n, .string s, v]) (.mk k n s ks)) : TsIn p W v ks := by
  cases h with
  | mk hk hn hs hc hm ha vs K N S hv hkid =>
    refine ⟨_, _, rfl, hc, hm, ha, fun i hi => ?_⟩
    have h1 := hkid i hi
    obtain ⟨⟨b, o, e, hb, c0, c1, c2, c3⟩⟩ := hv i hi
    obtain ⟨k', n', s', a', len', cap', ks', e', _⟩ := h1.form
    simp only [Value.agg.injEq, Array.mk.injEq, List.cons.injEq, Value.int.injEq, Value.string.injEq, true_and, and_true] at e'
    obtain ⟨e0, e1, e2, e3⟩ := e'
    rw [e3] at h1 c3
    exact ⟨b, o, _, _, _, a', len', cap', e, hb, c0, c1, c2, c3, h1⟩

theorem TsIn.term {p : Nat → Prop} {W : World} {k n : Int} {s : ByteArray} {v : Value} {ks : List Tm} (h : TsIn p W v ks) (hk : i64ok k) (hn : i64ok n) (hs : s.size ≤ maxLen) : TmIn p W (.agg #[.int .i64 k, .int .i64 n, .string s, v]) (.mk k n s ks) := by
  classical
  obtain ⟨a, cap, rfl, hc, hm, ha, hx⟩ := h
  have hx' : ∀ i, ∃ (x : Int × Int × ByteArray × Value), ∀ hi : i < ks.length, ElemAt p W a i x.1 x.2.1 x.2.2.1 x.2.2.2 ∧ TmIn p W (.agg #[.int .i64 x.1, .int .i64 x.2.1, .string x.2.2.1, x.2.2.2]) ks[i] := fun i => by
    by_cases hi : i < ks.length
    · obtain ⟨b, o, k', n', s', a', l', c', e, hb, c0, c1, c2, c3, ht⟩ := hx i hi
      exact ⟨(k', n', s', .slice a' l' c'), fun _ => ⟨⟨⟨b, o, e, hb, c0, c1, c2, c3⟩⟩, ht⟩⟩
    · exact ⟨(0, 0, s, .bool true), fun h => absurd h hi⟩
  exact .mk hk hn hs hc hm ha (fun i => (Classical.choose (hx' i)).2.2.2) (fun i => (Classical.choose (hx' i)).1) (fun i => (Classical.choose (hx' i)).2.1) (fun i => (Classical.choose (hx' i)).2.2.1)
    (fun i hi => (Classical.choose_spec (hx' i) hi).1) (fun i hi => (Classical.choose_spec (hx' i) hi).2)

theorem TsIn.carry {p q : Nat → Prop} {A B : World} (h : ∀ b, p b → B.heap[b]? = A.heap[b]?) (hq : ∀ b, p b → q b) {v : Value} {ks : List Tm} (ht : TsIn p A v ks) : TsIn q B v ks := by
  have h1 := ((ht.term (k := 0) (n := 0) (s := ByteArray.mk #[]) ⟨by decide, by decide⟩ ⟨by decide, by decide⟩ (Nat.zero_le _)).carry h hq)
  exact h1.kids

/-- A value is a term, in memory below n₀. -/
abbrev IsTm (n₀ : Nat) (W : World) (v : Value) (T : Tm) : Prop := TmIn (fun b => b < n₀) W v T

theorem IsTm.form {n₀ : Nat} {W : World} {v : Value} {T : Tm} (h : IsTm n₀ W v T) : ∃ k n s a len cap ks, v = .agg #[.int .i64 k, .int .i64 n, .string s, .slice a len cap] ∧ T = .mk k n s ks ∧ len = ks.length ∧
    i64ok k ∧ i64ok n ∧ s.size ≤ maxLen ∧ len ≤ cap ∧ cap ≤ maxLen ∧ (a = none → cap = 0) := TmIn.form h

/-- A kid: its cells; it is a term. -/
theorem IsTm.kid {n₀ : Nat} {W : World} {k n : Int} {s : ByteArray} {a : Option Addr} {len cap : Nat} {ks : List Tm} (h : IsTm n₀ W (.agg #[.int .i64 k, .int .i64 n, .string s, .slice a len cap]) (.mk k n s ks)) (i : Nat) (hi : i < ks.length) :
    ∃ (b o : Nat) (k' n' : Int) (s' : ByteArray) (a' : Option Addr) (l' c' : Nat) (T' : Tm), a = some ⟨b, o, none⟩ ∧ b < n₀ ∧ W.cell? ⟨b, o + i * 4, none⟩ = some (.int .i64 k') ∧ W.cell? ⟨b, o + i * 4 + 1, none⟩ = some (.int .i64 n') ∧
      W.cell? ⟨b, o + i * 4 + 2, none⟩ = some (.string s') ∧ W.cell? ⟨b, o + i * 4 + 3, none⟩ = some (.slice a' l' c') ∧ ks[i]? = some T' ∧ IsTm n₀ W (.agg #[.int .i64 k', .int .i64 n', .string s', .slice a' l' c']) T' := by
  obtain ⟨a2, cap2, e, hc, hm, ha, hx⟩ := TmIn.kids h
  injection e with e1 e2 e3
  subst e1
  obtain ⟨b, o, k', n', s', a', l', c', e, hb, c0, c1, c2, c3, ht⟩ := hx i hi
  exact ⟨b, o, k', n', s', a', l', c', ks[i], e, hb, c0, c1, c2, c3, List.getElem?_eq_getElem hi, ht⟩

theorem IsTm.later {n₀ n₁ : Nat} {A B : World} (h : Below n₀ A B) (hn : n₀ ≤ n₁) {v : Value} {T : Tm} (ht : IsTm n₀ A v T) : IsTm n₁ B v T :=
  TmIn.carry (fun b hb => h.block b hb) (fun b hb => Nat.lt_of_lt_of_le hb hn) ht

/-- A part, as it is handed on: how deep it stands, its value, the term that it is. -/
abbrev Part (n₀ : Nat) (w0 : World) := { x : Nat × Value × Tm // IsTm n₀ w0 x.2.1 x.2.2 ∧ x.1 ≤ 4611686018427387904 ∧ x.2.2.size ≤ 4000000000000000000 }
def Part.key {n₀ : Nat} {w0 : World} (x : Part n₀ w0) : Nat × Tm := (x.1.1, x.1.2.2)

end Go.Proofs.Ytbdkakpbhijilaa
