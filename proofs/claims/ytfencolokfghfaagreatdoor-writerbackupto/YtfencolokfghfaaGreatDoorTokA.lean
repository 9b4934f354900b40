/-
  The walks of the functions by which bytes are told apart: closures over a span, over bytes that are listed, over several kinds; how many bytes of a kind a text begins with.
-/
import Derived.Test.YtfencolokfghfaaGreatDoorTokG
import Derived.Test.YtfencolokfghfaaGreatDoorShelf
import Derived.Shelf.GgClosure.Gives
import Derived.WalkKit
import Derived.WalkSpells
import Derived.WalkLawsBesides
import Derived.Deep.QuietTactic
import Derived.BigQuiet
import Derived.Lib.Hide
import Derived.Laws.EntriesVeiled
namespace Go.Proofs.YtfencolokfghfaaGreatDoor
open Go.RowKit Go.Lib
set_option linter.unusedVariables false

def encB (c : UInt8) : Value := .int .u8 (c.toNat : Int)

/-- All that lies from block m on lies as it was. -/
def KeepB (m : Nat) (w W : World) : Prop := w.heap.size ≤ W.heap.size ∧ ∀ b, m ≤ b → b < w.heap.size → W.heap[b]? = w.heap[b]?
theorem KeepB.refl (m : Nat) (w : World) : KeepB m w w := ⟨Nat.le_refl _, fun _ _ _ => rfl⟩
theorem KeepB.trans {m : Nat} {A B C : World} (h : KeepB m A B) (k : KeepB m B C) : KeepB m A C :=
  ⟨Nat.le_trans h.1 k.1, fun b h1 h2 => (k.2 b h1 (Nat.lt_of_lt_of_le h2 h.1)).trans (h.2 b h1 h2)⟩
theorem KeepB.of_below {m : Nat} {A B : World} (h : Below A.heap.size A B) : KeepB m A B := ⟨h.size, fun b _ h2 => h.block b h2⟩
theorem KeepB.drewN {m : Nat} {A B : World} (h : KeepB m A B) (q : Nat) : KeepB m A (B.drewN q) := h
theorem KeepB.cell {m : Nat} {A B : World} (h : KeepB m A B) {b o : Nat} (h1 : m ≤ b) (h2 : b < A.heap.size) : B.cell? ⟨b, o, none⟩ = A.cell? ⟨b, o, none⟩ :=
  World.cell?_of_block (w := A) (a := ⟨b, o, none⟩) (h.2 b h1 h2)
theorem KeepB.setCell {m : Nat} {A B : World} (h : KeepB m A B) {b o : Nat} (hb : b < m) (v : Value) : KeepB m A (B.setCell ⟨b, o, none⟩ v) :=
  ⟨by simpa using h.1, fun k h1 h2 => (Below.heap_setCell B ⟨b, o, none⟩ v k (by simp; omega)).trans (h.2 k h1 h2)⟩
theorem KeepB.mono {m m' : Nat} {A B : World} (h : KeepB m A B) (hm : m ≤ m') : KeepB m' A B := ⟨h.1, fun b h1 h2 => h.2 b (Nat.le_trans hm h1) h2⟩

/-- What a function value answers: p, whatever was made behind it. -/
def PredB (m : Nat) (w : World) (g : Nat) (lb : Array Value) (p : UInt8 → Bool) : Prop :=
  ∀ (W : World) (c : UInt8), KeepB m w W → FnGives Tryz.prog g lb #[encB c] (.bool (p c)) W
/-- A function value that tells of a byte what p tells; all that it reads lies from block m on. -/
def Cl (m : Nat) (w : World) (g : Nat) (lb : Array Value) (p : UInt8 → Bool) : Prop :=
  PredB m w g lb p ∧ ∀ args w, (callFunc g args).run Tryz.prog w = .ok (.enter g args) w
theorem Cl.keep {m : Nat} {w W : World} {g : Nat} {lb : Array Value} {p : UInt8 → Bool} (h : Cl m w g lb p) (hb : KeepB m w W) : Cl m W g lb p := ⟨fun W' c k => h.1 W' c (hb.trans k), h.2⟩
theorem Cl.later {m : Nat} {w W : World} {g : Nat} {lb : Array Value} {p : UInt8 → Bool} (h : Cl m w g lb p) (hb : Below w.heap.size w W) : Cl m W g lb p := h.keep (.of_below hb)
theorem Cl.mono {m m' : Nat} {w : World} {g : Nat} {lb : Array Value} {p : UInt8 → Bool} (h : Cl m w g lb p) (hm : m' ≤ m) : Cl m' w g lb p := ⟨fun W' c k => h.1 W' c (k.mono hm), h.2⟩

set_option maxHeartbeats 400000 in
theorem span1_at (m : Nat) (w : World) (A B : Nat) (a b : Nat) (hA : A < w.heap.size) (hB : B < w.heap.size) (mA : m ≤ A) (mB : m ≤ B) (ha : w.cell? ⟨A, 0, none⟩ = some (.int .u8 a)) (hb : w.cell? ⟨B, 0, none⟩ = some (.int .u8 b)) :
    PredB m w 73 #[.pointer (some ⟨A, 0, none⟩), .pointer (some ⟨B, 0, none⟩)] (spanB a b) := by
  intro W c hw
  have ha' := (hw.cell (o := 0) mA hA).trans ha
  have hb' := (hw.cell (o := 0) mB hB).trans hb
  unfold FnGives encB
  by_cases h1 : (a : Int) ≤ (c.toNat : Int)
  · go_enter Tryz.func73, Tryz.ntmps73
    go_wp2
    go_ret
    refine ⟨?_, 0, rfl⟩
    have e : decide (a ≤ c.toNat) = true := by simp; omega
    simp [spanB, e]
  · go_enter Tryz.func73, Tryz.ntmps73
    go_wp2
    go_ret
    refine ⟨?_, 0, rfl⟩
    have e : decide (a ≤ c.toNat) = false := by simp; omega
    simp [spanB, e]

theorem indexByte_mem : ∀ (l : List UInt8) (c : UInt8), decide (Lib.indexByte l c ≥ 0) = amongB l c
  | [], c => by simp [Lib.indexByte, amongB]
  | b :: l, c => by
    have ih := indexByte_mem l c
    unfold amongB at ih ⊢
    unfold Lib.indexByte
    by_cases h : b = c
    · subst h; simp
    · have h' : (b == c) = false := by simp [h]
      have h'' : (c == b) = false := by simp [Ne.symm h]
      rw [h']
      simp only [Bool.false_eq_true, if_false, List.contains_cons, h'', Bool.false_or]
      rw [← ih]
      by_cases hm : Lib.indexByte l c = -1
      · simp [hm]
      · have : (Lib.indexByte l c == -1) = false := by simp [hm]
        rw [this]
        simp only [Bool.false_eq_true, if_false]
        have := Lib.indexByte_ge l c
        rw [Bool.eq_iff_iff]; simp; omega

set_option maxHeartbeats 400000 in
theorem among1_at (m : Nat) (w : World) (A : Nat) (s : ByteArray) (l : List UInt8) (hs : s.data.toList = l) (hA : A < w.heap.size) (mA : m ≤ A) (ha : w.cell? ⟨A, 0, none⟩ = some (.string s)) :
    PredB m w 75 #[.pointer (some ⟨A, 0, none⟩)] (amongB l) := by
  intro W c hw
  have ha' := (hw.cell (o := 0) mA hA).trans ha
  unfold FnGives encB
  go_enter Tryz.func75, Tryz.ntmps75
  go_wp2_with (go_at_call 76; refine (Tryz.strings_IndexByte _ _ _).mono ?_; rintro e w' ⟨rfl, rfl⟩)
  go_ret
  refine ⟨?_, 0, rfl⟩
  have e : ((c.toNat : Int)).toNat.toUInt8 = c := by simp
  exact congrArg (fun b => Ending.returned (Value.bool b)) (indexByte_mem l c)

/-- A row of function values, with what each tells. -/
def Row (m : Nat) (w : World) (B n : Nat) (ps : List (UInt8 → Bool)) : Prop :=
  ps.length = n ∧ ∀ k p, ps[k]? = some p → ∃ g lb, w.cell? ⟨B, k, none⟩ = some (.func (.func g) #[] lb) ∧ Cl m w g lb p

def anyB (ps : List (UInt8 → Bool)) (c : UInt8) : Bool := ps.any fun p => p c

set_option maxHeartbeats 800000 in
theorem either1_at (m : Nat) (w : World) (A B n : Nat) (ps : List (UInt8 → Bool)) (hn : n < 1000) (hA : A < w.heap.size) (hB : B < w.heap.size) (mA : m ≤ A) (mB : m ≤ B) (ha : w.cell? ⟨A, 0, none⟩ = some (.slice (some ⟨B, 0, none⟩) n n)) (hr : Row m w B n ps) :
    PredB m w 74 #[.pointer (some ⟨A, 0, none⟩)] (anyB ps) := by
  intro W c hw
  have ha' := (hw.cell (o := 0) mA hA).trans ha
  unfold FnGives encB
  go_enter Tryz.func74, Tryz.ntmps74
  go_wp2
  go_loopw [8] (fun i wr => ∃ k q : Nat, k ≤ n ∧ i = .int .i64 k ∧ anyB ps c = anyB (ps.drop k) c ∧ wr = W.drewN q) (fun i _ => n - (intOf i).toNat)
  case atStart => exact ⟨0, 0, Nat.zero_le _, rfl, rfl, rfl⟩
  case round =>
    obtain ⟨k, q, hk, rfl, hd, rfl⟩ := hrel
    by_cases hlt : k < n
    · have hk' : k < ps.length := by rw [hr.1]; exact hlt
      obtain ⟨g, lb, hv, hp, eg⟩ := hr.2 k ps[k] (List.getElem?_eq_getElem hk')
      have hv' := (hw.cell (o := k) mB hB).trans hv
      have hdr : anyB (ps.drop k) c = (ps[k] c || anyB (ps.drop (k + 1)) c) := by
        unfold anyB
        rw [List.drop_eq_getElem_cons hk', List.any_cons]
      have hp' := fun q => hp (W.drewN q) c (hw.drewN q)
      unfold FnGives encB at hp'
      generalize hb : ps[k] c = pv at hp' hdr
      cases pv
      · go_wp2_with (go_at_fn g; refine (hp' _).mono ?_; rintro e w' ⟨rfl, q, rfl⟩)
        go_roundw
        case rel => exact ⟨k + 1, _, hlt, by go_num, by rw [hd, hdr]; simp, rfl⟩
        case measure => simp [intOf]; omega
      · go_wp2_with (go_at_fn g; refine (hp' _).mono ?_; rintro e w' ⟨rfl, q, rfl⟩)
        go_ret
        exact ⟨by rw [hd, hdr]; rfl, _, rfl⟩
    · go_wp2
      go_ret
      have e : k = ps.length := by rw [hr.1]; omega
      refine ⟨?_, q, rfl⟩
      rw [hd, e]; simp [anyB]

/-- The bytes of a text, one by one. -/
theorem get_of {s : ByteArray} {l : List UInt8} (hs : s.data.toList = l) {k : Nat} (h : k < s.size) : ∃ c, l[k]? = some c ∧ s[k] = c := by
  subst hs
  refine ⟨s[k], ?_, rfl⟩
  have h' : k < s.data.toList.length := by simpa using h
  rw [List.getElem?_eq_getElem h']
  rfl
theorem len_of {s : ByteArray} {l : List UInt8} (hs : s.data.toList = l) : s.size = l.length := by
  subst hs
  simp

set_option maxHeartbeats 800000 in
theorem run_at (m : Nat) (w : World) (s : ByteArray) (l : List UInt8) (hs : s.data.toList = l) (hm : s.size ≤ 9223372036854775807) (g : Nat) (lb : Array Value) (p : UInt8 → Bool) (hc : Cl m w g lb p) :
    Calls Tryz.prog 59 #[.string s, .func (.func g) #[] lb] w fun e w' => e = .returned (.int .i64 (pre p l : Nat)) ∧ ∃ q, w' = w.drewN q := by
  obtain ⟨hp, eg⟩ := hc
  have hl := len_of hs
  go_enter Tryz.func59, Tryz.ntmps59
  go_wp2
  go_loopw [5] (fun i wr => ∃ k q : Nat, k ≤ s.size ∧ i = .int .i64 k ∧ pre p l = k + pre p (l.drop k) ∧ wr = w.drewN q) (fun i _ => s.size - (intOf i).toNat)
  case atStart => exact ⟨0, 0, Nat.zero_le _, rfl, by simp, rfl⟩
  case round =>
    obtain ⟨k, q, hk, rfl, hd, rfl⟩ := hrel
    by_cases hlt : k < s.size
    · obtain ⟨c, hc, hg⟩ := get_of hs hlt
      have hdr : pre p (l.drop k) = if p c then pre p (l.drop (k + 1)) + 1 else 0 := by
        rw [List.drop_eq_getElem_cons (by rw [← hl]; exact hlt)]
        have : l[k]'(by rw [← hl]; exact hlt) = c := by
          have := List.getElem?_eq_getElem (l := l) (i := k) (by rw [← hl]; exact hlt)
          rw [hc] at this; exact (Option.some.inj this).symm
        rw [this, pre]
      have hp' := fun q => hp (w.drewN q) c ((KeepB.refl m w).drewN q)
      unfold FnGives encB at hp'
      generalize hb : p c = pv at hp' hdr
      cases pv
      · go_wp2_with (go_at_fn g; refine (hp' _).mono ?_; rintro e w' ⟨rfl, q, rfl⟩)
        go_ret
        refine ⟨?_, _, rfl⟩
        rw [hd, hdr]; simp
      · go_wp2_with (go_at_fn g; refine (hp' _).mono ?_; rintro e w' ⟨rfl, q, rfl⟩)
        go_roundw
        case rel => exact ⟨k + 1, _, hlt, by go_num, by rw [hd, hdr]; simp; omega, rfl⟩
        case measure => simp [intOf]; omega
    · go_wp2
      go_ret
      have e : k = l.length := by omega
      refine ⟨?_, q, rfl⟩
      rw [hd, e]; simp [pre]

set_option maxHeartbeats 400000 in
theorem span_at (w : World) (a' b' : Int) (a b : Nat) (ha : a' = a) (hb : b' = b) :
    Calls Tryz.prog 54 #[.int .u8 a', .int .u8 b'] w fun e w' => ∃ g lb, e = .returned (.func (.func g) #[] lb) ∧ Cl w.heap.size w' g lb (spanB a b) ∧ Below w.heap.size w w' := by
  subst ha hb
  go_enter Tryz.func54, Tryz.ntmps54
  go_wp2
  go_ret
  refine ⟨_, _, rfl, ⟨span1_at _ _ w.heap.size (w.heap.size + 1) a b (by simp; omega) (by simp) (Nat.le_refl _) (by omega) (by simp) (by simp), enters_of Tryz.func73 (by kernel_rfl) rfl⟩, ?_⟩
  exact ((Below.refl _ _).alloc (Nat.le_refl _) _).alloc (by simp) _

set_option maxHeartbeats 400000 in
theorem among_at (w : World) (s : ByteArray) (l : List UInt8) (hs : s.data.toList = l) :
    Calls Tryz.prog 56 #[.string s] w fun e w' => ∃ g lb, e = .returned (.func (.func g) #[] lb) ∧ Cl w.heap.size w' g lb (amongB l) ∧ Below w.heap.size w w' := by
  go_enter Tryz.func56, Tryz.ntmps56
  go_wp2
  go_ret
  refine ⟨_, _, rfl, ⟨among1_at _ _ w.heap.size s l hs (by simp) (Nat.le_refl _) (by simp), enters_of Tryz.func75 (by kernel_rfl) rfl⟩, ?_⟩
  exact (Below.refl _ _).alloc (Nat.le_refl _) _

set_option maxHeartbeats 400000 in
theorem either_at (m : Nat) (w : World) (B n : Nat) (ps : List (UInt8 → Bool)) (hn : n < 1000) (hB : B < w.heap.size) (mB : m ≤ B) (hr : Row m w B n ps) :
    Calls Tryz.prog 55 #[.slice (some ⟨B, 0, none⟩) n n] w fun e w' => ∃ g lb, e = .returned (.func (.func g) #[] lb) ∧ Cl m w' g lb (anyB ps) ∧ Below w.heap.size w w' := by
  have hb : Below w.heap.size w (w.alloc (.cells #[.slice (some ⟨B, 0, none⟩) n n] 118)) := (Below.refl _ _).alloc (Nat.le_refl _) _
  go_enter Tryz.func55, Tryz.ntmps55
  go_wp2
  go_ret
  refine ⟨_, _, rfl, ⟨either1_at m _ w.heap.size B n ps hn (by simp) (by simp; omega) (by omega) mB (by simp) ⟨hr.1, fun k p hp => ?_⟩, enters_of Tryz.func74 (by kernel_rfl) rfl⟩, hb⟩
  obtain ⟨g, lb, hv, hc⟩ := hr.2 k p hp
  exact ⟨g, lb, (hb.cell (p := ⟨B, k, none⟩) hB).trans hv, hc.later hb⟩

theorem anyB_up : anyB [spanB 65 90, amongB [95]] = upB := by funext c; simp [anyB, upB]
theorem anyB_word : anyB [lowB, upB, digB] = wordB := by funext c; simp [anyB, wordB]

theorem Row.mk2 {m : Nat} {w : World} {B : Nat} {g0 g1 : Nat} {b0 b1 : Array Value} {p0 p1 : UInt8 → Bool} (c0 : w.cell? ⟨B, 0, none⟩ = some (.func (.func g0) #[] b0)) (c1 : w.cell? ⟨B, 1, none⟩ = some (.func (.func g1) #[] b1)) (h0 : Cl m w g0 b0 p0) (h1 : Cl m w g1 b1 p1) : Row m w B 2 [p0, p1] := by
  refine ⟨rfl, fun k p hp => ?_⟩
  rcases k with _ | _ | k
  · cases hp; exact ⟨_, _, c0, h0⟩
  · cases hp; exact ⟨_, _, c1, h1⟩
  · cases hp
theorem Row.mk3 {m : Nat} {w : World} {B : Nat} {g0 g1 g2 : Nat} {b0 b1 b2 : Array Value} {p0 p1 p2 : UInt8 → Bool} (c0 : w.cell? ⟨B, 0, none⟩ = some (.func (.func g0) #[] b0)) (c1 : w.cell? ⟨B, 1, none⟩ = some (.func (.func g1) #[] b1)) (c2 : w.cell? ⟨B, 2, none⟩ = some (.func (.func g2) #[] b2)) (h0 : Cl m w g0 b0 p0) (h1 : Cl m w g1 b1 p1) (h2 : Cl m w g2 b2 p2) : Row m w B 3 [p0, p1, p2] := by
  refine ⟨rfl, fun k p hp => ?_⟩
  rcases k with _ | _ | _ | k
  · cases hp; exact ⟨_, _, c0, h0⟩
  · cases hp; exact ⟨_, _, c1, h1⟩
  · cases hp; exact ⟨_, _, c2, h2⟩
  · cases hp

/-- The seven kinds. -/
structure Fs where
  g0 : Nat
  g1 : Nat
  g2 : Nat
  g3 : Nat
  g4 : Nat
  g5 : Nat
  g6 : Nat
  b0 : Array Value
  b1 : Array Value
  b2 : Array Value
  b3 : Array Value
  b4 : Array Value
  b5 : Array Value
  b6 : Array Value
structure Kinds (m : Nat) (w : World) (k : Fs) : Prop where
  low : Cl m w k.g0 k.b0 lowB
  up : Cl m w k.g1 k.b1 upB
  dig : Cl m w k.g2 k.b2 digB
  word : Cl m w k.g3 k.b3 wordB
  sym : Cl m w k.g4 k.b4 symB
  pun : Cl m w k.g5 k.b5 punB
  sin : Cl m w k.g6 k.b6 sinB
theorem Kinds.keep {m : Nat} {w W : World} {k : Fs} (h : Kinds m w k) (hb : KeepB m w W) : Kinds m W k :=
  ⟨h.low.keep hb, h.up.keep hb, h.dig.keep hb, h.word.keep hb, h.sym.keep hb, h.pun.keep hb, h.sin.keep hb⟩
theorem Kinds.later {m : Nat} {w W : World} {k : Fs} (h : Kinds m w k) (hb : Below w.heap.size w W) : Kinds m W k := h.keep (.of_below hb)
/-- .. as the cells of a struct. -/
abbrev fcells (k : Fs) : Array Value := #[.func (.func k.g0) #[] k.b0, .func (.func k.g1) #[] k.b1, .func (.func k.g2) #[] k.b2, .func (.func k.g3) #[] k.b3, .func (.func k.g4) #[] k.b4, .func (.func k.g5) #[] k.b5, .func (.func k.g6) #[] k.b6]

theorem bel {A B C : World} (h : Below A.heap.size A B) (k : Below B.heap.size B C) : Below A.heap.size A C := h.trans (k.mono h.size)
theorem bel_al {A B : World} (h : Below A.heap.size A B) (o : Obj) : Below A.heap.size A (B.alloc o) := h.alloc h.size o

theorem alloc_new (w : World) (o : Obj) : (w.alloc o).heap[w.heap.size]? = some o := by
  show (w.heap.push o)[w.heap.size]? = some o
  exact Array.getElem?_push_size
theorem box7 {w : World} {B : Nat} {a0 a1 a2 a3 a4 a5 a6 : Value} {t : TypeId} (h : w.heap[B]? = some (.cells #[a0, a1, a2, a3, a4, a5, a6] t (0, 0))) :
    w.cell? ⟨B, 0, none⟩ = some a0 ∧ w.cell? ⟨B, 1, none⟩ = some a1 ∧ w.cell? ⟨B, 2, none⟩ = some a2 ∧ w.cell? ⟨B, 3, none⟩ = some a3 ∧ w.cell? ⟨B, 4, none⟩ = some a4 ∧ w.cell? ⟨B, 5, none⟩ = some a5 ∧ w.cell? ⟨B, 6, none⟩ = some a6 ∧ ∀ j, w.frozen? ⟨B, j, none⟩ = false := by
  refine ⟨?_, ?_, ?_, ?_, ?_, ?_, ?_, fun j => ?_⟩ <;> simp [World.cell?, World.frozen?, h]
theorem tset_block {W : World} {B o : Nat} {cur : Array Value} {t : TypeId} {z : Nat × Nat} (h : W.heap[B]? = some (.cells cur t z)) (v : Value) : (W.setCell ⟨B, o, none⟩ v).heap[B]? = some (.cells (cur.setIfInBounds o v) t z) := by
  obtain ⟨hlt, hk⟩ := Array.getElem?_eq_some_iff.1 h
  show (W.heap.modify B _)[B]? = _
  rw [Array.getElem?_eq_getElem (by rw [Array.size_modify]; exact hlt), Array.getElem_modify_self, hk]
  rfl

theorem set7 {w w9 : World} {m B : Nat} {a0 a1 a2 a3 a4 a5 a6 : Value} {t : TypeId} (h : w9.heap[B]? = some (.cells #[a0, a1, a2, a3, a4, a5, a6] t (0, 0))) (v0 v1 v2 v3 v4 v5 v6 : Value) (hb : Below m w w9) (hm : m ≤ B) :
    ∃ W, W = (((((((w9.setCell ⟨B, 0, none⟩ v0).setCell ⟨B, 1, none⟩ v1).setCell ⟨B, 2, none⟩ v2).setCell ⟨B, 3, none⟩ v3).setCell ⟨B, 4, none⟩ v4).setCell ⟨B, 5, none⟩ v5).setCell ⟨B, 6, none⟩ v6) ∧ W.heap[B]? = some (.cells #[v0, v1, v2, v3, v4, v5, v6] t (0, 0)) ∧ KeepB (B + 1) w9 W ∧ Below m w W :=
  ⟨_, rfl, (tset_block (o := 6) (tset_block (o := 5) (tset_block (o := 4) (tset_block (o := 3) (tset_block (o := 2) (tset_block (o := 1) (tset_block (o := 0) h v0) v1) v2) v3) v4) v5) v6).trans (by simp), (KeepB.setCell (KeepB.setCell (KeepB.setCell (KeepB.setCell (KeepB.setCell (KeepB.setCell (KeepB.setCell (KeepB.refl _ _) (o := 0) (Nat.lt_succ_self _) v0) (o := 1) (Nat.lt_succ_self _) v1) (o := 2) (Nat.lt_succ_self _) v2) (o := 3) (Nat.lt_succ_self _) v3) (o := 4) (Nat.lt_succ_self _) v4) (o := 5) (Nat.lt_succ_self _) v5) (o := 6) (Nat.lt_succ_self _) v6), (Below.setCell (Below.setCell (Below.setCell (Below.setCell (Below.setCell (Below.setCell (Below.setCell hb (p := ⟨B, 0, none⟩) hm v0) (p := ⟨B, 1, none⟩) hm v1) (p := ⟨B, 2, none⟩) hm v2) (p := ⟨B, 3, none⟩) hm v3) (p := ⟨B, 4, none⟩) hm v4) (p := ⟨B, 5, none⟩) hm v5) (p := ⟨B, 6, none⟩) hm v6)⟩
theorem set5 {w w9 : World} {m B : Nat} {a0 a1 a2 a3 a4 : Value} {t : TypeId} (h : w9.heap[B]? = some (.cells #[a0, a1, a2, a3, a4] t (0, 0))) (v0 v1 v2 v3 v4 : Value) (hb : Below m w w9) (hm : m ≤ B) :
    ∃ W, W = (((((w9.setCell ⟨B, 0, none⟩ v0).setCell ⟨B, 1, none⟩ v1).setCell ⟨B, 2, none⟩ v2).setCell ⟨B, 3, none⟩ v3).setCell ⟨B, 4, none⟩ v4) ∧ W.heap[B]? = some (.cells #[v0, v1, v2, v3, v4] t (0, 0)) ∧ KeepB (B + 1) w9 W ∧ Below m w W :=
  ⟨_, rfl, (tset_block (o := 4) (tset_block (o := 3) (tset_block (o := 2) (tset_block (o := 1) (tset_block (o := 0) h v0) v1) v2) v3) v4).trans (by simp), (KeepB.setCell (KeepB.setCell (KeepB.setCell (KeepB.setCell (KeepB.setCell (KeepB.refl _ _) (o := 0) (Nat.lt_succ_self _) v0) (o := 1) (Nat.lt_succ_self _) v1) (o := 2) (Nat.lt_succ_self _) v2) (o := 3) (Nat.lt_succ_self _) v3) (o := 4) (Nat.lt_succ_self _) v4), (Below.setCell (Below.setCell (Below.setCell (Below.setCell (Below.setCell hb (p := ⟨B, 0, none⟩) hm v0) (p := ⟨B, 1, none⟩) hm v1) (p := ⟨B, 2, none⟩) hm v2) (p := ⟨B, 3, none⟩) hm v3) (p := ⟨B, 4, none⟩) hm v4)⟩
theorem box5 {w : World} {B : Nat} {a0 a1 a2 a3 a4 : Value} {t : TypeId} (h : w.heap[B]? = some (.cells #[a0, a1, a2, a3, a4] t (0, 0))) :
    w.cell? ⟨B, 0, none⟩ = some a0 ∧ w.cell? ⟨B, 1, none⟩ = some a1 ∧ w.cell? ⟨B, 2, none⟩ = some a2 ∧ w.cell? ⟨B, 3, none⟩ = some a3 ∧ w.cell? ⟨B, 4, none⟩ = some a4 ∧ ∀ j, w.frozen? ⟨B, j, none⟩ = false := by
  refine ⟨?_, ?_, ?_, ?_, ?_, fun j => ?_⟩ <;> simp [World.cell?, World.frozen?, h]

set_option maxHeartbeats 2000000 in
theorem byteKinds_at (w : World) :
    Calls Tryz.prog 40 #[] w fun e w' => ∃ k, e = .returned (.agg (fcells k)) ∧ Kinds w.heap.size w' k ∧ Below w.heap.size w w' := by
  go_enter Tryz.func40, Tryz.ntmps40
  go_wp2_with (first
    | (go_at_call 56; with_reducible refine (among_at _ _ [33, 59] ?_).mono ?_; rfl; rintro e w9 ⟨g9, l9, rfl, c9, b9⟩; have m9 : w.heap.size + 1 ≤ w9.heap.size := Nat.le_trans m8 b9.size; replace c9 := c9.mono m8; have b15 := bel b2 (bel b3 (bel b4 (bel (bel_al (Below.refl _ _) _) b5))); have b69 := bel b7 (bel b8 b9); have b59 := bel (bel_al (Below.refl _ _) _) (bel b6 b69); have b19 := bel b1 (bel b15 b59); have y := (b19.block w.heap.size (by simp)).trans (alloc_new w _); obtain ⟨x0, x1, x2, x3, x4, x5, x6, xf⟩ := box7 y)
    | (go_at_call 56; with_reducible refine (among_at _ _ [40, 41, 91, 93, 44, 124] ?_).mono ?_; rfl; rintro e w8 ⟨g8, l8, rfl, c8, b8⟩; have m8 : w.heap.size + 1 ≤ w8.heap.size := Nat.le_trans m7 b8.size; replace c8 := c8.mono m7)
    | (go_at_call 56; with_reducible refine (among_at _ _ [43, 45, 42, 47, 92, 94, 60, 62, 61, 126, 58, 46, 63, 64, 35, 38, 36] ?_).mono ?_; rfl; rintro e w7 ⟨g7, l7, rfl, c7, b7⟩; have m7 : w.heap.size + 1 ≤ w7.heap.size := Nat.le_trans m6 b7.size; replace c7 := c7.mono m6)
    | (go_at_call 55; with_reducible refine (either_at (w.heap.size + 1) _ _ 3 [lowB, upB, digB] (by decide) ?_ ?_ ?_).mono ?_; (focus simp); exact m5; exact Row.mk3 (by simp) (by simp) (by simp) (c1.later (bel_al (bel b2 (bel b3 (bel b4 (bel (bel_al (Below.refl _ _) _) b5)))) _)) (c5.later (bel_al (Below.refl _ _) _)) (c2.later (bel_al (bel b3 (bel b4 (bel (bel_al (Below.refl _ _) _) b5))) _)); rw [anyB_word]; rintro e w6 ⟨g6, l6, rfl, c6, b6⟩; have m6 : w.heap.size + 1 ≤ w6.heap.size := (by have := b6.size; simp at this; omega))
    | (go_at_call 55; with_reducible refine (either_at (w.heap.size + 1) _ _ 2 [spanB 65 90, amongB [95]] (by decide) ?_ ?_ ?_).mono ?_; (focus simp); exact m4; exact Row.mk2 (by simp) (by simp) (c3.later (bel_al b4 _)) (c4.later (bel_al (Below.refl _ _) _)); rw [anyB_up]; rintro e w5 ⟨g5, l5, rfl, c5, b5⟩; have m5 : w.heap.size + 1 ≤ w5.heap.size := (by have := b5.size; simp at this; omega))
    | (go_at_call 56; with_reducible refine (among_at _ _ [95] ?_).mono ?_; rfl; rintro e w4 ⟨g4, l4, rfl, c4, b4⟩; have m4 : w.heap.size + 1 ≤ w4.heap.size := Nat.le_trans m3 b4.size; replace c4 := c4.mono m3)
    | (go_at_call 54; with_reducible refine (span_at _ 65 90 65 90 rfl rfl).mono ?_; rintro e w3 ⟨g3, l3, rfl, c3, b3⟩; have m3 : w.heap.size + 1 ≤ w3.heap.size := Nat.le_trans m2 b3.size; replace c3 := c3.mono m2)
    | (go_at_call 54; with_reducible refine (span_at _ 48 57 48 57 rfl rfl).mono ?_; rintro e w2 ⟨g2, l2, rfl, c2, b2⟩; have m2 : w.heap.size + 1 ≤ w2.heap.size := Nat.le_trans m1 b2.size; replace c2 := c2.mono m1)
    | (go_at_call 54; with_reducible refine (span_at _ 97 122 97 122 rfl rfl).mono ?_; rintro e w1 ⟨g1, l1, rfl, c1, b1⟩; have m1 : w.heap.size + 1 ≤ w1.heap.size := (by have := b1.size; simpa using this); replace c1 := c1.mono (m' := w.heap.size + 1) (by simp)))
  have b9' := (bel (bel_al (Below.refl w.heap.size w) _) b19)
  obtain ⟨W, hW, hx, hk, hB⟩ := set7 y (.func (.func g1) #[] l1) (.func (.func g5) #[] l5) (.func (.func g2) #[] l2) (.func (.func g6) #[] l6) (.func (.func g7) #[] l7) (.func (.func g8) #[] l8) (.func (.func g9) #[] l9) b9' (Nat.le_refl _)
  rw [← hW]
  obtain ⟨f0, f1, f2, f3, f4, f5, f6, -⟩ := box7 hx
  refine bodyPost_ret (v := .agg #[.func (.func g1) #[] l1, .func (.func g5) #[] l5, .func (.func g2) #[] l2, .func (.func g6) #[] l6, .func (.func g7) #[] l7, .func (.func g8) #[] l8, .func (.func g9) #[] l9]) (by simp [results, Tryz.f40, go_sem, f0, f1, f2, f3, f4, f5, f6]) rfl ?_
  refine ⟨⟨g1, g5, g2, g6, g7, g8, g9, l1, l5, l2, l6, l7, l8, l9⟩, rfl, ⟨?_, ?_, ?_, ?_, ?_, ?_, ?_⟩, hB⟩
  · exact ((c1.later (bel b15 b59)).keep hk).mono (Nat.le_succ _)
  · exact ((c5.later b59).keep hk).mono (Nat.le_succ _)
  · exact ((c2.later (bel (bel b3 (bel b4 (bel (bel_al (Below.refl _ _) _) b5))) b59)).keep hk).mono (Nat.le_succ _)
  · exact ((c6.later b69).keep hk).mono (Nat.le_succ _)
  · exact ((c7.later (bel b8 b9)).keep hk).mono (Nat.le_succ _)
  · exact ((c8.later b9).keep hk).mono (Nat.le_succ _)
  · exact (c9.keep hk).mono (Nat.le_succ _)
end Go.Proofs.YtfencolokfghfaaGreatDoor
