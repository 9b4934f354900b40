/-
  The walks of latt's smallest functions (Len, only, has, Leq, covering): what each answers over a lattice in memory. And what a lattice in memory is.
-/
import Derived.Test.YtnkfjomnpnbidaaRows
import Derived.Test.YtnkfjomnpnbidaaZRefAn3
import Derived.WalkKit
import Derived.WalkSpells
import Derived.WalkLawsBesides
import Derived.Deep.QuietTactic
import Derived.BigQuiet
import Derived.Lib.Hide
namespace Go.Proofs.Ytnkfjomnpnbidaa
open Go.RowKit

/-- A call that only reads: it answers v, and the world is as it was but for draws. -/
def Reads (w : World) (v : Value) (e : Ending) (w' : World) : Prop := e = .returned v ∧ ∃ m, w' = w.drewN m

theorem Reads.quiet {P : Program} {f : FuncId} {args : Array Value} {w : World} {n : Nat} {v : Value}
    (h : Calls P f args (w.drewN n) (Reads (w.drewN n) v)) : Calls P f args (w.drewN n) fun e w'' => e = .returned v ∧ ∃ m, w'' = w.drewN m :=
  Calls.quiet_of h

/-- Nothing but block b may have turned; no block is new. -/
structure Only (b : Nat) (w w' : World) : Prop where
  os : w'.os = w.os
  tape : w'.tape = w.tape
  output : w'.output = w.output
  size : w'.heap.size = w.heap.size
  block : ∀ k, k ≠ b → w'.heap[k]? = w.heap[k]?

theorem Only.refl (b : Nat) (w : World) : Only b w w := ⟨rfl, rfl, rfl, rfl, fun _ _ => rfl⟩
theorem Only.trans {b : Nat} {x y z : World} (h : Only b x y) (k : Only b y z) : Only b x z :=
  ⟨k.os.trans h.os, k.tape.trans h.tape, k.output.trans h.output, k.size.trans h.size, fun i hi => (k.block i hi).trans (h.block i hi)⟩
theorem Only.drewN {b : Nat} {x y : World} (h : Only b x y) (m : Nat) : Only b x (y.drewN m) := ⟨h.os, h.tape, h.output, h.size, h.block⟩
theorem Only.drew {b : Nat} {x y : World} (h : Only b x y) : Only b x y.drew := ⟨h.os, h.tape, h.output, h.size, h.block⟩
theorem Only.setCell {b : Nat} {x y : World} (h : Only b x y) (o : Nat) (v : Value) : Only b x (y.setCell ⟨b, o, none⟩ v) :=
  h.trans ⟨rfl, rfl, rfl, by simp [World.setCell], fun k hk => Below.heap_setCell _ _ _ _ (by simpa using hk)⟩
theorem Only.below {b B : Nat} {x y : World} (h : Only b x y) (hb : B ≤ b) : Below B x y :=
  ⟨h.os, h.tape, h.output, by rw [h.size]; exact Nat.le_refl _, fun k hk => h.block k (by omega)⟩

/-- A lattice in memory: n, the rows up, the rows down. -/
structure LatAt (w : World) (b : Nat) (n : Int) (U D : Nat → Nat → Bool) : Prop where
  len : w.cell? ⟨b, 0, none⟩ = some (.int .i64 n)
  up : ∀ a, a < 16 → w.cell? ⟨b, 1 + a, none⟩ = some (.int .u16 (S (U a)))
  down : ∀ a, a < 16 → w.cell? ⟨b, 17 + a, none⟩ = some (.int .u16 (S (D a)))
  nf : ∀ o, w.frozen? ⟨b, o, none⟩ = false

theorem LatAt.drewN {w : World} {b : Nat} {n : Int} {U D : Nat → Nat → Bool} (h : LatAt w b n U D) (m : Nat) : LatAt (w.drewN m) b n U D :=
  ⟨h.len, h.up, h.down, h.nf⟩

theorem cell_other (w : World) (b o o' : Nat) (v : Value) (h : o ≠ o') : (w.setCell ⟨b, o, none⟩ v).cell? ⟨b, o', none⟩ = w.cell? ⟨b, o', none⟩ :=
  World.cell?_setCell_other _ _ _ _ (fun e => h (by injection e))

/-- The row of one level put in another's place. -/
def upd (U : Nat → Nat → Bool) (a : Nat) (f : Nat → Bool) : Nat → Nat → Bool := fun x => if x = a then f else U x

theorem LatAt.setUp {w : World} {b : Nat} {n : Int} {U D : Nat → Nat → Bool} (h : LatAt w b n U D) (a : Nat) (ha : a < 16) (f : Nat → Bool) :
    LatAt (w.setCell ⟨b, 1 + a, none⟩ (.int .u16 (S f))) b n (upd U a f) D := by
  refine ⟨?_, fun x hx => ?_, fun x hx => ?_, fun o => by rw [World.frozen?_setCell]; exact h.nf o⟩
  · rw [cell_other _ _ _ _ _ (by omega)]; exact h.len
  · by_cases e : x = a
    · subst e; rw [World.cell?_setCell_same _ _ _ (h.up x hx)]; simp [upd]
    · rw [cell_other _ _ _ _ _ (by omega), h.up x hx]; simp [upd, e]
  · rw [cell_other _ _ _ _ _ (by omega)]; exact h.down x hx

theorem LatAt.setDown {w : World} {b : Nat} {n : Int} {U D : Nat → Nat → Bool} (h : LatAt w b n U D) (a : Nat) (ha : a < 16) (f : Nat → Bool) :
    LatAt (w.setCell ⟨b, 17 + a, none⟩ (.int .u16 (S f))) b n U (upd D a f) := by
  refine ⟨?_, fun x hx => ?_, fun x hx => ?_, fun o => by rw [World.frozen?_setCell]; exact h.nf o⟩
  · rw [cell_other _ _ _ _ _ (by omega)]; exact h.len
  · rw [cell_other _ _ _ _ _ (by omega)]; exact h.up x hx
  · by_cases e : x = a
    · subst e; rw [World.cell?_setCell_same _ _ _ (h.down x hx)]; simp [upd]
    · rw [cell_other _ _ _ _ _ (by omega), h.down x hx]; simp [upd, e]

theorem LatAt.only {w w' : World} {b c : Nat} {n : Int} {U D : Nat → Nat → Bool} (h : LatAt w b n U D) (k : Only c w w') (hc : b ≠ c) : LatAt w' b n U D := by
  have e : ∀ o, w'.cell? ⟨b, o, none⟩ = w.cell? ⟨b, o, none⟩ := fun o => World.cell?_of_block (w := w) (k.block b hc)
  exact ⟨by rw [e]; exact h.len, fun a ha => by rw [e]; exact h.up a ha, fun a ha => by rw [e]; exact h.down a ha, fun o => by rw [World.frozen?_of_block (w := w) (k.block b hc)]; exact h.nf o⟩

theorem LatAt.below {w w' : World} {b B : Nat} {n : Int} {U D : Nat → Nat → Bool} (h : LatAt w b n U D) (k : Below B w w') (hb : b < B) : LatAt w' b n U D := by
  have e : ∀ o, w'.cell? ⟨b, o, none⟩ = w.cell? ⟨b, o, none⟩ := fun o => k.cell (p := ⟨b, o, none⟩) hb
  exact ⟨by rw [e]; exact h.len, fun a ha => by rw [e]; exact h.up a ha, fun a ha => by rw [e]; exact h.down a ha, fun o => by rw [k.frozen (p := ⟨b, o, none⟩) hb]; exact h.nf o⟩

set_option maxHeartbeats 400000 in
theorem len_nil (w : World) : Calls Try.prog 66 #[.pointer none] w (Reads w (.int .i64 0)) := by
  go_enter Try.func66, Try.ntmps66
  go_wp2
  go_ret
  exact ⟨rfl, 0, rfl⟩

set_option maxHeartbeats 400000 in
theorem len_at (b : Nat) (n : Int) (w : World) (h : w.cell? ⟨b, 0, none⟩ = some (.int .i64 n)) : Calls Try.prog 66 #[.pointer (some ⟨b, 0, none⟩)] w (Reads w (.int .i64 n)) := by
  go_enter Try.func66, Try.ntmps66
  go_wp2
  go_ret
  exact ⟨rfl, 0, rfl⟩

theorem only_val (a : Nat) (h : a < 16) : IntKind.u16.wrap (2 ^ a) = S (one a) := by
  rw [S_one a h, IntKind.wrap_u16]
  have h1 : (2 : Int) ^ a < 65536 := by
    have : (2 : Nat) ^ a < 2 ^ 16 := Nat.pow_lt_pow_right (by decide) h
    have h2 : ((2 ^ a : Nat) : Int) < ((2 ^ 16 : Nat) : Int) := by omega
    simpa using h2
  have h0 : (0 : Int) ≤ 2 ^ a := Int.pow_nonneg (by omega)
  omega

set_option maxHeartbeats 400000 in
theorem only_at (a : Int) (w : World) (h0 : 0 ≤ a) (h1 : a < 16) : Calls Try.prog 47 #[.int .i64 a] w (Reads w (.int .u16 (S (one a.toNat)))) := by
  go_enter Try.func47, Try.ntmps47
  go_wp2
  go_ret
  exact ⟨by rw [only_val _ (by omega)]; rfl, 0, rfl⟩

/-- .. and the world is the very one. -/
theorem only_still (a : Int) (w : World) (h0 : 0 ≤ a) (h1 : a < 16) : Calls Try.prog 47 #[.int .i64 a] w fun e w' => e = .returned (.int .u16 (S (one a.toNat))) ∧ w' = w := by
  go_enter Try.func47, Try.ntmps47
  go_wp2
  go_ret
  exact ⟨by rw [only_val _ (by omega)]; rfl, rfl⟩

def hasB (n a : Int) : Bool := decide (0 ≤ a) && decide (a < n)
theorem hasB_true {n a : Int} : hasB n a = true ↔ 0 ≤ a ∧ a < n := by simp [hasB]
theorem hasB_false {n a : Int} : hasB n a = false ↔ ¬ (0 ≤ a ∧ a < n) := by simp [hasB]

set_option maxHeartbeats 400000 in
theorem has_nil (a : Int) (w : World) : Calls Try.prog 46 #[.pointer none, .int .i64 a] w (Reads w (.bool false)) := by
  by_cases h : 0 ≤ a
  · have hf : decide (a < 0) = false := by simp; omega
    go_enter Try.func46, Try.ntmps46
    go_wp2_with (go_at_call 66; refine (len_nil _).mono ?_; rintro e w' ⟨rfl, m, rfl⟩)
    go_ret
    exact ⟨by simp, _, rfl⟩
  · have hf : decide (0 ≤ a) = false := by simp; omega
    go_enter Try.func46, Try.ntmps46
    go_wp2_with (go_at_call 66; refine (len_nil _).mono ?_; rintro e w' ⟨rfl, m, rfl⟩)
    go_ret
    exact ⟨by rfl, 0, rfl⟩

set_option maxHeartbeats 400000 in
theorem has_at (b : Nat) (n a : Int) (w : World) (hc : w.cell? ⟨b, 0, none⟩ = some (.int .i64 n)) : Calls Try.prog 46 #[.pointer (some ⟨b, 0, none⟩), .int .i64 a] w (Reads w (.bool (hasB n a))) := by
  by_cases h : 0 ≤ a
  · go_enter Try.func46, Try.ntmps46
    go_wp2_with (go_at_call 66; refine (len_at b n _ hc).mono ?_; rintro e w' ⟨rfl, m, rfl⟩)
    go_ret
    exact ⟨by simp [hasB, h], _, rfl⟩
  · have hf : decide (0 ≤ a) = false := by simp; omega
    go_enter Try.func46, Try.ntmps46
    go_wp2_with (go_at_call 66; refine (len_at b n _ hc).mono ?_; rintro e w' ⟨rfl, m, rfl⟩)
    go_ret
    exact ⟨by simp [hasB, hf], 0, rfl⟩

theorem has_yes (b : Nat) (n a : Int) (w : World) (hc : w.cell? ⟨b, 0, none⟩ = some (.int .i64 n)) (h : hasB n a = true) : Calls Try.prog 46 #[.pointer (some ⟨b, 0, none⟩), .int .i64 a] w (Reads w (.bool true)) := by
  rw [← h]; exact has_at b n a w hc
theorem has_no (b : Nat) (n a : Int) (w : World) (hc : w.cell? ⟨b, 0, none⟩ = some (.int .i64 n)) (h : hasB n a = false) : Calls Try.prog 46 #[.pointer (some ⟨b, 0, none⟩), .int .i64 a] w (Reads w (.bool false)) := by
  rw [← h]; exact has_at b n a w hc

/-- What Leq answers. -/
def leqB (n : Int) (U : Nat → Nat → Bool) (a b : Int) : Bool := hasB n a && hasB n b && U a.toNat b.toNat

set_option maxHeartbeats 400000 in
theorem leq_both (b : Nat) (n x y : Int) (U D : Nat → Nat → Bool) (w : World) (hn : n ≤ 16) (L : LatAt w b n U D) (hx : hasB n x = true) (hy : hasB n y = true) :
    Calls Try.prog 22 #[.pointer (some ⟨b, 0, none⟩), .int .i64 x, .int .i64 y] w (Reads w (.bool (leqB n U x y))) := by
  have hlen := L.len
  obtain ⟨x0, x1⟩ := hasB_true.1 hx
  obtain ⟨y0, y1⟩ := hasB_true.1 hy
  have hup := L.up x.toNat (by omega)
  clear L
  have hr := and_one_ne (U x.toNat) y.toNat (by omega)
  have HE : Hid (leqB n U x y = (S (inter (U x.toNat) (one y.toNat)) != 0)) := by rw [hr]; simp [Hid, leqB, hx, hy]
  have HX := Lib.hid hx
  have HY := Lib.hid hy
  clear hr hx hy
  have x16 : x < 16 := by omega
  have y16 : y < 16 := by omega
  go_enter Try.func22, Try.ntmps22
  go_wp2
  go_quiet (first | (go_at_call 46; (with_reducible refine Reads.quiet (has_yes b n x _ ?_ HX.out)); exact hlen) | (go_at_call 46; (with_reducible refine Reads.quiet (has_yes b n y _ ?_ HY.out)); exact hlen) | (go_at_call 47; with_reducible exact Reads.quiet (only_at _ _ y0 y16)))
  go_wp2
  go_ret
  rw [HE.out]
  exact ⟨rfl, _, rfl⟩

set_option maxHeartbeats 400000 in
theorem leq_second (b : Nat) (n x y : Int) (U : Nat → Nat → Bool) (w : World) (hlen : w.cell? ⟨b, 0, none⟩ = some (.int .i64 n)) (hx : hasB n x = true) (hy : hasB n y = false) :
    Calls Try.prog 22 #[.pointer (some ⟨b, 0, none⟩), .int .i64 x, .int .i64 y] w (Reads w (.bool (leqB n U x y))) := by
  have HE : Hid (leqB n U x y = false) := by simp [Hid, leqB, hy]
  have HX := Lib.hid hx
  have HY := Lib.hid hy
  clear hx hy
  go_enter Try.func22, Try.ntmps22
  go_wp2
  go_quiet (first | (go_at_call 46; (with_reducible refine Reads.quiet (has_yes b n x _ ?_ HX.out)); exact hlen) | (go_at_call 46; (with_reducible refine Reads.quiet (has_no b n y _ ?_ HY.out)); exact hlen))
  go_wp2
  go_ret
  rw [HE.out]
  exact ⟨rfl, _, rfl⟩

set_option maxHeartbeats 400000 in
theorem leq_first (b : Nat) (n x y : Int) (U : Nat → Nat → Bool) (w : World) (hlen : w.cell? ⟨b, 0, none⟩ = some (.int .i64 n)) (hx : hasB n x = false) :
    Calls Try.prog 22 #[.pointer (some ⟨b, 0, none⟩), .int .i64 x, .int .i64 y] w (Reads w (.bool (leqB n U x y))) := by
  have HE : Hid (leqB n U x y = false) := by simp [Hid, leqB, hx]
  have HX := Lib.hid hx
  clear hx
  go_enter Try.func22, Try.ntmps22
  go_wp2
  go_quiet ((go_at_call 46; (with_reducible refine Reads.quiet (has_no b n x _ ?_ HX.out)); exact hlen))
  go_wp2
  go_ret
  rw [HE.out]
  exact ⟨rfl, _, rfl⟩

theorem leq_at (b : Nat) (n x y : Int) (U D : Nat → Nat → Bool) (w : World) (hn : n ≤ 16) (L : LatAt w b n U D) :
    Calls Try.prog 22 #[.pointer (some ⟨b, 0, none⟩), .int .i64 x, .int .i64 y] w (Reads w (.bool (leqB n U x y))) := by
  cases hx : hasB n x
  · exact leq_first b n x y U w L.len hx
  · cases hy : hasB n y
    · exact leq_second b n x y U w L.len hx hy
    · exact leq_both b n x y U D w hn L hx hy

set_option maxHeartbeats 400000 in
theorem leq_nil (x y : Int) (w : World) : Calls Try.prog 22 #[.pointer none, .int .i64 x, .int .i64 y] w (Reads w (.bool false)) := by
  go_enter Try.func22, Try.ntmps22
  go_wp2
  go_quiet (first | (go_at_call 46; exact Reads.quiet (has_nil _ _)))
  go_wp2
  go_ret
  exact ⟨rfl, _, rfl⟩

/-- Whether a is in s, and its row r a holds all of s. -/
def coversB (r : Nat → Nat → Bool) (s : Nat → Bool) (a : Nat) : Bool := (S (inter s (one a)) != 0) && (S (minus s (r a)) == 0)

/-- The first level from a on, of k, that covers s, or -1. -/
def coverFrom (r : Nat → Nat → Bool) (s : Nat → Bool) : Nat → Nat → Int
  | _, 0 => -1
  | a, k + 1 => if coversB r s a then a else coverFrom r s (a + 1) k

def cover (r : Nat → Nat → Bool) (s : Nat → Bool) : Int := coverFrom r s 0 16

theorem coverFrom_no {r : Nat → Nat → Bool} {s : Nat → Bool} {k : Nat} (h : coversB r s k = false) (hk : k < 16) : coverFrom r s k (16 - k) = coverFrom r s (k + 1) (16 - (k + 1)) := by
  have e : 16 - k = (16 - (k + 1)) + 1 := by omega
  rw [e, coverFrom, h]; rfl
theorem coverFrom_yes {r : Nat → Nat → Bool} {s : Nat → Bool} {k : Nat} (h : coversB r s k = true) (hk : k < 16) : coverFrom r s k (16 - k) = k := by
  have e : 16 - k = (16 - (k + 1)) + 1 := by omega
  rw [e, coverFrom, h]; rfl

theorem ret_int {k : IntKind} {a b : Int} (h : a = b) : Ending.returned (.int k a) = .returned (.int k b) := by rw [h]

set_option maxHeartbeats 1000000 in
theorem covering_at (b o : Nat) (r : Nat → Nat → Bool) (s : Nat → Bool) (w : World) (hr : ∀ a, a < 16 → w.cell? ⟨b, o + a, none⟩ = some (.int .u16 (S (r a)))) :
    Calls Try.prog 55 #[.pointer (some ⟨b, o, none⟩), .int .u16 (S s)] w (Reads w (.int .i64 (cover r s))) := by
  have HR := Lib.hid hr; clear hr
  go_enter Try.func55, Try.ntmps55
  go_wp2
  go_loopw [6] (fun i w' => ∃ k : Nat, k ≤ 16 ∧ i = .int .i64 k ∧ cover r s = coverFrom r s k (16 - k) ∧ ∃ m, w' = w.drewN m) (fun i _ => 16 - (intOf i).toNat)
  case atStart => exact ⟨0, Nat.zero_le _, rfl, rfl, 0, rfl⟩
  case round =>
    obtain ⟨k, hk, rfl, hc, m, rfl⟩ := hrel
    have HC := Lib.hid hc; clear hc
    by_cases hlt : k < 16
    · have h0 : (0 : Int) ≤ (k : Int) := by omega
      have h1 : (k : Int) < 16 := by omega
      have hcell := HR.out k hlt
      by_cases hi : (S (inter s (one k)) != 0) = true
      · by_cases hj : (S (minus s (r k)) == 0) = true
        · have HF := Lib.hid (coverFrom_yes (r := r) (s := s) (k := k) (by rw [coversB, hi, hj]; rfl) hlt)
          go_wp2_with (go_at_call 47; refine (only_at _ _ h0 h1).mono ?_; rintro e w' ⟨rfl, m, rfl⟩)
          go_ret
          exact ⟨by rw [HC.out, HF.out]; rfl, _, rfl⟩
        · have hj' : (S (minus s (r k)) == 0) = false := by simpa using hj
          clear hj
          have HF := Lib.hid (coverFrom_no (r := r) (s := s) (k := k) (by rw [coversB, hi, hj']; rfl) hlt)
          go_wp2_with (go_at_call 47; refine (only_at _ _ h0 h1).mono ?_; rintro e w' ⟨rfl, m, rfl⟩)
          go_roundw
          case rel => exact ⟨k + 1, by omega, by go_num, by rw [HC.out, HF.out], _, rfl⟩
          case measure => simp [intOf]; omega
      · have hi' : (S (inter s (one k)) != 0) = false := by simpa using hi
        clear hi
        have HF := Lib.hid (coverFrom_no (r := r) (s := s) (k := k) (by rw [coversB, hi']; rfl) hlt)
        go_wp2_with (go_at_call 47; refine (only_at _ _ h0 h1).mono ?_; rintro e w' ⟨rfl, m, rfl⟩)
        go_roundw
        case rel => exact ⟨k + 1, by omega, by go_num, by rw [HC.out, HF.out], _, rfl⟩
        case measure => simp [intOf]; omega
    · have e : 16 - k = 0 := by omega
      have HE : Hid (cover r s = -1) := by show _ = _; rw [HC.out, e, coverFrom]
      clear e HC
      go_wp2
      go_ret
      exact ⟨by rw [HE.out]; rfl, _, rfl⟩
end Go.Proofs.Ytnkfjomnpnbidaa
