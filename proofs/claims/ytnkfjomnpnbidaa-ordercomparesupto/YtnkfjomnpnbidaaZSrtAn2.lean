/-
  The stable sort's row: what its functions ask of a program; the worlds that it passes through.
-/
import Derived.Test.YtnkfjomnpnbidaaProg
import Derived.Shelf.SlSortCmp.KitK
import Derived.Lib.QuietBelow
import Derived.Lib.Hide
import Derived.Deep.LoopGhost
import Derived.RowKit3
import Derived.Below
namespace Go.Proofs.Ytnkfjomnpnbidaa
open Go.Shelf Go.RowKit Go.Lib Go.Sort
set_option linter.unusedVariables false

/-- A program that holds the stable sort and what compacts; elements of k cells. -/
structure LO (P : Program) (k : Nat) : Prop where
  mixed : P.follows .mixedOrders = true
  f35 : P.funcs[35]? = some Try.f35
  f37 : P.funcs[37]? = some Try.f37
  f63 : P.funcs[63]? = some Try.f63
  f73 : P.funcs[73]? = some Try.f73
  f74 : P.funcs[74]? = some Try.f74
  f81 : P.funcs[81]? = some Try.f81
  f83 : P.funcs[83]? = some Try.f83
  t0 : P.underlying 0 = some (TypeDesc.tuple #[])
  a0 : ∀ w, (isAgg 0).run P w = .ok false w
  z0 : ∀ w, (Go.sizeOf 0).run P w = .ok 1 w
  v0 : ∀ w, (zeroValue 0).run P w = .ok (Value.tuple #[]) w
  t3 : P.underlying 3 = some (TypeDesc.int IntKind.i64)
  a3 : ∀ w, (isAgg 3).run P w = .ok false w
  z3 : ∀ w, (Go.sizeOf 3).run P w = .ok 1 w
  v3 : ∀ w, (zeroValue 3).run P w = .ok (Value.int IntKind.i64 0) w
  t4 : P.underlying 4 = some TypeDesc.bool
  a4 : ∀ w, (isAgg 4).run P w = .ok false w
  z4 : ∀ w, (Go.sizeOf 4).run P w = .ok 1 w
  v4 : ∀ w, (zeroValue 4).run P w = .ok (Value.bool false) w
  t57 : P.underlying 57 = some (TypeDesc.slice 59)
  a57 : ∀ w, (isAgg 57).run P w = .ok false w
  z57 : ∀ w, (Go.sizeOf 57).run P w = .ok 1 w
  v57 : ∀ w, (zeroValue 57).run P w = .ok (Value.slice none 0 0) w
  t61 : P.underlying 61 = some (TypeDesc.func #[59, 59] #[3] false)
  a61 : ∀ w, (isAgg 61).run P w = .ok false w
  z61 : ∀ w, (Go.sizeOf 61).run P w = .ok 1 w
  v61 : ∀ w, (zeroValue 61).run P w = .ok Value.nilFunc w
  t63 : P.underlying 63 = some (TypeDesc.func #[59, 59] #[4] false)
  a63 : ∀ w, (isAgg 63).run P w = .ok false w
  z63 : ∀ w, (Go.sizeOf 63).run P w = .ok 1 w
  v63 : ∀ w, (zeroValue 63).run P w = .ok Value.nilFunc w
  t93 : P.underlying 93 = some (TypeDesc.int IntKind.u64)
  a93 : ∀ w, (isAgg 93).run P w = .ok false w
  z93 : ∀ w, (Go.sizeOf 93).run P w = .ok 1 w
  v93 : ∀ w, (zeroValue 93).run P w = .ok (Value.int IntKind.u64 0) w
  aE : ∀ w, (isAgg 59).run P w = .ok true w
  zE : ∀ w, (Go.sizeOf 59).run P w = .ok k w

theorem Try.lo : LO Try.prog 8 where
  mixed := by kernel_rfl
  f35 := Try.func35
  f37 := Try.func37
  f63 := Try.func63
  f73 := Try.func73
  f74 := Try.func74
  f81 := Try.func81
  f83 := Try.func83
  t0 := Try.underlying0
  a0 := Try.isAgg0
  z0 := Try.sizeOf0
  v0 := Try.zeroValue0
  t3 := Try.underlying3
  a3 := Try.isAgg3
  z3 := Try.sizeOf3
  v3 := Try.zeroValue3
  t4 := Try.underlying4
  a4 := Try.isAgg4
  z4 := Try.sizeOf4
  v4 := Try.zeroValue4
  t57 := Try.underlying57
  a57 := Try.isAgg57
  z57 := Try.sizeOf57
  v57 := Try.zeroValue57
  t61 := Try.underlying61
  a61 := Try.isAgg61
  z61 := Try.sizeOf61
  v61 := Try.zeroValue61
  t63 := Try.underlying63
  a63 := Try.isAgg63
  z63 := Try.sizeOf63
  v63 := Try.zeroValue63
  t93 := Try.underlying93
  a93 := Try.isAgg93
  z93 := Try.sizeOf93
  v93 := Try.zeroValue93
  aE := Try.isAgg59
  zE := Try.sizeOf59

section
variable {α : Type} [Inhabited α]
/-- What is known of the elements and of the row's block. -/
structure RowB (enc : α → List Value) (k : Nat) (w0 : World) (blk : Nat) : Prop where
  hk : ∀ x, (enc x).length = k
  h1 : ∀ x, ∀ v ∈ enc x, v.oneCell' = true
  hblk : blk < w0.heap.size
/-- A world of the sort: all is as it was in w0, but the row's block; the row holds d. -/
structure SWb (enc : α → List Value) (k : Nat) (w0 : World) (blk off : Nat) (d : Array α) (W : World) : Prop where
  os : W.os = w0.os
  tape : W.tape = w0.tape
  output : W.output = w0.output
  size : w0.heap.size ≤ W.heap.size
  keep : ∀ b, b < w0.heap.size → b ≠ blk → W.heap[b]? = w0.heap[b]?
  holds : HoldsK enc k W blk off d

variable {P : Program} {enc : α → List Value} {k : Nat} {w0 W W' : World} {blk off : Nat} {d : Array α}

theorem holds_of_block {F : Array Value} (h : Holds id W blk off F) (e : W'.heap[blk]? = W.heap[blk]?) : Holds id W' blk off F := fun i hi => by
  have := h i hi
  rw [World.cell?_of_block (w := W) e, World.frozen?_of_block (w := W) e]
  exact this
theorem SWb.below (h : SWb enc k w0 blk off d W) (hb : blk < w0.heap.size) (g : Below W.heap.size W W') : SWb enc k w0 blk off d W' :=
  ⟨g.os.trans h.os, g.tape.trans h.tape, g.output.trans h.output, Nat.le_trans h.size g.size, fun b hb' hne => (g.block b (Nat.lt_of_lt_of_le hb' h.size)).trans (h.keep b hb' hne), holds_of_block h.holds (g.block blk (Nat.lt_of_lt_of_le hb h.size))⟩
theorem SWb.drew (h : SWb enc k w0 blk off d W) : SWb enc k w0 blk off d W.drew := ⟨h.os, h.tape, h.output, h.size, h.keep, h.holds⟩
theorem SWb.load (h : SWb enc k w0 blk off d W) (R : RowB enc k w0 blk) (P : Program) (i : Nat) (hi : i < d.size) :
    Sem.run P (loadCellsFrom ⟨blk, off + i * k, none⟩ 0 k #[]) W = .ok (enc d[i]!).toArray W :=
  run_loadCellsFrom_list P _ _ _ k (R.hk _) (HoldsK.cells h.holds R.hk hi)
theorem SWb.ld1 (h : SWb enc k w0 blk off d W) (R : RowB enc k w0 blk) (P : Program) (i : Nat) (hi : i < d.size) :
    Sem.run P (loadCellsFrom ⟨blk, off + i * k, none⟩ 0 k #[]) W.drew = .ok (enc d[i]!).toArray W.drew := h.drew.load R P i hi
theorem SWb.st (h : SWb enc k w0 blk off d W) (R : RowB enc k w0 blk) (P : Program) (i : Nat) (hi : i < d.size) (y : α) :
    Sem.run P (storeCells ⟨blk, off + i * k, none⟩ (enc y) 0) W = .ok () (W.setCells blk (off + i * k) (enc y)) :=
  stores_of_holds P h.holds (i * k) _ (by rw [R.hk, size_flatK]; exact rowK_bnd d k i hi) (R.h1 _)
theorem SWb.st1 (h : SWb enc k w0 blk off d W) (R : RowB enc k w0 blk) (P : Program) (i : Nat) (hi : i < d.size) (y : α) :
    Sem.run P (storeCells ⟨blk, off + i * k, none⟩ (enc y) 0) W.drew = .ok () (W.drew.setCells blk (off + i * k) (enc y)) := h.drew.st R P i hi y
theorem SWb.st2 (h : SWb enc k w0 blk off d W) (R : RowB enc k w0 blk) (P : Program) (i j : Nat) (hi : i < d.size) (hj : j < d.size) (y x : α) :
    Sem.run P (storeCells ⟨blk, off + j * k, none⟩ (enc x) 0) (W.drew.setCells blk (off + i * k) (enc y)) = .ok () ((W.drew.setCells blk (off + i * k) (enc y)).setCells blk (off + j * k) (enc x)) :=
  stores_of_holds P (holds_setCells_c h.drew.holds (i * k) _ (by rw [R.hk, size_flatK]; exact rowK_bnd d k i hi)) (j * k) _ (by rw [R.hk, size_setMany, size_flatK]; exact rowK_bnd d k j hj) (R.h1 _)
theorem heap_setCells (b : Nat) : ∀ (vs : List Value) (o : Nat) (W : World) (c : Nat), c ≠ b → (W.setCells b o vs).heap[c]? = W.heap[c]?
  | [], _, _, _, _ => rfl
  | v :: r, o, W, c, h => by rw [World.setCells, heap_setCells b r _ _ c h]; exact Below.heap_setCell W ⟨b, o, none⟩ v c h
theorem fld_setCells (b : Nat) : ∀ (vs : List Value) (o : Nat) (W : World), (W.setCells b o vs).os = W.os ∧ (W.setCells b o vs).tape = W.tape ∧ (W.setCells b o vs).output = W.output ∧ (W.setCells b o vs).heap.size = W.heap.size
  | [], _, _ => ⟨rfl, rfl, rfl, rfl⟩
  | v :: r, o, W => by
    rw [World.setCells]
    obtain ⟨h1, h2, h3, h4⟩ := fld_setCells b r (o + 1) (W.setCell ⟨b, o, none⟩ v)
    exact ⟨h1, h2, h3, by rw [h4]; simp [World.setCell]⟩
theorem SWb.cells {d' : Array α} (h : SWb enc k w0 blk off d W) (o : Nat) (vs : List Value) (hH : HoldsK enc k (W.setCells blk o vs) blk off d') : SWb enc k w0 blk off d' (W.setCells blk o vs) := by
  obtain ⟨h1, h2, h3, h4⟩ := fld_setCells blk vs o W
  exact ⟨h1.trans h.os, h2.trans h.tape, h3.trans h.output, by rw [h4]; exact h.size, fun b hb hne => (heap_setCells blk vs o W b hne).trans (h.keep b hb hne), hH⟩
/-- An exchange. -/
theorem SWb.swapped (h : SWb enc k w0 blk off d W) (R : RowB enc k w0 blk) (i j : Nat) (hi : i < d.size) (hj : j < d.size) :
    SWb enc k w0 blk off (swp d i j) ((W.drew.setCells blk (off + i * k) (enc d[j]!)).setCells blk (off + j * k) (enc d[i]!)) := by
  have g1 := holds_setCells_c h.drew.holds (i * k) (enc d[j]!) (by rw [R.hk, size_flatK]; exact rowK_bnd d k i hi)
  have g2 := holds_setCells_c g1 (j * k) (enc d[i]!) (by rw [R.hk, size_setMany, size_flatK]; exact rowK_bnd d k j hj)
  rw [setMany_swp enc k R.hk d i j hi hj] at g2
  obtain ⟨a1, a2, a3, a4⟩ := fld_setCells blk (enc d[j]!) (off + i * k) W.drew
  obtain ⟨b1, b2, b3, b4⟩ := fld_setCells blk (enc d[i]!) (off + j * k) (W.drew.setCells blk (off + i * k) (enc d[j]!))
  exact ⟨b1.trans (a1.trans h.os), b2.trans (a2.trans h.tape), b3.trans (a3.trans h.output), by rw [b4, a4]; exact h.size,
    fun b hb hne => (heap_setCells blk _ _ _ b hne).trans ((heap_setCells blk _ _ _ b hne).trans (h.keep b hb hne)), g2⟩
/-- What is asked of the function that compares. -/
def CmpB (P : Program) (g : Nat) (cb : Array Value) (enc : α → List Value) (k : Nat) (cf : α → α → Int) (w0 : World) (blk off n : Nat) : Prop :=
  ∀ (W : World) (dk : Array α), SWb enc k w0 blk off dk W → dk.size = n → ∀ x y : α, Calls P g (#[.agg (enc x).toArray, .agg (enc y).toArray] ++ cb) W fun e w' => e = .returned (.int .i64 (cf x y)) ∧ Below W.heap.size W w'
end

section
variable {P : Program} {α : Type} [Inhabited α]
/-- n exchanges, one place behind the other. -/
def swaps (d : Array α) (a b : Nat) : Nat → Array α
  | 0 => d
  | n + 1 => swp (swaps d a b n) (a + n) (b + n)
theorem size_swaps (d : Array α) (a b : Nat) : ∀ n, (swaps d a b n).size = d.size
  | 0 => rfl
  | n + 1 => by rw [swaps, size_swp, size_swaps d a b n]

set_option maxHeartbeats 4000000 in
set_option maxRecDepth 1000000 in
theorem swapRange_at (k : Nat) (L : LO P k) (enc : α → List Value) (fv : Value) (w0 : World) (blk off cap a b n : Nat) (d : Array α) (w : World)
    (R : RowB enc k w0 blk) (S : SWb enc k w0 blk off d w) (ha : a + n ≤ d.size) (hb : b + n ≤ d.size) (hsz : d.size < 4611686018427387904) :
    Calls P 83 #[.slice (some ⟨blk, off, none⟩) d.size cap, .int .i64 a, .int .i64 b, .int .i64 n, fv] w fun e w' => e = .returned (.tuple #[]) ∧ SWb enc k w0 blk off (swaps d a b n) w' := by
  have mixed := L.mixed; have t0 := L.t0; have a0 := L.a0; have z0 := L.z0; have v0 := L.v0; have t3 := L.t3; have a3 := L.a3; have z3 := L.z3; have v3 := L.v3; have t4 := L.t4; have a4 := L.a4; have z4 := L.z4; have v4 := L.v4; have t57 := L.t57; have a57 := L.a57; have z57 := L.z57; have v57 := L.v57; have t61 := L.t61; have a61 := L.a61; have z61 := L.z61; have v61 := L.v61; have aE := L.aE; have zE := L.zE
  have S0 : Aside (SWb enc k w0 blk off d w) := S
  clear S
  go_enter L.f83, Try.ntmps83
  go_wp2
  go_loopg [10] n (fun kx s10 wr => ∃ (i : Nat), s10 = .int .i64 i ∧ i ≤ n ∧ n - i ≤ kx ∧ Aside (SWb enc k w0 blk off (swaps d a b i) wr))
  case atStart => exact ⟨0, rfl, Nat.zero_le _, by omega, S0⟩
  case round =>
    clear S0
    obtain ⟨i, rfl, hin, hkx, S1⟩ := hrel
    by_cases hlt : i < n
    · have hltz : (i : Int) < (n : Int) := by omega
      obtain ⟨dk, hdk⟩ : ∃ dk, dk = swaps d a b i := ⟨_, rfl⟩
      have hds : dk.size = d.size := by rw [hdk, size_swaps]
      rw [← hdk] at S1
      go_wp2_with fail
      have ea : ((a : Int) + (i : Int)).toNat = a + i := by omega
      have pa : (0 : Int) ≤ (a : Int) + (i : Int) := by omega
      have ba : (a : Int) + (i : Int) < (d.size : Int) := by omega
      have ra : IntKind.i64.wrap ((a : Int) + (i : Int)) = (a : Int) + (i : Int) := by rw [IntKind.wrap_i64]; omega
      have eb : ((b : Int) + (i : Int)).toNat = b + i := by omega
      have pb : (0 : Int) ≤ (b : Int) + (i : Int) := by omega
      have bb : (b : Int) + (i : Int) < (d.size : Int) := by omega
      have rb : IntKind.i64.wrap ((b : Int) + (i : Int)) = (b : Int) + (i : Int) := by rw [IntKind.wrap_i64]; omega
      have S2 : Aside (SWb enc k w0 blk off (swp dk (a + i) (b + i)) ((wr.drew.setCells blk (off + (a + i) * k) (enc dk[b + i]!)).setCells blk (off + (b + i) * k) (enc dk[a + i]!))) := S1.out.swapped R (a + i) (b + i) (by omega) (by omega)
      have la := S1.out.ld1 R P (a + i) (by omega)
      have lb := S1.out.ld1 R P (b + i) (by omega)
      have sa := S1.out.st1 R P (a + i) (by omega) dk[b + i]!
      have sb := S1.out.st2 R P (a + i) (b + i) (by omega) (by omega) dk[b + i]! dk[a + i]!
      have na : (enc dk[a + i]!).length = k := R.hk _
      have nb : (enc dk[b + i]!).length = k := R.hk _
      generalize enc dk[a + i]! = cI at S2 la sb na
      generalize enc dk[b + i]! = cJ at S2 lb sa sb nb
      clear S1
      go_wp2_with fail
      go_big_region_o
      clear la lb sa sb
      generalize (wr.drew.setCells blk (off + (a + i) * k) cJ).setCells blk (off + (b + i) * k) cI = w2 at S2 ⊢
      go_wp2
      go_roundg (n - (i + 1))
      case measure => omega
      case rel => exact ⟨i + 1, by go_num, hlt, Nat.le_refl _, by rw [swaps, ← hdk]; exact S2⟩
    · have hltz : ¬ (i : Int) < (n : Int) := by omega
      have e : i = n := by omega
      subst e
      go_wp2
      go_end0
      exact ⟨rfl, S1.out⟩
end
end Go.Proofs.Ytnkfjomnpnbidaa

namespace Go.Proofs.Ytnkfjomnpnbidaa
open Go.Shelf Go.RowKit Go.Lib Go.Sort
set_option linter.unusedVariables false
section
variable {P : Program} {α : Type} [Inhabited α] {enc : α → List Value} {k : Nat} {w0 W : World} {blk off n : Nat} {d : Array α} {cf : α → α → Int} {g : Nat} {cb : Array Value}

theorem SWb.ldb (h : SWb enc k w0 blk off d W) (R : RowB enc k w0 blk) (P : Program) (i : Nat) (hi : i < d.size) (q : Nat) (os : Array Obj) :
    Sem.run P (loadCellsFrom ⟨blk, off + i * k, none⟩ 0 k #[]) (grow (redrawn W q) os) = .ok (enc d[i]!).toArray (grow (redrawn W q) os) := (h.below R.hblk (below_regrown W q os)).load R P i hi
theorem SWb.cmpb (h : SWb enc k w0 blk off d W) (R : RowB enc k w0 blk) (C : CmpB P g cb enc k cf w0 blk off n) (hs : d.size = n) (x y : α) (q : Nat) (os : Array Obj) :
    Calls P g (#[.agg (enc x).toArray, .agg (enc y).toArray] ++ cb) (grow (redrawn W q) os) fun e w' => e = .returned (.int .i64 (cf x y)) ∧ Below (grow (redrawn W q) os).heap.size (grow (redrawn W q) os) w' :=
  C _ d (h.below R.hblk (below_regrown W q os)) hs x y
theorem SWb.regrown (h : SWb enc k w0 blk off d W) (R : RowB enc k w0 blk) (q : Nat) (os : Array Obj) : SWb enc k w0 blk off d (grow (redrawn W q) os) := h.below R.hblk (below_regrown W q os)
end

section
variable {P : Program} {α : Type} [Inhabited α]
set_option maxHeartbeats 4000000 in
set_option maxRecDepth 1000000 in
theorem insertion_at (k : Nat) (L : LO P k) (enc : α → List Value) (cf : α → α → Int) (g : Nat) (cb : Array Value) (w0 : World) (blk off cap a b : Nat) (d : Array α) (w : World)
    (eg : ∀ args w, (callFunc g args).run P w = .ok (.enter g args) w) (R : RowB enc k w0 blk) (C : CmpB P g cb enc k cf w0 blk off d.size) (S : SWb enc k w0 blk off d w) (hab : a ≤ b) (hb : b ≤ d.size) (hsz : d.size < 4611686018427387904) :
    Calls P 73 #[.slice (some ⟨blk, off, none⟩) d.size cap, .int .i64 a, .int .i64 b, .func (.func g) #[] cb] w fun e w' => e = .returned (.tuple #[]) ∧ SWb enc k w0 blk off (Sort.insertionSort (ltOf cf) d a b) w' := by
  have mixed := L.mixed; have t0 := L.t0; have a0 := L.a0; have z0 := L.z0; have v0 := L.v0; have t3 := L.t3; have a3 := L.a3; have z3 := L.z3; have v3 := L.v3; have t4 := L.t4; have a4 := L.a4; have z4 := L.z4; have v4 := L.v4; have t57 := L.t57; have a57 := L.a57; have z57 := L.z57; have v57 := L.v57; have t61 := L.t61; have a61 := L.a61; have z61 := L.z61; have v61 := L.v61; have aE := L.aE; have zE := L.zE
  have u57 := run_underlying L.t57
  have HC : Aside _ := C
  have S0 : Aside (SWb enc k w0 blk off d w) := S
  clear C S
  go_enter L.f73, Try.ntmps73
  go_wp2
  go_loopg [8] (b - a) (fun g1 vi wr => ∃ (i : Nat) (dk : Array α), vi = .int .i64 i ∧ a < i ∧ i ≤ b + 1 ∧ b + 1 - i ≤ g1 + 1 ∧ dk.size = d.size ∧ Aside (SWb enc k w0 blk off dk wr) ∧ Hid (insOuter (ltOf cf) a b i dk = insOuter (ltOf cf) a b (a + 1) d))
  case atStart => exact ⟨a + 1, d, by go_num, by omega, by omega, by omega, rfl, S0, rfl⟩
  case round =>
    clear S0
    obtain ⟨i, dk, rfl, hai, hib, hg1, hsk, SK, HO⟩ := hrel
    by_cases hlt : i < b
    · have hltz : (i : Int) < (b : Int) := by omega
      go_wp2
      go_loopg [9] i (fun g2 vj wr2 => ∃ (j : Nat) (dj : Array α), vj = .int .i64 j ∧ a ≤ j ∧ j ≤ i ∧ j ≤ g2 ∧ dj.size = d.size ∧ Aside (SWb enc k w0 blk off dj wr2) ∧ Hid (insInner (ltOf cf) a j dj = insInner (ltOf cf) a i dk))
      case atStart => exact ⟨i, dk, rfl, by omega, Nat.le_refl _, Nat.le_refl _, hsk, SK, rfl⟩
      case round =>
        clear SK
        obtain ⟨j, dj, rfl, haj, hji, hg2, hsj, SJ, HI⟩ := hrel
        have out : (j ≤ a ∨ ltOf cf dj[j]! dj[j - 1]! = false) → Hid (insOuter (ltOf cf) a b (i + 1) dj = insOuter (ltOf cf) a b (a + 1) d) := fun hs => by
          show _ = _
          rw [← HO.out, insOuter_go _ _ _ _ _ hlt, ← HI.out, insInner_stop _ _ _ _ hs]
        have OUT : Aside _ := out
        clear out
        by_cases hja : a < j
        · have hjaz : (a : Int) < (j : Int) := by omega
          obtain ⟨jp, rfl⟩ : ∃ jp, j = jp + 1 := ⟨j - 1, by omega⟩
          obtain ⟨xj, hxj⟩ : ∃ x, dj[jp + 1]! = x := ⟨_, rfl⟩
          obtain ⟨xp, hxp⟩ : ∃ x, dj[jp]! = x := ⟨_, rfl⟩
          have hwp : IntKind.i64.wrap (jp : Int) = (jp : Int) := by rw [IntKind.wrap_i64]; omega
          have jz : (jp : Int) + 1 < (d.size : Int) := by omega
          have jz1 : (jp : Int) < (d.size : Int) := by omega
          have hjaz' : (a : Int) < (jp : Int) + 1 := by omega
          have p0 : (0 : Int) ≤ (jp : Int) + 1 := by omega
          have e0 : ((jp : Int) + 1).toNat = jp + 1 := by omega
          have lj := SJ.out.ldb R P (jp + 1) (by omega)
          have lp := SJ.out.ldb R P jp (by omega)
          have hcg := SJ.out.cmpb R HC.out hsj xj xp
          rw [hxj] at lj
          rw [hxp] at lp
          have HX : Hid (dj[jp + 1]! = xj ∧ dj[jp]! = xp) := ⟨hxj, hxp⟩
          clear hxj hxp
          by_cases hlv : cf xj xp < 0
          · go_wp2_with fail
            refine wp_region_quiet_below (by assumption) (by kernel_rfl) ?_
            repeat (quiet_step (first | (go_at_fn g; refine Calls.regrown_of (hcg _ _))))
            refine wpQuiet_nil ?_
            intro _ hw'
            obtain ⟨⟨nq, osq⟩, hw''⟩ := hw'
            subst hw''
            go_wp2_with fail
            have SQ : Aside _ := SJ.out.regrown R nq osq
            clear lj lp hcg SJ
            generalize grow (redrawn _ nq) osq = wq2 at SQ ⊢
            have lj2 := SQ.out.ld1 R P (jp + 1) (by omega)
            have lp2 := SQ.out.ld1 R P jp (by omega)
            have s1 := SQ.out.st1 R P (jp + 1) (by omega) dj[jp]!
            have s2 := SQ.out.st2 R P (jp + 1) jp (by omega) (by omega) dj[jp]! dj[jp + 1]!
            have S2 : Aside _ := SQ.out.swapped R (jp + 1) jp (by omega) (by omega)
            have hsJ : (enc dj[jp + 1]!).length = k := R.hk _
            have hsP : (enc dj[jp]!).length = k := R.hk _
            generalize enc dj[jp + 1]! = cJ at S2 lj2 s2 hsJ
            generalize enc dj[jp]! = cP at S2 lp2 s1 s2 hsP
            clear SQ
            go_wp2_with fail
            go_big_region_o
            clear lj2 lp2 s1 s2
            generalize (wq2.drew.setCells blk (off + (jp + 1) * k) cP).setCells blk (off + jp * k) cJ = w2 at S2 ⊢
            go_wp2
            go_roundg jp
            case measure => omega
            case rel =>
              refine ⟨jp, swp dj (jp + 1) jp, by first | rfl | go_num | (congr 1; omega), by omega, by omega, Nat.le_refl _, by rw [size_swp]; exact hsj, S2, (show Hid _ from ?_)⟩
              show _ = _
              have := insInner_go (ltOf cf) a (jp + 1) dj hja (by simp only [Nat.add_sub_cancel]; rw [HX.out.1, HX.out.2]; exact decide_eq_true hlv)
              simp only [Nat.add_sub_cancel] at this
              rw [← HI.out, this]
          · go_wp2_with fail
            refine wp_region_quiet_below (by assumption) (by kernel_rfl) ?_
            repeat (quiet_step (first | (go_at_fn g; refine Calls.regrown_of (hcg _ _))))
            refine wpQuiet_nil ?_
            intro _ hw'
            obtain ⟨⟨nq, osq⟩, hw''⟩ := hw'
            subst hw''
            go_wp2
            go_roundg (b - (i + 1))
            case measure => omega
            case rel => exact ⟨i + 1, dj, by go_num, by omega, by omega, by omega, hsj, SJ.out.regrown R nq osq, OUT.out (Or.inr (by simp only [Nat.add_sub_cancel]; rw [HX.out.1, HX.out.2]; exact decide_eq_false (by omega)))⟩
        · have hjaz : decide ((j : Int) > (a : Int)) = false := decide_eq_false (by omega)
          have hjaz' : ¬ (a : Int) < (j : Int) := by omega
          have SD : Aside _ := SJ.out.drew
          clear SJ
          go_wp2_with fail
          go_big_region_o
          all_goals go_wp2
          go_roundg (b - (i + 1))
          case measure => omega
          case rel => exact ⟨i + 1, dj, by go_num, by omega, by omega, by omega, hsj, SD, OUT.out (Or.inl (by omega))⟩
    · have hltz : ¬ (i : Int) < (b : Int) := by omega
      go_wp2
      go_end0
      exact ⟨rfl, by unfold Sort.insertionSort; rw [← HO.out, insOuter_stop _ _ _ _ _ hlt]; exact SK.out⟩
end
end Go.Proofs.Ytnkfjomnpnbidaa
