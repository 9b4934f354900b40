/-
  The walks of latt's ordered and bounded: what each answers over a lattice in memory.
-/
import Derived.Test.YtnkfjomnpnbidaaZLatt2n3
import Derived.Test.YtnkfjomnpnbidaaZLatt4
namespace Go.Proofs.Ytnkfjomnpnbidaa
open Go.RowKit

def orderedB (n : Nat) (U D : Nat → Nat → Bool) : Bool := (List.range n).all fun a => S (inter (U a) (D a)) == S (one a)
def boundedB (n : Nat) (U D : Nat → Nat → Bool) : Bool := (List.range n).all fun a => (List.range a).all fun b => !(decide (joinB n U a b < 0) || decide (joinB n D a b < 0))

theorem orderedB_true {n : Nat} {U D : Nat → Nat → Bool} (h : ∀ a, a < n → (S (inter (U a) (D a)) == S (one a)) = true) : orderedB n U D = true := by
  unfold orderedB; rw [List.all_eq_true]; intro a ha; exact h a (List.mem_range.1 ha)
theorem orderedB_false {n a : Nat} {U D : Nat → Nat → Bool} (ha : a < n) (h : (S (inter (U a) (D a)) == S (one a)) = false) : orderedB n U D = false := by
  unfold orderedB; rw [List.all_eq_false]; exact ⟨a, List.mem_range.2 ha, by simp [h]⟩
theorem boundedB_true {n : Nat} {U D : Nat → Nat → Bool} (h : ∀ a b, a < n → b < a → decide (joinB n U a b < 0) = false ∧ decide (joinB n D a b < 0) = false) : boundedB n U D = true := by
  unfold boundedB; rw [List.all_eq_true]; intro a ha; rw [List.all_eq_true]; intro b hb
  have := h a b (List.mem_range.1 ha) (List.mem_range.1 hb)
  rw [this.1, this.2]; rfl
theorem boundedB_false {n a b : Nat} {U D : Nat → Nat → Bool} (ha : a < n) (hb : b < a) (h : (decide (joinB n U a b < 0) || decide (joinB n D a b < 0)) = true) : boundedB n U D = false := by
  unfold boundedB; rw [List.all_eq_false]
  refine ⟨a, List.mem_range.2 ha, ?_⟩
  have : ((List.range a).all fun b => !(decide (joinB n U a b < 0) || decide (joinB n D a b < 0))) = false := by
    rw [List.all_eq_false]; exact ⟨b, List.mem_range.2 hb, by rw [h]; simp⟩
  rw [this]; simp

set_option maxHeartbeats 1000000 in
theorem ordered_at (b n : Nat) (U D : Nat → Nat → Bool) (w : World) (hn : n ≤ 16) (L : LatAt w b n U D) :
    Calls Try.prog 50 #[.pointer (some ⟨b, 0, none⟩)] w (Reads w (.bool (orderedB n U D))) := by
  have hlen := L.len
  go_enter Try.func50, Try.ntmps50
  go_wp2
  go_loopw [8] (fun i w' => ∃ k : Nat, k ≤ n ∧ i = .int .i64 k ∧ (∀ a, a < k → (S (inter (U a) (D a)) == S (one a)) = true) ∧ ∃ m, w' = w.drewN m) (fun i _ => n - (intOf i).toNat)
  case atStart => exact ⟨0, Nat.zero_le _, rfl, fun a ha => by omega, 0, rfl⟩
  case round =>
    obtain ⟨k, hk, rfl, ha, m, rfl⟩ := hrel
    have HA := Lib.hid ha
    clear ha
    obtain ⟨w2, hw2⟩ : ∃ w2, w2 = w.drewN m := ⟨_, rfl⟩
    rw [← hw2]
    have HW := Lib.hid hw2
    have L2 : LatAt w2 b n U D := by rw [hw2]; exact L.drewN m
    clear hw2
    by_cases hlt : k < n
    · have h0 : (0 : Int) ≤ (k : Int) := by omega
      have h1 : (k : Int) < 16 := by omega
      have hu := L2.up k (by omega)
      have hd := L2.down k (by omega)
      by_cases hi : (S (inter (U k) (D k)) != S (one k)) = true
      · have HF := Lib.hid (orderedB_false (U := U) (D := D) hlt (show _ = false by simpa using hi))
        go_wp2
        go_quiet ((go_at_call 47; with_reducible exact Reads.quiet (only_at _ _ h0 h1)))
        go_wp2
        go_ret
        rw [HF.out]
        exact reads_after HW.out
      · have hi' : (S (inter (U k) (D k)) != S (one k)) = false := by simpa using hi
        have HE : Hid ((S (inter (U k) (D k)) == S (one k)) = true) := by show _ = true; simpa using hi
        clear hi
        go_wp2
        go_quiet ((go_at_call 47; with_reducible exact Reads.quiet (only_at _ _ h0 h1)))
        go_wp2
        go_roundw
        case rel =>
          refine ⟨k + 1, by omega, by go_num, fun a ha => ?_, m + nq, by rw [HW.out, World.drewN_drewN]⟩
          by_cases e : a = k
          · rw [e]; exact HE.out
          · exact HA.out a (by omega)
        case measure => simp [intOf]; omega
    · obtain rfl : k = n := by omega
      have HT := Lib.hid (orderedB_true HA.out)
      go_wp2
      go_ret
      rw [HT.out]
      exact ⟨rfl, m, HW.out⟩

theorem join_is (b : Nat) (n x y v : Int) (U D : Nat → Nat → Bool) (w : World) (hn : n ≤ 16) (L : LatAt w b n U D) (h : joinB n U x y = v) :
    Calls Try.prog 52 #[.pointer (some ⟨b, 0, none⟩), .int .i64 x, .int .i64 y] w (Reads w (.int .i64 v)) := by
  rw [← h]; exact join_at b n x y U D w hn L
theorem meet_is (b : Nat) (n x y v : Int) (U D : Nat → Nat → Bool) (w : World) (hn : n ≤ 16) (L : LatAt w b n U D) (h : joinB n D x y = v) :
    Calls Try.prog 67 #[.pointer (some ⟨b, 0, none⟩), .int .i64 x, .int .i64 y] w (Reads w (.int .i64 v)) := by
  rw [← h]; exact meet_at b n x y U D w hn L

set_option maxHeartbeats 2000000 in
theorem bounded_at (b n : Nat) (U D : Nat → Nat → Bool) (w : World) (hn : n ≤ 16) (L : LatAt w b n U D) :
    Calls Try.prog 51 #[.pointer (some ⟨b, 0, none⟩)] w (Reads w (.bool (boundedB n U D))) := by
  have hlen := L.len
  have hn' : (n : Int) ≤ 16 := by omega
  go_enter Try.func51, Try.ntmps51
  go_wp2
  go_loopw [9] (fun i w' => ∃ k : Nat, k ≤ n ∧ i = .int .i64 k ∧ (∀ a b, a < k → b < a → decide (joinB n U a b < 0) = false ∧ decide (joinB n D a b < 0) = false) ∧ ∃ m, w' = w.drewN m) (fun i _ => n - (intOf i).toNat)
  case atStart => exact ⟨0, Nat.zero_le _, rfl, fun a b ha => by omega, 0, rfl⟩
  case round =>
    obtain ⟨k, hk, rfl, ha, m, rfl⟩ := hrel
    have HA := Lib.hid ha
    clear ha
    by_cases hlt : k < n
    · go_wp2
      go_loopw [13] (fun i w' => ∃ j : Nat, j ≤ k ∧ i = .int .i64 j ∧ (∀ y, y < j → decide (joinB n U k y < 0) = false ∧ decide (joinB n D k y < 0) = false) ∧ ∃ m, w' = w.drewN m) (fun i _ => k - (intOf i).toNat)
      case atStart => exact ⟨0, Nat.zero_le _, rfl, fun y hy => by omega, m, rfl⟩
      case round =>
        obtain ⟨j, hj, rfl, hb, m2, rfl⟩ := hrel
        have HB := Lib.hid hb
        clear hb
        by_cases hlt2 : j < k
        · obtain ⟨x, hx⟩ : ∃ x, joinB n U k j = x := ⟨_, rfl⟩
          obtain ⟨y, hy⟩ : ∃ y, joinB n D k j = y := ⟨_, rfl⟩
          have HX := Lib.hid hx
          have HY := Lib.hid hy
          clear hx hy
          by_cases h1 : x < 0
          · have HF := Lib.hid (boundedB_false (U := U) (D := D) hlt hlt2 (by rw [HX.out]; simp [h1]))
            go_wp2_with (first | (go_at_call 52; (with_reducible refine (join_is b n k j x U D _ hn' ?_ HX.out).mono ?_); (try exact L.drewN _); rintro e w' ⟨rfl, m1, rfl⟩) | (go_at_call 67; (with_reducible refine (meet_is b n k j y U D _ hn' ?_ HY.out).mono ?_); (try exact L.drewN _); rintro e w' ⟨rfl, m3, rfl⟩))
            go_ret
            rw [HF.out]
            exact ⟨rfl, _, rfl⟩
          · have h1' : decide (x < 0) = false := by simpa using h1
            by_cases h2 : y < 0
            · have HF := Lib.hid (boundedB_false (U := U) (D := D) hlt hlt2 (by rw [HX.out, HY.out]; simp [h2]))
              go_wp2_with (first | (go_at_call 52; (with_reducible refine (join_is b n k j x U D _ hn' ?_ HX.out).mono ?_); (try exact L.drewN _); rintro e w' ⟨rfl, m1, rfl⟩) | (go_at_call 67; (with_reducible refine (meet_is b n k j y U D _ hn' ?_ HY.out).mono ?_); (try exact L.drewN _); rintro e w' ⟨rfl, m3, rfl⟩))
              go_ret
              rw [HF.out]
              exact ⟨rfl, _, rfl⟩
            · have h2' : decide (y < 0) = false := by simpa using h2
              have HE : Hid (decide (joinB n U k j < 0) = false ∧ decide (joinB n D k j < 0) = false) := by rw [HX.out, HY.out]; exact ⟨h1', h2'⟩
              go_wp2_with (first | (go_at_call 52; (with_reducible refine (join_is b n k j x U D _ hn' ?_ HX.out).mono ?_); (try exact L.drewN _); rintro e w' ⟨rfl, m1, rfl⟩) | (go_at_call 67; (with_reducible refine (meet_is b n k j y U D _ hn' ?_ HY.out).mono ?_); (try exact L.drewN _); rintro e w' ⟨rfl, m3, rfl⟩))
              go_roundw
              case rel =>
                refine ⟨j + 1, by omega, by go_num, fun z hz => ?_, _, rfl⟩
                by_cases e : z = j
                · rw [e]; exact HE.out
                · exact HB.out z (by omega)
              case measure => simp [intOf]; omega
        · obtain rfl : j = k := by omega
          go_wp2
          go_roundw
          case rel =>
            refine ⟨j + 1, by omega, by go_num, fun x y hx hy => ?_, _, rfl⟩
            by_cases e : x = j
            · subst e; exact HB.out y hy
            · exact HA.out x y (by omega) hy
          case measure => simp [intOf]; omega
    · obtain rfl : k = n := by omega
      have HT := Lib.hid (boundedB_true HA.out)
      go_wp2
      go_ret
      rw [HT.out]
      exact ⟨rfl, _, rfl⟩
end Go.Proofs.Ytnkfjomnpnbidaa

namespace Go.Proofs.Ytnkfjomnpnbidaa
open Go.RowKit

/-- A slice of pairs in memory: its cells. -/
def PairsAt (w : World) (a : Option Addr) (ps : List (Int × Int)) : Prop :=
  ∀ i (h : i < ps.length), ∃ pb po, a = some ⟨pb, po, none⟩ ∧ pb < w.heap.size ∧ w.cell? ⟨pb, po + i * 2, none⟩ = some (.int .i64 (ps[i]).1) ∧ w.cell? ⟨pb, po + i * 2 + 1, none⟩ = some (.int .i64 (ps[i]).2)

theorem PairsAt.below {w w' : World} {a : Option Addr} {ps : List (Int × Int)} (h : PairsAt w a ps) (k : Below w.heap.size w w') : PairsAt w' a ps := fun i hi => by
  obtain ⟨pb, po, h1, h2, h3, h4⟩ := h i hi
  exact ⟨pb, po, h1, Nat.lt_of_lt_of_le h2 k.size, by rw [k.cell (p := ⟨pb, _, none⟩) h2]; exact h3, by rw [k.cell (p := ⟨pb, _, none⟩) h2]; exact h4⟩

/-- Whether all pairs are of levels. -/
def goodB (n : Int) (ps : List (Int × Int)) : Bool := ps.all fun p => hasB n p.1 && hasB n p.2

/-- What pairs say, as a table. -/
def tab (ps : List (Int × Int)) : Nat → Nat → Bool := fun a i => ps.any fun p => p.1 == a && p.2 == i

def nots : Nat → Nat → Bool := fun _ _ => false

set_option maxHeartbeats 400000 in
theorem new_arg (n : Int) (v : Value) (w : World) (h : n < 1 ∨ 16 < n) :
    Calls Try.prog 20 #[.int .i64 n, v] w fun e w' => e = .returned (.tuple #[.pointer none, .int .i64 1]) ∧ w = w' := by
  rcases h with h | h
  · go_enter Try.func20, Try.ntmps20
    go_wp2
    go_ret2
    exact ⟨rfl, rfl⟩
  · have h' : ¬ n < 1 := by omega
    go_enter Try.func20, Try.ntmps20
    go_wp2
    go_ret2
    exact ⟨rfl, rfl⟩

def zeros (n : Int) : Array Value := #[.int .i64 n, .int .u16 0, .int .u16 0, .int .u16 0, .int .u16 0, .int .u16 0, .int .u16 0, .int .u16 0, .int .u16 0, .int .u16 0, .int .u16 0, .int .u16 0, .int .u16 0, .int .u16 0, .int .u16 0, .int .u16 0, .int .u16 0,
  .int .u16 0, .int .u16 0, .int .u16 0, .int .u16 0, .int .u16 0, .int .u16 0, .int .u16 0, .int .u16 0, .int .u16 0, .int .u16 0, .int .u16 0, .int .u16 0, .int .u16 0, .int .u16 0, .int .u16 0, .int .u16 0]

theorem zeros_at (n : Int) : ∀ i, 1 ≤ i → i < 33 → (zeros n)[i]? = some (.int .u16 0) := by
  intro i h1 h2
  have : i = 1 ∨ i = 2 ∨ i = 3 ∨ i = 4 ∨ i = 5 ∨ i = 6 ∨ i = 7 ∨ i = 8 ∨ i = 9 ∨ i = 10 ∨ i = 11 ∨ i = 12 ∨ i = 13 ∨ i = 14 ∨ i = 15 ∨ i = 16 ∨ i = 17 ∨ i = 18 ∨ i = 19 ∨ i = 20 ∨ i = 21 ∨ i = 22 ∨ i = 23 ∨ i = 24 ∨ i = 25 ∨ i = 26 ∨ i = 27 ∨ i = 28 ∨ i = 29 ∨ i = 30 ∨ i = 31 ∨ i = 32 := by omega
  rcases this with h | h | h | h | h | h | h | h | h | h | h | h | h | h | h | h | h | h | h | h | h | h | h | h | h | h | h | h | h | h | h | h <;> (subst h; rfl)

theorem LatAt.zero (w : World) (n : Int) : LatAt (w.alloc (.cells (zeros n) 70)) w.heap.size n nots nots := by
  have e : ∀ i, (w.alloc (.cells (zeros n) 70)).cell? ⟨w.heap.size, i, none⟩ = (zeros n)[i]? := fun i => World.cell?_alloc_new w _ _ i
  have z : S (nots 0) = 0 := S_empty
  refine ⟨by rw [e]; rfl, fun a ha => ?_, fun a ha => ?_, fun o => World.frozen?_alloc_new w _ _ o⟩
  · rw [e, zeros_at n _ (by omega) (by omega)]; exact congrArg (fun x => some (Value.int .u16 x)) z.symm
  · rw [e, zeros_at n _ (by omega) (by omega)]; exact congrArg (fun x => some (Value.int .u16 x)) z.symm

theorem below_draws6 {B : Nat} {x y : World} (h : Below B x y) (m : Nat) : Below B x (y.drewN m) := ⟨h.os, h.tape, h.output, h.size, h.block⟩

/-- What holds at the head of a round of New. -/
def NewAt (w : World) (n : Nat) (ps : List (Int × Int)) (k : Nat) (w' : World) : Prop :=
  LatAt w' w.heap.size n (tab (ps.take k)) nots ∧ Below w.heap.size w w' ∧ w.heap.size < w'.heap.size ∧ goodB n (ps.take k) = true

theorem take_snoc {ps : List (Int × Int)} {k : Nat} (h : k < ps.length) : ps.take (k + 1) = ps.take k ++ [ps[k]] := by
  rw [List.take_succ_eq_append_getElem h]
theorem tab_snoc (ps : List (Int × Int)) (x y : Int) (hx : 0 ≤ x) (hy : 0 ≤ y) (a i : Nat) : upd (tab ps) x.toNat (union (tab ps x.toNat) (one y.toNat)) a i = tab (ps ++ [(x, y)]) a i := by
  rw [Bool.eq_iff_iff]
  have ex : x = (a : Int) ↔ a = x.toNat := by omega
  have ey : y = (i : Int) ↔ i = y.toNat := by omega
  by_cases e : a = x.toNat
  · subst e
    have e3 : ((x.toNat : Nat) : Int) = x := by omega
    have e4 : max x 0 = x := by omega
    simp [upd, union, one, tab, ey, e4]
  · simp [upd, tab, e, ex]
theorem goodB_snoc (n : Int) (ps : List (Int × Int)) (x y : Int) : goodB n (ps ++ [(x, y)]) = (goodB n ps && (hasB n x && hasB n y)) := by simp [goodB]
theorem goodB_bad {n : Int} {ps : List (Int × Int)} {k : Nat} (h : k < ps.length) (hb : (hasB n (ps[k]).1 && hasB n (ps[k]).2) = false) : goodB n ps = false := by
  unfold goodB; rw [List.all_eq_false]; exact ⟨ps[k], List.getElem_mem h, by rw [hb]; simp⟩

theorem goodB_within {n : Nat} {ps : List (Int × Int)} (h : goodB n ps = true) (a i : Nat) (hi : tab ps a i = true) : i < n := by
  unfold tab at hi
  obtain ⟨p, hp, hq⟩ := List.any_eq_true.1 hi
  unfold goodB at h
  have := List.all_eq_true.1 h p hp
  simp [hasB] at this hq
  omega

/-- What pairs are, closed, as two tables. -/
structure IsTab (n : Nat) (ps : List (Int × Int)) (U D : Nat → Nat → Bool) : Prop where
  one_le : 1 ≤ n
  le : n ≤ 16
  inv : Inv n (tab ps) U
  refl : ∀ a, a < n → U a a = true
  trans : ∀ x y, x < n → y < n → ok U x y
  down : ∀ a i, D a i = downTo n U n 0 a i

def okArgs (n : Int) (ps : List (Int × Int)) : Bool := decide (1 ≤ n) && decide (n ≤ 16) && goodB n ps

/-- What New answers. -/
def NewPost (w : World) (n : Int) (ps : List (Int × Int)) (e : Ending) (w' : World) : Prop :=
  Below w.heap.size w w' ∧
  ((okArgs n ps = false ∧ e = .returned (.tuple #[.pointer none, .int .i64 1])) ∨
   (okArgs n ps = true ∧ ∃ (N : Nat) (U D : Nat → Nat → Bool), n = N ∧ IsTab N ps U D ∧
     (((orderedB N U D && boundedB N U D) = false ∧ e = .returned (.tuple #[.pointer none, .int .i64 4])) ∨
      ((orderedB N U D && boundedB N U D) = true ∧ ∃ b, w.heap.size ≤ b ∧ b < w'.heap.size ∧ e = .returned (.tuple #[.pointer (some ⟨b, 0, none⟩), .int .i64 0]) ∧ LatAt w' b n U D))))

set_option maxRecDepth 100000 in
set_option maxHeartbeats 4000000 in
theorem new_in (n : Nat) (a : Option Addr) (cap : Nat) (ps : List (Int × Int)) (w : World) (h1 : 1 ≤ n) (h2 : n ≤ 16) (hm : ps.length ≤ maxLen) (hp : PairsAt w a ps) :
    Calls Try.prog 20 #[.int .i64 n, .slice a ps.length cap] w (NewPost w n ps) := by
  unfold maxLen at hm
  have HP := Lib.hid hp
  clear hp
  have g1 : ¬ (n : Int) < 1 := by omega
  have g2 : ¬ 16 < (n : Int) := by omega
  have g3 : (n : Int) ≤ 16 := by omega
  go_enter Try.func20, Try.ntmps20
  go_wp2
  go_loopw [20] (fun i w' => ∃ k : Nat, k ≤ ps.length ∧ i = .int .i64 k ∧ NewAt w n ps k w') (fun i _ => ps.length - (intOf i).toNat)
  case atStart => exact ⟨0, Nat.zero_le _, rfl, LatAt.zero w n, (Below.refl _ _).alloc (Nat.le_refl _) _, by simp, by simp [goodB]⟩
  case round =>
    obtain ⟨k, hk, rfl, NL, NB, NS, NG⟩ := hrel
    have HB := Lib.hid NB
    have HG := Lib.hid NG
    by_cases hlt : k < ps.length
    · obtain ⟨pb, po, rfl, hpb, c0, c1⟩ := (HP.out.below NB) k hlt
      obtain ⟨x, hx⟩ : ∃ x, (ps[k]).1 = x := ⟨_, rfl⟩
      obtain ⟨y, hy⟩ : ∃ y, (ps[k]).2 = y := ⟨_, rfl⟩
      rw [hx] at c0
      rw [hy] at c1
      have HX := Lib.hid hx
      have HY := Lib.hid hy
      clear hx hy NB NG
      go_wp2_with fail
      obtain ⟨w2, hw2⟩ : ∃ w2, w2 = wr.alloc (Obj.cells #[Value.int IntKind.i64 x, Value.int IntKind.i64 y] 37) := ⟨_, rfl⟩
      rw [← hw2]
      have L2 : LatAt w2 w.heap.size n (tab (ps.take k)) nots := by
        rw [hw2]; exact NL.below ((Below.refl wr.heap.size wr).alloc (Nat.le_refl _) _) NS
      have HB2 : Hid (Below w.heap.size w w2) := by rw [hw2]; exact HB.out.alloc (Nat.le_of_lt NS) _
      have d0 : w2.cell? ⟨wr.heap.size, 0, none⟩ = some (.int .i64 x) := by rw [hw2]; exact World.cell?_alloc_new wr _ _ 0
      have d1 : w2.cell? ⟨wr.heap.size, 1, none⟩ = some (.int .i64 y) := by rw [hw2]; exact World.cell?_alloc_new wr _ _ 1
      have NS2 : w.heap.size < w2.heap.size := by rw [hw2]; simp; omega
      clear hw2 c0 c1 NL HB
      generalize wr.heap.size = pn at *
      have hlen := L2.len
      cases hx : hasB n x
      · have HE : Hid (okArgs n ps = false) := by
          have := goodB_bad (n := n) hlt (by rw [HX.out, hx]; rfl)
          show _ = false; rw [okArgs, this]; simp
        refine (has_no w.heap.size n x _ hlen hx).mono ?_
        rintro e w' ⟨rfl, m, rfl⟩
        clear hx
        go_wp2
        go_ret2
        exact ⟨below_draws6 HB2.out _, Or.inl ⟨HE.out, rfl⟩⟩
      · refine (has_yes w.heap.size n x _ hlen hx).mono ?_
        rintro e w' ⟨rfl, m, rfl⟩
        have HHX := Lib.hid hx
        clear hx
        go_wp2_with fail
        cases hy : hasB n y
        · have HE : Hid (okArgs n ps = false) := by
            have := goodB_bad (n := n) hlt (by rw [HY.out, hy]; simp)
            show _ = false; rw [okArgs, this]; simp
          refine (has_no w.heap.size n y _ (by exact hlen) hy).mono ?_
          rintro e w' ⟨rfl, m3, rfl⟩
          clear hy
          go_wp2
          go_ret2
          exact ⟨below_draws6 HB2.out _, Or.inl ⟨HE.out, rfl⟩⟩
        · refine (has_yes w.heap.size n y _ (by exact hlen) hy).mono ?_
          rintro e w' ⟨rfl, m3, rfl⟩
          obtain ⟨x0, x1⟩ := hasB_true.1 HHX.out
          obtain ⟨y0, y1⟩ := hasB_true.1 hy
          have HHY := Lib.hid hy
          clear hy hlen
          have x16 : x < 16 := by omega
          have y16 : y < 16 := by omega
          go_wp2
          obtain ⟨w4, hw4⟩ : ∃ w4, w4 = w2.drewN (m + m3) := ⟨_, rfl⟩
          rw [← hw4]
          have L4 : LatAt w4 w.heap.size n (tab (ps.take k)) nots := by rw [hw4]; exact L2.drewN _
          have HB4 : Hid (Below w.heap.size w w4) := by rw [hw4]; exact below_draws6 HB2.out _
          have q0 : w4.cell? ⟨pn, 0, none⟩ = some (.int .i64 x) := by rw [hw4]; exact d0
          have q1 : w4.cell? ⟨pn, 1, none⟩ = some (.int .i64 y) := by rw [hw4]; exact d1
          have NS4 : w.heap.size < w4.heap.size := by rw [hw4]; exact NS2
          clear hw4 d0 d1 L2 HB2 NS2
          have hux := L4.up x.toNat (by omega)
          go_still_tail 14, (by kernel_rfl)
          still_call (only_still _ _ y0 y16)
          repeat still_step
          refine wpStill_nil ?_
          change wpList _ _ _ _ _ w4.drew
          have L5 : LatAt w4.drew w.heap.size n (tab (ps.take k)) nots := L4.drewN 1
          have HB5 : Hid (Below w.heap.size w w4.drew) := below_draws6 HB4.out 1
          have NS5 : w.heap.size < w4.drew.heap.size := NS4
          have hux5 := L5.up x.toNat (by omega)
          have hf5 := L5.nf (1 + x.toNat)
          clear q0 q1 L4 HB4 NS4 hux
          generalize w4.drew = w5 at *
          go_wp2
          go_roundw
          case rel =>
            refine ⟨k + 1, by omega, by go_num, ?_, HB5.out.setCell (Nat.le_refl _) _, by simpa using NS5, ?_⟩
            · have e : ps.take (k + 1) = ps.take k ++ [(x, y)] := by rw [take_snoc hlt]; congr 1; rw [← HX.out, ← HY.out]
              rw [e]
              exact (L5.setUp x.toNat (by omega) _).congr (fun a i _ _ => tab_snoc _ x y x0 y0 a i) (fun _ _ _ _ => rfl)
            · have e : ps.take (k + 1) = ps.take k ++ [(x, y)] := by rw [take_snoc hlt]; congr 1; rw [← HX.out, ← HY.out]
              rw [e, goodB_snoc, HG.out, HHX.out, HHY.out]; rfl
          case measure => simp [intOf]; omega
    · obtain rfl : k = ps.length := by omega
      rw [List.take_length] at NL
      rw [List.take_length] at NG
      have HE : Hid (okArgs n ps = true) := by
        show _ = true
        rw [okArgs, NG]; simp; omega
      have HU := Lib.hid (fun (a i : Nat) (_ : a < n) (_ : i < 16) h => goodB_within NG a i h)
      clear NG HG NB
      go_wp2_with fail
      refine (closeUp_at w.heap.size n (tab ps) nots _ h2 HU.out NL).mono ?_
      rintro e w1 ⟨rfl, U, L1, O1, I1, R1, T1⟩
      have HO1 := Lib.hid O1
      have HI1 := Lib.hid I1
      have HR1 := Lib.hid R1
      have HT1 := Lib.hid T1
      clear O1 I1 R1 T1
      go_wp2_with fail
      refine (fillDown_at w.heap.size n U _ h2 ⟨L1.congr (fun _ _ _ _ => rfl) (fun a i _ _ => (downTo_start n U a i).symm), Only.refl _ _⟩).mono ?_
      rintro e w2 ⟨rfl, L2, O2⟩
      have HO2 := Lib.hid O2
      clear O2 L1
      have HT : Hid (IsTab n ps U (downTo n U n 0)) := ⟨h1, h2, HI1.out, HR1.out, HT1.out, fun _ _ => rfl⟩
      have HBB : Hid (Below w.heap.size w w2) := (HB.out.trans (HO1.out.below (Nat.le_refl _))).trans (HO2.out.below (Nat.le_refl _))
      have HSS : Hid (w.heap.size < w2.heap.size) := by show _ < _; rw [HO2.out.size, HO1.out.size]; exact NS
      clear HB HO1 HO2 HI1 HR1 HT1 NL HU NS
      go_wp2_with fail
      cases ho : orderedB n U (downTo n U n 0)
      · have h3 := ordered_at w.heap.size n U (downTo n U n 0) w2 h2 L2
        rw [ho] at h3
        refine h3.mono ?_
        rintro e w' ⟨rfl, m, rfl⟩
        have HO := Lib.hid ho
        clear ho h3
        go_wp2
        go_ret2
        exact ⟨below_draws6 HBB.out _, Or.inr ⟨HE.out, n, U, _, rfl, HT.out, Or.inl ⟨by rw [HO.out]; rfl, rfl⟩⟩⟩
      · have h3 := ordered_at w.heap.size n U (downTo n U n 0) w2 h2 L2
        rw [ho] at h3
        refine h3.mono ?_
        rintro e w' ⟨rfl, m, rfl⟩
        have HO := Lib.hid ho
        clear ho h3
        go_wp2_with fail
        cases hb : boundedB n U (downTo n U n 0)
        · have h3 := bounded_at w.heap.size n U (downTo n U n 0) (w2.drewN m) h2 (L2.drewN m)
          rw [hb] at h3
          refine h3.mono ?_
          rintro e w' ⟨rfl, m3, rfl⟩
          have HB := Lib.hid hb
          clear hb h3
          go_wp2
          go_ret2
          exact ⟨below_draws6 HBB.out _, Or.inr ⟨HE.out, n, U, _, rfl, HT.out, Or.inl ⟨by rw [HO.out, HB.out]; rfl, rfl⟩⟩⟩
        · have h3 := bounded_at w.heap.size n U (downTo n U n 0) (w2.drewN m) h2 (L2.drewN m)
          rw [hb] at h3
          refine h3.mono ?_
          rintro e w' ⟨rfl, m3, rfl⟩
          have HB := Lib.hid hb
          clear hb h3
          go_wp2
          go_ret2
          exact ⟨below_draws6 HBB.out _, Or.inr ⟨HE.out, n, U, _, rfl, HT.out, Or.inr ⟨by rw [HO.out, HB.out]; rfl, w.heap.size, Nat.le_refl _, HSS.out, rfl, L2.drewN _⟩⟩⟩

/-- New, whatever it is given. -/
theorem new_at (n : Int) (a : Option Addr) (cap : Nat) (ps : List (Int × Int)) (w : World) (hm : ps.length ≤ maxLen) (hp : PairsAt w a ps) :
    Calls Try.prog 20 #[.int .i64 n, .slice a ps.length cap] w (NewPost w n ps) := by
  by_cases h : 1 ≤ n ∧ n ≤ 16
  · obtain ⟨N, rfl⟩ : ∃ N : Nat, n = N := ⟨n.toNat, by omega⟩
    exact new_in N a cap ps w (by omega) (by omega) hm hp
  · refine (new_arg n _ w (by omega)).mono ?_
    rintro e w' ⟨rfl, rfl⟩
    exact ⟨Below.refl _ _, Or.inl ⟨by simp [okArgs]; omega, rfl⟩⟩

end Go.Proofs.Ytnkfjomnpnbidaa
