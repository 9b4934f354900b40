/-
  The walks of latt's readers: all, Join, Meet, Bottom, Top: what each answers over a lattice in memory.
-/
import Derived.Test.YtnkfjomnpnbidaaZLatt1
import Derived.StillTailTactics
import Derived.Test.YtnkfjomnpnbidaaZRefAn3
namespace Go.Proofs.Ytnkfjomnpnbidaa
open Go.RowKit

/-- The levels below n. -/
def below (n : Nat) : Nat → Bool := fun i => decide (i < n)

theorem S_below_zero : S (below 0) = 0 := by
  rw [← S_empty]; exact S_congr fun i _ => by simp [below]
theorem S_below_succ (k : Nat) : S (union (below k) (one k)) = S (below (k + 1)) := S_congr fun i _ => by
  simp only [union, below, one]
  by_cases h : i < k
  · simp [h, Nat.lt_succ_of_lt h]
  · by_cases e : i = k
    · simp [e]
    · have : ¬ i < k + 1 := by omega
      simp [h, e, this]

set_option maxHeartbeats 1000000 in
theorem all_at (b : Nat) (n : Nat) (w : World) (hn : n ≤ 16) (hlen : w.cell? ⟨b, 0, none⟩ = some (.int .i64 n)) :
    Calls Try.prog 56 #[.pointer (some ⟨b, 0, none⟩)] w (Reads w (.int .u16 (S (below n)))) := by
  go_enter Try.func56, Try.ntmps56
  go_wp2
  go_loopw [3, 9] (fun s i w' => ∃ k : Nat, k ≤ n ∧ i = .int .i64 k ∧ s = .int .u16 (S (below k)) ∧ ∃ m, w' = w.drewN m) (fun _ i _ => n - (intOf i).toNat)
  case atStart => exact ⟨0, Nat.zero_le _, rfl, by rw [S_below_zero], 0, rfl⟩
  case round =>
    obtain ⟨k, hk, rfl, rfl, m, rfl⟩ := hrel
    by_cases hlt : k < n
    · have h0 : (0 : Int) ≤ (k : Int) := by omega
      have h1 : (k : Int) < 16 := by omega
      go_wp2_with (go_at_call 47; refine (only_at _ _ h0 h1).mono ?_; rintro e w' ⟨rfl, m, rfl⟩)
      go_roundw
      case rel => exact ⟨k + 1, by omega, by go_num, by rw [← S_below_succ], _, rfl⟩
      case measure => simp [intOf]; omega
    · have e : k = n := by omega
      subst e
      go_wp2
      go_ret
      exact ⟨rfl, _, rfl⟩

theorem reads_after {w w2 : World} {k q : Nat} {v : Value} (h : w2 = w.drewN k) : Reads w v (.returned v) (w2.drewN q) := ⟨rfl, k + q, by rw [h, World.drewN_drewN]⟩

/-- What Join and Meet answer. -/
def joinB (n : Int) (U : Nat → Nat → Bool) (a b : Int) : Int := if hasB n a && hasB n b then cover U (inter (U a.toNat) (U b.toNat)) else -1

set_option maxHeartbeats 400000 in
theorem join_both (b : Nat) (n x y : Int) (U D : Nat → Nat → Bool) (w : World) (hn : n ≤ 16) (L : LatAt w b n U D) (hx : hasB n x = true) (hy : hasB n y = true) :
    Calls Try.prog 52 #[.pointer (some ⟨b, 0, none⟩), .int .i64 x, .int .i64 y] w (Reads w (.int .i64 (joinB n U x y))) := by
  have hlen := L.len
  obtain ⟨x0, x1⟩ := hasB_true.1 hx
  obtain ⟨y0, y1⟩ := hasB_true.1 hy
  have hux := L.up x.toNat (by omega)
  have huy := L.up y.toNat (by omega)
  have HU := Lib.hid L.up
  clear L
  have HE : Hid (joinB n U x y = cover U (inter (U x.toNat) (U y.toNat))) := by simp [Hid, joinB, hx, hy]
  have HX := Lib.hid hx
  have HY := Lib.hid hy
  clear hx hy
  have x16 : x < 16 := by omega
  have y16 : y < 16 := by omega
  go_enter Try.func52, Try.ntmps52
  go_wp2_with (first | (go_at_call 46; (with_reducible refine (has_yes b n x _ ?_ HX.out).mono ?_); (try exact hlen); rintro e w' ⟨rfl, m1, rfl⟩) | (go_at_call 46; (with_reducible refine (has_yes b n y _ ?_ HY.out).mono ?_); (try exact hlen); rintro e w' ⟨rfl, m2, rfl⟩))
  obtain ⟨w2, hw2⟩ : ∃ w2, w2 = w.drewN (m1 + m2) := ⟨_, rfl⟩
  rw [← hw2]
  have hux2 : w2.cell? { block := b, off := 1 + x.toNat } = some (Value.int IntKind.u16 (S (U x.toNat))) := by rw [hw2]; exact hux
  have huy2 : w2.cell? { block := b, off := 1 + y.toNat } = some (Value.int IntKind.u16 (S (U y.toNat))) := by rw [hw2]; exact huy
  have HU2 : Hid (∀ (a : Nat), a < 16 → w2.cell? { block := b, off := 1 + a } = some (Value.int IntKind.u16 (S (U a)))) := by rw [hw2]; exact HU
  have HW2 := Lib.hid hw2
  clear hw2 hux huy HU
  go_quiet ((go_at_call 55; (with_reducible refine Reads.quiet (covering_at b 1 U (inter (U x.toNat) (U y.toNat)) _ ?_)); exact HU2))
  go_wp2
  go_ret
  rw [HE.out]
  exact reads_after HW2.out

set_option maxHeartbeats 400000 in
theorem join_second (b : Nat) (n x y : Int) (U : Nat → Nat → Bool) (w : World) (hlen : w.cell? ⟨b, 0, none⟩ = some (.int .i64 n)) (hx : hasB n x = true) (hy : hasB n y = false) :
    Calls Try.prog 52 #[.pointer (some ⟨b, 0, none⟩), .int .i64 x, .int .i64 y] w (Reads w (.int .i64 (joinB n U x y))) := by
  have HE : Hid (joinB n U x y = -1) := by simp [Hid, joinB, hy]
  have HX := Lib.hid hx
  have HY := Lib.hid hy
  clear hx hy
  go_enter Try.func52, Try.ntmps52
  go_wp2_with (first | (go_at_call 46; (with_reducible refine (has_yes b n x _ ?_ HX.out).mono ?_); (try exact hlen); rintro e w' ⟨rfl, m1, rfl⟩) | (go_at_call 46; (with_reducible refine (has_no b n y _ ?_ HY.out).mono ?_); (try exact hlen); rintro e w' ⟨rfl, m2, rfl⟩))
  go_ret
  rw [HE.out]
  exact ⟨rfl, _, rfl⟩

set_option maxHeartbeats 400000 in
theorem join_first (b : Nat) (n x y : Int) (U : Nat → Nat → Bool) (w : World) (hlen : w.cell? ⟨b, 0, none⟩ = some (.int .i64 n)) (hx : hasB n x = false) :
    Calls Try.prog 52 #[.pointer (some ⟨b, 0, none⟩), .int .i64 x, .int .i64 y] w (Reads w (.int .i64 (joinB n U x y))) := by
  have HE : Hid (joinB n U x y = -1) := by simp [Hid, joinB, hx]
  have HX := Lib.hid hx
  clear hx
  go_enter Try.func52, Try.ntmps52
  go_wp2_with (go_at_call 46; (with_reducible refine (has_no b n x _ ?_ HX.out).mono ?_); (try exact hlen); rintro e w' ⟨rfl, m1, rfl⟩)
  go_ret
  rw [HE.out]
  exact ⟨rfl, _, rfl⟩

theorem join_at (b : Nat) (n x y : Int) (U D : Nat → Nat → Bool) (w : World) (hn : n ≤ 16) (L : LatAt w b n U D) :
    Calls Try.prog 52 #[.pointer (some ⟨b, 0, none⟩), .int .i64 x, .int .i64 y] w (Reads w (.int .i64 (joinB n U x y))) := by
  cases hx : hasB n x
  · exact join_first b n x y U w L.len hx
  · cases hy : hasB n y
    · exact join_second b n x y U w L.len hx hy
    · exact join_both b n x y U D w hn L hx hy

set_option maxHeartbeats 400000 in
theorem join_nil (x y : Int) (w : World) : Calls Try.prog 52 #[.pointer none, .int .i64 x, .int .i64 y] w (Reads w (.int .i64 (-1))) := by
  go_enter Try.func52, Try.ntmps52
  go_wp2_with (go_at_call 46; (with_reducible refine (has_nil x _).mono ?_); rintro e w' ⟨rfl, m1, rfl⟩)
  go_ret
  exact ⟨rfl, _, rfl⟩

set_option maxHeartbeats 400000 in
theorem meet_both (b : Nat) (n x y : Int) (U D : Nat → Nat → Bool) (w : World) (hn : n ≤ 16) (L : LatAt w b n U D) (hx : hasB n x = true) (hy : hasB n y = true) :
    Calls Try.prog 67 #[.pointer (some ⟨b, 0, none⟩), .int .i64 x, .int .i64 y] w (Reads w (.int .i64 (joinB n D x y))) := by
  have hlen := L.len
  obtain ⟨x0, x1⟩ := hasB_true.1 hx
  obtain ⟨y0, y1⟩ := hasB_true.1 hy
  have hux := L.down x.toNat (by omega)
  have huy := L.down y.toNat (by omega)
  have HU := Lib.hid L.down
  clear L
  have HE : Hid (joinB n D x y = cover D (inter (D x.toNat) (D y.toNat))) := by simp [Hid, joinB, hx, hy]
  have HX := Lib.hid hx
  have HY := Lib.hid hy
  clear hx hy
  have x16 : x < 16 := by omega
  have y16 : y < 16 := by omega
  go_enter Try.func67, Try.ntmps67
  go_wp2_with (first | (go_at_call 46; (with_reducible refine (has_yes b n x _ ?_ HX.out).mono ?_); (try exact hlen); rintro e w' ⟨rfl, m1, rfl⟩) | (go_at_call 46; (with_reducible refine (has_yes b n y _ ?_ HY.out).mono ?_); (try exact hlen); rintro e w' ⟨rfl, m2, rfl⟩))
  obtain ⟨w2, hw2⟩ : ∃ w2, w2 = w.drewN (m1 + m2) := ⟨_, rfl⟩
  rw [← hw2]
  have hux2 : w2.cell? { block := b, off := 17 + x.toNat } = some (Value.int IntKind.u16 (S (D x.toNat))) := by rw [hw2]; exact hux
  have huy2 : w2.cell? { block := b, off := 17 + y.toNat } = some (Value.int IntKind.u16 (S (D y.toNat))) := by rw [hw2]; exact huy
  have HU2 : Hid (∀ (a : Nat), a < 16 → w2.cell? { block := b, off := 17 + a } = some (Value.int IntKind.u16 (S (D a)))) := by rw [hw2]; exact HU
  have HW2 := Lib.hid hw2
  clear hw2 hux huy HU
  go_quiet ((go_at_call 55; (with_reducible refine Reads.quiet (covering_at b 17 D (inter (D x.toNat) (D y.toNat)) _ ?_)); exact HU2))
  go_wp2
  go_ret
  rw [HE.out]
  exact reads_after HW2.out

set_option maxHeartbeats 400000 in
theorem meet_second (b : Nat) (n x y : Int) (U : Nat → Nat → Bool) (w : World) (hlen : w.cell? ⟨b, 0, none⟩ = some (.int .i64 n)) (hx : hasB n x = true) (hy : hasB n y = false) :
    Calls Try.prog 67 #[.pointer (some ⟨b, 0, none⟩), .int .i64 x, .int .i64 y] w (Reads w (.int .i64 (joinB n U x y))) := by
  have HE : Hid (joinB n U x y = -1) := by simp [Hid, joinB, hy]
  have HX := Lib.hid hx
  have HY := Lib.hid hy
  clear hx hy
  go_enter Try.func67, Try.ntmps67
  go_wp2_with (first | (go_at_call 46; (with_reducible refine (has_yes b n x _ ?_ HX.out).mono ?_); (try exact hlen); rintro e w' ⟨rfl, m1, rfl⟩) | (go_at_call 46; (with_reducible refine (has_no b n y _ ?_ HY.out).mono ?_); (try exact hlen); rintro e w' ⟨rfl, m2, rfl⟩))
  go_ret
  rw [HE.out]
  exact ⟨rfl, _, rfl⟩

set_option maxHeartbeats 400000 in
theorem meet_first (b : Nat) (n x y : Int) (U : Nat → Nat → Bool) (w : World) (hlen : w.cell? ⟨b, 0, none⟩ = some (.int .i64 n)) (hx : hasB n x = false) :
    Calls Try.prog 67 #[.pointer (some ⟨b, 0, none⟩), .int .i64 x, .int .i64 y] w (Reads w (.int .i64 (joinB n U x y))) := by
  have HE : Hid (joinB n U x y = -1) := by simp [Hid, joinB, hx]
  have HX := Lib.hid hx
  clear hx
  go_enter Try.func67, Try.ntmps67
  go_wp2_with (go_at_call 46; (with_reducible refine (has_no b n x _ ?_ HX.out).mono ?_); (try exact hlen); rintro e w' ⟨rfl, m1, rfl⟩)
  go_ret
  rw [HE.out]
  exact ⟨rfl, _, rfl⟩

theorem meet_at (b : Nat) (n x y : Int) (U D : Nat → Nat → Bool) (w : World) (hn : n ≤ 16) (L : LatAt w b n U D) :
    Calls Try.prog 67 #[.pointer (some ⟨b, 0, none⟩), .int .i64 x, .int .i64 y] w (Reads w (.int .i64 (joinB n D x y))) := by
  cases hx : hasB n x
  · exact meet_first b n x y D w L.len hx
  · cases hy : hasB n y
    · exact meet_second b n x y D w L.len hx hy
    · exact meet_both b n x y U D w hn L hx hy

set_option maxHeartbeats 400000 in
theorem meet_nil (x y : Int) (w : World) : Calls Try.prog 67 #[.pointer none, .int .i64 x, .int .i64 y] w (Reads w (.int .i64 (-1))) := by
  go_enter Try.func67, Try.ntmps67
  go_wp2_with (go_at_call 46; (with_reducible refine (has_nil x _).mono ?_); rintro e w' ⟨rfl, m1, rfl⟩)
  go_ret
  exact ⟨rfl, _, rfl⟩

set_option maxHeartbeats 400000 in
theorem bottom_at (b : Nat) (n : Nat) (U D : Nat → Nat → Bool) (w : World) (hn : n ≤ 16) (L : LatAt w b n U D) :
    Calls Try.prog 24 #[.pointer (some ⟨b, 0, none⟩)] w (Reads w (.int .i64 (cover U (below n)))) := by
  have hlen := L.len
  have HU := Lib.hid L.up
  clear L
  go_enter Try.func24, Try.ntmps24
  go_wp2
  go_quiet (first | (go_at_call 56; (with_reducible refine Reads.quiet (all_at b n _ hn ?_)); exact hlen) | (go_at_call 55; (with_reducible refine Reads.quiet (covering_at b 1 U (below n) _ ?_)); exact HU))
  go_wp2
  go_ret
  exact ⟨rfl, _, rfl⟩

set_option maxHeartbeats 400000 in
theorem bottom_nil (w : World) : Calls Try.prog 24 #[.pointer none] w (Reads w (.int .i64 (-1))) := by
  go_enter Try.func24, Try.ntmps24
  go_wp2
  go_ret
  exact ⟨rfl, 0, rfl⟩

set_option maxHeartbeats 400000 in
theorem top_at (b : Nat) (n : Nat) (U D : Nat → Nat → Bool) (w : World) (hn : n ≤ 16) (L : LatAt w b n U D) :
    Calls Try.prog 68 #[.pointer (some ⟨b, 0, none⟩)] w (Reads w (.int .i64 (cover D (below n)))) := by
  have hlen := L.len
  have HU := Lib.hid L.down
  clear L
  go_enter Try.func68, Try.ntmps68
  go_wp2
  go_quiet (first | (go_at_call 56; (with_reducible refine Reads.quiet (all_at b n _ hn ?_)); exact hlen) | (go_at_call 55; (with_reducible refine Reads.quiet (covering_at b 17 D (below n) _ ?_)); exact HU))
  go_wp2
  go_ret
  exact ⟨rfl, _, rfl⟩

set_option maxHeartbeats 400000 in
theorem top_nil (w : World) : Calls Try.prog 68 #[.pointer none] w (Reads w (.int .i64 (-1))) := by
  go_enter Try.func68, Try.ntmps68
  go_wp2
  go_ret
  exact ⟨rfl, 0, rfl⟩

end Go.Proofs.Ytnkfjomnpnbidaa

namespace Go.Proofs.Ytnkfjomnpnbidaa
open Go.RowKit

theorem LatAt.congr {w : World} {b : Nat} {n : Int} {U D U' D' : Nat → Nat → Bool} (h : LatAt w b n U D) (hU : ∀ a i, a < 16 → i < 16 → U a i = U' a i) (hD : ∀ a i, a < 16 → i < 16 → D a i = D' a i) : LatAt w b n U' D' :=
  ⟨h.len, fun a ha => by rw [h.up a ha, S_congr (fun i hi => hU a i ha hi)], fun a ha => by rw [h.down a ha, S_congr (fun i hi => hD a i ha hi)], h.nf⟩

/-- The rows down, as far as they are filled. -/
def downTo (n : Nat) (U : Nat → Nat → Bool) (k j : Nat) : Nat → Nat → Bool := fun x i => (decide (x < n) && decide (i < n) && U i x) && (decide (i < k) || (decide (i = k) && decide (x < j)))

theorem downTo_start (n : Nat) (U : Nat → Nat → Bool) (a i : Nat) : downTo n U 0 0 a i = false := by simp [downTo]
theorem downTo_next (n : Nat) (U : Nat → Nat → Bool) (k a i : Nat) : downTo n U k n a i = downTo n U (k + 1) 0 a i := by
  rw [Bool.eq_iff_iff]; simp [downTo]; intro h1 h2 h3; omega
theorem downTo_yes (n : Nat) (U : Nat → Nat → Bool) (k j : Nat) (hk : k < n) (hj : j < n) (h : U k j = true) (a i : Nat) : upd (downTo n U k j) j (union (downTo n U k j j) (one k)) a i = downTo n U k (j + 1) a i := by
  rw [Bool.eq_iff_iff]
  by_cases e : a = j
  · subst e
    by_cases e2 : i = k
    · subst e2; simp [upd, union, one, downTo, hj, hk, h]
    · simp [upd, union, one, downTo, e2]
  · have : (a < j + 1) ↔ a < j := by omega
    simp [upd, downTo, e, this]
theorem downTo_no (n : Nat) (U : Nat → Nat → Bool) (k j : Nat) (h : U k j = false) (a i : Nat) : downTo n U k j a i = downTo n U k (j + 1) a i := by
  rw [Bool.eq_iff_iff]
  by_cases e : i = k
  · subst e
    by_cases e2 : a = j
    · subst e2; simp [downTo, h]
    · have : (a < j + 1) ↔ a < j := by omega
      simp [downTo, this]
  · simp [downTo, e]

/-- What holds of the world at the head of a round. -/
def FillAt (w : World) (b n : Nat) (U : Nat → Nat → Bool) (k j : Nat) (w' : World) : Prop := LatAt w' b n U (downTo n U k j) ∧ Only b w w'

theorem FillAt.next {w w' : World} {b n k : Nat} {U : Nat → Nat → Bool} (h : FillAt w b n U k n w') : FillAt w b n U (k + 1) 0 w' :=
  ⟨h.1.congr (fun _ _ _ _ => rfl) (fun a i _ _ => downTo_next n U k a i), h.2⟩
theorem FillAt.no {w w' : World} {b n k j : Nat} {U : Nat → Nat → Bool} (h : FillAt w b n U k j w') (hu : U k j = false) : FillAt w b n U k (j + 1) w' :=
  ⟨h.1.congr (fun _ _ _ _ => rfl) (fun a i _ _ => downTo_no n U k j hu a i), h.2⟩
theorem FillAt.yes {w w' : World} {b n k j : Nat} {U : Nat → Nat → Bool} (h : FillAt w b n U k j w') (hn : n ≤ 16) (hk : k < n) (hj : j < n) (hu : U k j = true) :
    FillAt w b n U k (j + 1) (w'.setCell ⟨b, 17 + j, none⟩ (.int .u16 (S (union (downTo n U k j j) (one k))))) :=
  ⟨(h.1.setDown j (by omega) _).congr (fun _ _ _ _ => rfl) (fun a i _ _ => downTo_yes n U k j hk hj hu a i), h.2.setCell _ _⟩
theorem FillAt.drewN {w w' : World} {b n k j : Nat} {U : Nat → Nat → Bool} (h : FillAt w b n U k j w') (m : Nat) : FillAt w b n U k j (w'.drewN m) := ⟨h.1.drewN m, h.2.drewN m⟩

theorem leqB_in {n : Nat} {U : Nat → Nat → Bool} {k j : Nat} (hk : k < n) (hj : j < n) : leqB n U k j = U k j := by
  simp [leqB, hasB, hk, hj]

theorem leq_is (b : Nat) (n x y : Int) (U D : Nat → Nat → Bool) (v : Bool) (w : World) (hn : n ≤ 16) (L : LatAt w b n U D) (h : leqB n U x y = v) :
    Calls Try.prog 22 #[.pointer (some ⟨b, 0, none⟩), .int .i64 x, .int .i64 y] w (Reads w (.bool v)) := by
  rw [← h]; exact leq_at b n x y U D w hn L

set_option maxRecDepth 100000 in
set_option maxHeartbeats 1000000 in
theorem fillDown_at (b n : Nat) (U : Nat → Nat → Bool) (w : World) (hn : n ≤ 16) (L : FillAt w b n U 0 0 w) :
    Calls Try.prog 49 #[.pointer (some ⟨b, 0, none⟩)] w fun e w' => e = .returned (.tuple #[]) ∧ FillAt w b n U n 0 w' := by
  have hlen := L.1.len
  have hn' : (n : Int) ≤ 16 := by omega
  go_enter Try.func49, Try.ntmps49
  go_wp2
  go_loopw [8] (fun i w' => ∃ k : Nat, k ≤ n ∧ i = .int .i64 k ∧ FillAt w b n U k 0 w') (fun i _ => n - (intOf i).toNat)
  case atStart => exact ⟨0, Nat.zero_le _, rfl, L⟩
  case round =>
    obtain ⟨k, hk, rfl, F⟩ := hrel
    clear hlen
    have hlen := F.1.len
    by_cases hlt : k < n
    · go_wp2
      go_loopw [15] (fun i w' => ∃ j : Nat, j ≤ n ∧ i = .int .i64 j ∧ FillAt w b n U k j w') (fun i _ => n - (intOf i).toNat)
      case atStart => exact ⟨0, Nat.zero_le _, rfl, F⟩
      case round =>
        obtain ⟨j, hj, rfl, F⟩ := hrel
        have FL := F.1
        by_cases hlt2 : j < n
        · cases hu : U k j
          · have HQ := Lib.hid (show leqB n U k j = false by rw [leqB_in hlt hlt2, hu])
            have HU := Lib.hid hu
            clear hu
            go_wp2_with (go_at_call 22; (with_reducible refine (leq_is b n k j U (downTo n U k j) _ _ hn' FL HQ.out).mono ?_); rintro e w' ⟨rfl, m, rfl⟩)
            go_roundw
            case rel => exact ⟨j + 1, by omega, by go_num, (F.no HU.out).drewN _⟩
            case measure => simp [intOf]; omega
          · have HQ := Lib.hid (show leqB n U k j = true by rw [leqB_in hlt hlt2, hu])
            have HU := Lib.hid hu
            clear hu
            go_wp2_with (go_at_call 22; (with_reducible refine (leq_is b n k j U (downTo n U k j) _ _ hn' FL HQ.out).mono ?_); rintro e w' ⟨rfl, m, rfl⟩)
            obtain ⟨w2, hw2⟩ : ∃ w2, w2 = wr.drewN m := ⟨_, rfl⟩
            rw [← hw2]
            have F2 : FillAt w b n U k j w2 := by rw [hw2]; exact F.drewN m
            clear hw2
            have hd := F2.1.down j (by omega)
            have hf := F2.1.nf (17 + j)
            have k0 : (0 : Int) ≤ (k : Int) := by omega
            have k1 : (k : Int) < 16 := by omega
            have j1 : (j : Int) < 16 := by omega
            go_still_tail 12, (by kernel_rfl)
            still_call (only_still _ _ k0 k1)
            repeat still_step
            refine wpStill_nil ?_
            change wpList _ _ _ _ _ w2.drew
            have F3 : FillAt w b n U k j w2.drew := F2.drewN 1
            have HU3 := Lib.hid F3
            have hd3 := F3.1.down j (by omega)
            have hf3 := F3.1.nf (17 + j)
            generalize w2.drew = w3 at *
            clear hd hf F2 F FL hlen F3
            go_wp2
            go_roundw
            case rel => exact ⟨j + 1, by omega, by go_num, HU3.out.yes hn hlt hlt2 HU.out⟩
            case measure => simp [intOf]; omega
        · obtain rfl : j = n := by omega
          have FN := F.next
          go_wp2
          go_roundw
          case rel => exact ⟨k + 1, by omega, by go_num, FN⟩
          case measure => simp [intOf]; omega
    · obtain rfl : k = n := by omega
      go_wp2
      go_end0
      exact ⟨rfl, F⟩
end Go.Proofs.Ytnkfjomnpnbidaa

namespace Go.Proofs.Ytnkfjomnpnbidaa
open Go.RowKit

/-- The reflexive and transitive closure. -/
inductive Star (R : Nat → Nat → Prop) : Nat → Nat → Prop
  | refl (a : Nat) : Star R a a
  | head {a b c : Nat} : R a b → Star R b c → Star R a c

theorem Star.trans {R : Nat → Nat → Prop} {a b c : Nat} (h : Star R a b) (k : Star R b c) : Star R a c := by
  induction h with
  | refl _ => exact k
  | head r _ ih => exact .head r (ih k)
theorem Star.one {R : Nat → Nat → Prop} {a b : Nat} (h : R a b) : Star R a b := .head h (.refl b)
theorem Star.within {R : Nat → Nat → Prop} {n a b : Nat} (hR : ∀ x y, R x y → y < n) (h : Star R a b) (ha : a < n) : b < n := by
  induction h with
  | refl _ => exact ha
  | head r _ ih => exact ih (hR _ _ r)

/-- What a table of bits says. -/
def Rel (n : Nat) (U : Nat → Nat → Bool) (a b : Nat) : Prop := a < n ∧ b < n ∧ U a b = true

theorem Rel.lt {n : Nat} {U : Nat → Nat → Bool} (x y : Nat) (h : Rel n U x y) : y < n := h.2.1

/-- U holds what U0 says, and no more than follows of it. -/
structure Inv (n : Nat) (U0 U : Nat → Nat → Bool) : Prop where
  ext : ∀ a i, a < n → i < 16 → U0 a i = true → U a i = true
  star : ∀ a i, a < n → i < 16 → U a i = true → Star (Rel n U0) a i

def ok (U : Nat → Nat → Bool) (a b : Nat) : Prop := U a b = true → ∀ i, i < 16 → U b i = true → U a i = true

theorem Inv.upd {n : Nat} {U0 U : Nat → Nat → Bool} (h : Inv n U0 U) {a b : Nat} (ha : a < n) (hb : b < n) (hn : n ≤ 16) (hab : U a b = true) :
    Inv n U0 (fun x => if x = a then union (U a) (U b) else U x) := by
  refine ⟨fun x i hx hi h0 => ?_, fun x i hx hi h0 => ?_⟩
  · by_cases e : x = a
    · subst e; simp [union, h.ext x i hx hi h0]
    · simp [e, h.ext x i hx hi h0]
  · by_cases e : x = a
    · subst e
      simp [union] at h0
      rcases h0 with h0 | h0
      · exact h.star x i hx hi h0
      · exact (h.star x b hx (by omega) hab).trans (h.star b i hb hi h0)
    · simp [e] at h0; exact h.star x i hx hi h0

/-- How many of the first k are missing. -/
def missRow (f : Nat → Bool) : Nat → Nat
  | 0 => 0
  | k + 1 => (!f k).toNat + missRow f k
def sumTo (g : Nat → Nat) : Nat → Nat
  | 0 => 0
  | k + 1 => g k + sumTo g k
def miss (U : Nat → Nat → Bool) : Nat := sumTo (fun a => missRow (U a) 16) 16

theorem missRow_congr {f g : Nat → Bool} : ∀ k, (∀ i, i < k → f i = g i) → missRow f k = missRow g k
  | 0, _ => rfl
  | k + 1, h => by rw [missRow, missRow, h k (by omega), missRow_congr k (fun i hi => h i (by omega))]
theorem missRow_le {f g : Nat → Bool} : ∀ k, (∀ i, i < k → f i = true → g i = true) → missRow g k ≤ missRow f k
  | 0, _ => Nat.le_refl _
  | k + 1, h => by
    have := missRow_le k (fun i hi => h i (by omega))
    rw [missRow, missRow]
    have hk := h k (by omega)
    cases hf : f k
    · cases g k <;> simp <;> omega
    · rw [hf] at hk; simp [hk]; exact this
theorem missRow_lt {f g : Nat → Bool} {j : Nat} : ∀ k, j < k → (∀ i, i < k → f i = true → g i = true) → f j = false → g j = true → missRow g k < missRow f k
  | 0, hj, _, _, _ => by omega
  | k + 1, hj, h, h1, h2 => by
    rw [missRow, missRow]
    by_cases e : j = k
    · subst e
      have := missRow_le j (fun i hi => h i (by omega))
      rw [h1, h2]; simp; omega
    · have := missRow_lt k (by omega) (fun i hi => h i (by omega)) h1 h2
      have hk := h k (by omega)
      cases hf : f k
      · cases g k <;> simp <;> omega
      · rw [hf] at hk; simp [hk]; exact this

theorem sumTo_congr {g h : Nat → Nat} : ∀ k, (∀ i, i < k → g i = h i) → sumTo g k = sumTo h k
  | 0, _ => rfl
  | k + 1, e => by rw [sumTo, sumTo, e k (by omega), sumTo_congr k (fun i hi => e i (by omega))]
theorem sumTo_le {g h : Nat → Nat} : ∀ k, (∀ i, i < k → g i ≤ h i) → sumTo g k ≤ sumTo h k
  | 0, _ => Nat.le_refl _
  | k + 1, e => by have := sumTo_le k (fun i hi => e i (by omega)); have := e k (by omega); rw [sumTo, sumTo]; omega
theorem sumTo_lt {g h : Nat → Nat} {j : Nat} : ∀ k, j < k → (∀ i, i < k → g i ≤ h i) → g j < h j → sumTo g k < sumTo h k
  | 0, hj, _, _ => by omega
  | k + 1, hj, e, hlt => by
    rw [sumTo, sumTo]
    by_cases e' : j = k
    · subst e'; have := sumTo_le j (fun i hi => e i (by omega)); omega
    · have := sumTo_lt k (by omega) (fun i hi => e i (by omega)) hlt
      have := e k (by omega); omega

theorem miss_upd {U : Nat → Nat → Bool} {a : Nat} {f : Nat → Bool} (ha : a < 16) (hsub : ∀ i, i < 16 → U a i = true → f i = true) {j : Nat} (hj : j < 16) (h1 : U a j = false) (h2 : f j = true) :
    miss (fun x => if x = a then f else U x) < miss U := by
  refine sumTo_lt 16 ha (fun i _ => ?_) ?_
  · by_cases e : i = a
    · subst e; simp; exact missRow_le 16 hsub
    · simp [e]
  · simp; exact missRow_lt 16 hj hsub h1 h2

end Go.Proofs.Ytnkfjomnpnbidaa
