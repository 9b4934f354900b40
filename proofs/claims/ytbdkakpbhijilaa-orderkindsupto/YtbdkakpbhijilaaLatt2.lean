/-
  The walks of latt's readers: all, Join, Meet, Bottom, Top: what each answers over a lattice in memory.
-/
import Derived.Test.YtbdkakpbhijilaaLatt1
namespace Go.Proofs.Ytbdkakpbhijilaa
open Go.RowKit

/-- The levels below n. -/
def below (n : Nat) : Nat → Bool := fun i => decide (i < n)

theorem S_below_zero : S (below 0) = 0 := by
  rw [← S_empty]; exact S_congr fun i _ => by simp [below]
theorem S_below_succ (k : Nat) : S (union (below k) (one k)) = S (below (k + 1)) := S_congr fun i _ => by
  simp only [union, below, one]
  by_cases h : i < k
  · simp [h, Nat.lt_succ_of_lt h]
  · by_cases e : i = k
    · simp [e]
    · have : ¬ i < k + 1 := by omega
      simp [h, e, this]

set_option maxHeartbeats 1000000 in
theorem all_at (b : Nat) (n : Nat) (w : World) (hn : n ≤ 16) (hlen : w.cell? ⟨b, 0, none⟩ = some (.int .i64 n)) :
    Calls Try.prog 56 #[.pointer (some ⟨b, 0, none⟩)] w (Reads w (.int .u16 (S (below n)))) := by
  go_enter Try.func56, Try.ntmps56
  go_wp2
  go_loopw [3, 9] (fun s i w' => ∃ k : Nat, k ≤ n ∧ i = .int .i64 k ∧ s = .int .u16 (S (below k)) ∧ ∃ m, w' = w.drewN m) (fun _ i _ => n - (intOf i).toNat)
  case atStart => exact ⟨0, Nat.zero_le _, rfl, by rw [S_below_zero], 0, rfl⟩
  case round =>
    obtain ⟨k, hk, rfl, rfl, m, rfl⟩ := hrel
    by_cases hlt : k < n
    · have h0 : (0 : Int) ≤ (k : Int) := by omega
      have h1 : (k : Int) < 16 := by omega
      go_wp2_with (go_at_call 47; refine (only_at _ _ h0 h1).mono ?_; rintro e w' ⟨rfl, m, rfl⟩)
      go_roundw
      case rel => exact ⟨k + 1, by omega, by go_num, by rw [← S_below_succ], _, rfl⟩
      case measure => simp [intOf]; omega
    · have e : k = n := by omega
      subst e
      go_wp2
      go_ret
      exact ⟨rfl, _, rfl⟩

theorem reads_after {w w2 : World} {k q : Nat} {v : Value} (h : w2 = w.drewN k) : Reads w v (.returned v) (w2.drewN q) := ⟨rfl, k + q, by rw [h, World.drewN_drewN]⟩

/-- What Join and Meet answer. -/
def joinB (n : Int) (U : Nat → Nat → Bool) (a b : Int) : Int := if hasB n a && hasB n b then cover U (inter (U a.toNat) (U b.toNat)) else -1

set_option maxHeartbeats 400000 in
theorem join_both (b : Nat) (n x y : Int) (U D : Nat → Nat → Bool) (w : World) (hn : n ≤ 16) (L : LatAt w b n U D) (hx : hasB n x = true) (hy : hasB n y = true) :
    Calls Try.prog 52 #[.pointer (some ⟨b, 0, none⟩), .int .i64 x, .int .i64 y] w (Reads w (.int .i64 (joinB n U x y))) := by
  have hlen := L.len
  obtain ⟨x0, x1⟩ := hasB_true.1 hx
  obtain ⟨y0, y1⟩ := hasB_true.1 hy
  have hux := L.up x.toNat (by omega)
  have huy := L.up y.toNat (by omega)
  have HU := Lib.hid L.up
  clear L
  have HE : Hid (joinB n U x y = cover U (inter (U x.toNat) (U y.toNat))) := by simp [Hid, joinB, hx, hy]
  have HX := Lib.hid hx
  have HY := Lib.hid hy
  clear hx hy
  have x16 : x < 16 := by omega
  have y16 : y < 16 := by omega
  go_enter Try.func52, Try.ntmps52
  go_wp2_with (first | (go_at_call 46; (with_reducible refine (has_yes b n x _ ?_ HX.out).mono ?_); (try exact hlen); rintro e w' ⟨rfl, m1, rfl⟩) | (go_at_call 46; (with_reducible refine (has_yes b n y _ ?_ HY.out).mono ?_); (try exact hlen); rintro e w' ⟨rfl, m2, rfl⟩))
  obtain ⟨w2, hw2⟩ : ∃ w2, w2 = w.drewN (m1 + m2) := ⟨_, rfl⟩
  rw [← hw2]
  have hux2 : w2.cell? { block := b, off := 1 + x.toNat } = some (Value.int IntKind.u16 (S (U x.toNat))) := by rw [hw2]; exact hux
  have huy2 : w2.cell? { block := b, off := 1 + y.toNat } = some (Value.int IntKind.u16 (S (U y.toNat))) := by rw [hw2]; exact huy
  have HU2 : Hid (∀ (a : Nat), a < 16 → w2.cell? { block := b, off := 1 + a } = some (Value.int IntKind.u16 (S (U a)))) := by rw [hw2]; exact HU
  have HW2 := Lib.hid hw2
  clear hw2 hux huy HU
  go_quiet ((go_at_call 55; (with_reducible refine Reads.quiet (covering_at b 1 U (inter (U x.toNat) (U y.toNat)) _ ?_)); exact HU2))
  go_wp2
  go_ret
  rw [HE.out]
  exact reads_after HW2.out

set_option maxHeartbeats 400000 in
theorem join_second (b : Nat) (n x y : Int) (U : Nat → Nat → Bool) (w : World) (hlen : w.cell? ⟨b, 0, none⟩ = some (.int .i64 n)) (hx : hasB n x = true) (hy : hasB n y = false) :
    Calls Try.prog 52 #[.pointer (some ⟨b, 0, none⟩), .int .i64 x, .int .i64 y] w (Reads w (.int .i64 (joinB n U x y))) := by
  have HE : Hid (joinB n U x y = -1) := by simp [Hid, joinB, hy]
  have HX := Lib.hid hx
  have HY := Lib.hid hy
  clear hx hy
  go_enter Try.func52, Try.ntmps52
  go_wp2_with (first | (go_at_call 46; (with_reducible refine (has_yes b n x _ ?_ HX.out).mono ?_); (try exact hlen); rintro e w' ⟨rfl, m1, rfl⟩) | (go_at_call 46; (with_reducible refine (has_no b n y _ ?_ HY.out).mono ?_); (try exact hlen); rintro e w' ⟨rfl, m2, rfl⟩))
  go_ret
  rw [HE.out]
  exact ⟨rfl, _, rfl⟩

set_option maxHeartbeats 400000 in
theorem join_first (b : Nat) (n x y : Int) (U : Nat → Nat → Bool) (w : World) (hlen : w.cell? ⟨b, 0, none⟩ = some (.int .i64 n)) (hx : hasB n x = false) :
    Calls Try.prog 52 #[.pointer (some ⟨b, 0, none⟩), .int .i64 x, .int .i64 y] w (Reads w (.int .i64 (joinB n U x y))) := by
  have HE : Hid (joinB n U x y = -1) := by simp [Hid, joinB, hx]
  have HX := Lib.hid hx
  clear hx
  go_enter Try.func52, Try.ntmps52
  go_wp2_with (go_at_call 46; (with_reducible refine (has_no b n x _ ?_ HX.out).mono ?_); (try exact hlen); rintro e w' ⟨rfl, m1, rfl⟩)
  go_ret
  rw [HE.out]
  exact ⟨rfl, _, rfl⟩

theorem join_at (b : Nat) (n x y : Int) (U D : Nat → Nat → Bool) (w : World) (hn : n ≤ 16) (L : LatAt w b n U D) :
    Calls Try.prog 52 #[.pointer (some ⟨b, 0, none⟩), .int .i64 x, .int .i64 y] w (Reads w (.int .i64 (joinB n U x y))) := by
  cases hx : hasB n x
  · exact join_first b n x y U w L.len hx
  · cases hy : hasB n y
    · exact join_second b n x y U w L.len hx hy
    · exact join_both b n x y U D w hn L hx hy

set_option maxHeartbeats 400000 in
theorem join_nil (x y : Int) (w : World) : Calls Try.prog 52 #[.pointer none, .int .i64 x, .int .i64 y] w (Reads w (.int .i64 (-1))) := by
  go_enter Try.func52, Try.ntmps52
  go_wp2_with (go_at_call 46; (with_reducible refine (has_nil x _).mono ?_); rintro e w' ⟨rfl, m1, rfl⟩)
  go_ret
  exact ⟨rfl, _, rfl⟩

set_option maxHeartbeats 400000 in
theorem meet_both (b : Nat) (n x y : Int) (U D : Nat → Nat → Bool) (w : World) (hn : n ≤ 16) (L : LatAt w b n U D) (hx : hasB n x = true) (hy : hasB n y = true) :
    Calls Try.prog 67 #[.pointer (some ⟨b, 0, none⟩), .int .i64 x, .int .i64 y] w (Reads w (.int .i64 (joinB n D x y))) := by
  have hlen := L.len
  obtain ⟨x0, x1⟩ := hasB_true.1 hx
  obtain ⟨y0, y1⟩ := hasB_true.1 hy
  have hux := L.down x.toNat (by omega)
  have huy := L.down y.toNat (by omega)
  have HU := Lib.hid L.down
  clear L
  have HE : Hid (joinB n D x y = cover D (inter (D x.toNat) (D y.toNat))) := by simp [Hid, joinB, hx, hy]
  have HX := Lib.hid hx
  have HY := Lib.hid hy
  clear hx hy
  have x16 : x < 16 := by omega
  have y16 : y < 16 := by omega
  go_enter Try.func67, Try.ntmps67
  go_wp2_with (first | (go_at_call 46; (with_reducible refine (has_yes b n x _ ?_ HX.out).mono ?_); (try exact hlen); rintro e w' ⟨rfl, m1, rfl⟩) | (go_at_call 46; (with_reducible refine (has_yes b n y _ ?_ HY.out).mono ?_); (try exact hlen); rintro e w' ⟨rfl, m2, rfl⟩))
  obtain ⟨w2, hw2⟩ : ∃ w2, w2 = w.drewN (m1 + m2) := ⟨_, rfl⟩
  rw [← hw2]
  have hux2 : w2.cell? { block := b, off := 17 + x.toNat } = some (Value.int IntKind.u16 (S (D x.toNat))) := by rw [hw2]; exact hux
  have huy2 : w2.cell? { block := b, off := 17 + y.toNat } = some (Value.int IntKind.u16 (S (D y.toNat))) := by rw [hw2]; exact huy
  have HU2 : Hid (∀ (a : Nat), a < 16 → w2.cell? { block := b, off := 17 + a } = some (Value.int IntKind.u16 (S (D a)))) := by rw [hw2]; exact HU
  have HW2 := Lib.hid hw2
  clear hw2 hux huy HU
  go_quiet ((go_at_call 55; (with_reducible refine Reads.quiet (covering_at b 17 D (inter (D x.toNat) (D y.toNat)) _ ?_)); exact HU2))
  go_wp2
  go_ret
  rw [HE.out]
  exact reads_after HW2.out

set_option maxHeartbeats 400000 in
theorem meet_second (b : Nat) (n x y : Int) (U : Nat → Nat → Bool) (w : World) (hlen : w.cell? ⟨b, 0, none⟩ = some (.int .i64 n)) (hx : hasB n x = true) (hy : hasB n y = false) :
    Calls Try.prog 67 #[.pointer (some ⟨b, 0, none⟩), .int .i64 x, .int .i64 y] w (Reads w (.int .i64 (joinB n U x y))) := by
  have HE : Hid (joinB n U x y = -1) := by simp [Hid, joinB, hy]
  have HX := Lib.hid hx
  have HY := Lib.hid hy
  clear hx hy
  go_enter Try.func67, Try.ntmps67
  go_wp2_with (first | (go_at_call 46; (with_reducible refine (has_yes b n x _ ?_ HX.out).mono ?_); (try exact hlen); rintro e w' ⟨rfl, m1, rfl⟩) | (go_at_call 46; (with_reducible refine (has_no b n y _ ?_ HY.out).mono ?_); (try exact hlen); rintro e w' ⟨rfl, m2, rfl⟩))
  go_ret
  rw [HE.out]
  exact ⟨rfl, _, rfl⟩

set_option maxHeartbeats 400000 in
theorem meet_first (b : Nat) (n x y : Int) (U : Nat → Nat → Bool) (w : World) (hlen : w.cell? ⟨b, 0, none⟩ = some (.int .i64 n)) (hx : hasB n x = false) :
    Calls Try.prog 67 #[.pointer (some ⟨b, 0, none⟩), .int .i64 x, .int .i64 y] w (Reads w (.int .i64 (joinB n U x y))) := by
  have HE : Hid (joinB n U x y = -1) := by simp [Hid, joinB, hx]
  have HX := Lib.hid hx
  clear hx
  go_enter Try.func67, Try.ntmps67
  go_wp2_with (go_at_call 46; (with_reducible refine (has_no b n x _ ?_ HX.out).mono ?_); (try exact hlen); rintro e w' ⟨rfl, m1, rfl⟩)
  go_ret
  rw [HE.out]
  exact ⟨rfl, _, rfl⟩

theorem meet_at (b : Nat) (n x y : Int) (U D : Nat → Nat → Bool) (w : World) (hn : n ≤ 16) (L : LatAt w b n U D) :
    Calls Try.prog 67 #[.pointer (some ⟨b, 0, none⟩), .int .i64 x, .int .i64 y] w (Reads w (.int .i64 (joinB n D x y))) := by
  cases hx : hasB n x
  · exact meet_first b n x y D w L.len hx
  · cases hy : hasB n y
    · exact meet_second b n x y D w L.len hx hy
    · exact meet_both b n x y U D w hn L hx hy

set_option maxHeartbeats 400000 in
theorem meet_nil (x y : Int) (w : World) : Calls Try.prog 67 #[.pointer none, .int .i64 x, .int .i64 y] w (Reads w (.int .i64 (-1))) := by
  go_enter Try.func67, Try.ntmps67
  go_wp2_with (go_at_call 46; (with_reducible refine (has_nil x _).mono ?_); rintro e w' ⟨rfl, m1, rfl⟩)
  go_ret
  exact ⟨rfl, _, rfl⟩

set_option maxHeartbeats 400000 in
theorem bottom_at (b : Nat) (n : Nat) (U D : Nat → Nat → Bool) (w : World) (hn : n ≤ 16) (L : LatAt w b n U D) :
    Calls Try.prog 24 #[.pointer (some ⟨b, 0, none⟩)] w (Reads w (.int .i64 (cover U (below n)))) := by
  have hlen := L.len
  have HU := Lib.hid L.up
  clear L
  go_enter Try.func24, Try.ntmps24
  go_wp2
  go_quiet (first | (go_at_call 56; (with_reducible refine Reads.quiet (all_at b n _ hn ?_)); exact hlen) | (go_at_call 55; (with_reducible refine Reads.quiet (covering_at b 1 U (below n) _ ?_)); exact HU))
  go_wp2
  go_ret
  exact ⟨rfl, _, rfl⟩

set_option maxHeartbeats 400000 in
theorem bottom_nil (w : World) : Calls Try.prog 24 #[.pointer none] w (Reads w (.int .i64 (-1))) := by
  go_enter Try.func24, Try.ntmps24
  go_wp2
  go_ret
  exact ⟨rfl, 0, rfl⟩

set_option maxHeartbeats 400000 in
theorem top_at (b : Nat) (n : Nat) (U D : Nat → Nat → Bool) (w : World) (hn : n ≤ 16) (L : LatAt w b n U D) :
    Calls Try.prog 68 #[.pointer (some ⟨b, 0, none⟩)] w (Reads w (.int .i64 (cover D (below n)))) := by
  have hlen := L.len
  have HU := Lib.hid L.down
  clear L
  go_enter Try.func68, Try.ntmps68
  go_wp2
  go_quiet (first | (go_at_call 56; (with_reducible refine Reads.quiet (all_at b n _ hn ?_)); exact hlen) | (go_at_call 55; (with_reducible refine Reads.quiet (covering_at b 17 D (below n) _ ?_)); exact HU))
  go_wp2
  go_ret
  exact ⟨rfl, _, rfl⟩

set_option maxHeartbeats 400000 in
theorem top_nil (w : World) : Calls Try.prog 68 #[.pointer none] w (Reads w (.int .i64 (-1))) := by
  go_enter Try.func68, Try.ntmps68
  go_wp2
  go_ret
  exact ⟨rfl, 0, rfl⟩

end Go.Proofs.Ytbdkakpbhijilaa
