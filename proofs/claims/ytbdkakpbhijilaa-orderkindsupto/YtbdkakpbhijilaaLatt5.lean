/-
  The walks of latt's ordered and bounded: what each answers over a lattice in memory.
-/
import Derived.Test.YtbdkakpbhijilaaLatt3
namespace Go.Proofs.Ytbdkakpbhijilaa
open Go.RowKit

def orderedB (n : Nat) (U D : Nat → Nat → Bool) : Bool := (List.range n).all fun a => S (inter (U a) (D a)) == S (one a)
def boundedB (n : Nat) (U D : Nat → Nat → Bool) : Bool := (List.range n).all fun a => (List.range a).all fun b => !(decide (joinB n U a b < 0) || decide (joinB n D a b < 0))

theorem orderedB_true {n : Nat} {U D : Nat → Nat → Bool} (h : ∀ a, a < n → (S (inter (U a) (D a)) == S (one a)) = true) : orderedB n U D = true := by
  unfold orderedB; rw [List.all_eq_true]; intro a ha; exact h a (List.mem_range.1 ha)
theorem orderedB_false {n a : Nat} {U D : Nat → Nat → Bool} (ha : a < n) (h : (S (inter (U a) (D a)) == S (one a)) = false) : orderedB n U D = false := by
  unfold orderedB; rw [List.all_eq_false]; exact ⟨a, List.mem_range.2 ha, by simp [h]⟩
theorem boundedB_true {n : Nat} {U D : Nat → Nat → Bool} (h : ∀ a b, a < n → b < a → decide (joinB n U a b < 0) = false ∧ decide (joinB n D a b < 0) = false) : boundedB n U D = true := by
  unfold boundedB; rw [List.all_eq_true]; intro a ha; rw [List.all_eq_true]; intro b hb
  have := h a b (List.mem_range.1 ha) (List.mem_range.1 hb)
  rw [this.1, this.2]; rfl
theorem boundedB_false {n a b : Nat} {U D : Nat → Nat → Bool} (ha : a < n) (hb : b < a) (h : (decide (joinB n U a b < 0) || decide (joinB n D a b < 0)) = true) : boundedB n U D = false := by
  unfold boundedB; rw [List.all_eq_false]
  refine ⟨a, List.mem_range.2 ha, ?_⟩
  have : ((List.range a).all fun b => !(decide (joinB n U a b < 0) || decide (joinB n D a b < 0))) = false := by
    rw [List.all_eq_false]; exact ⟨b, List.mem_range.2 hb, by rw [h]; simp⟩
  rw [this]; simp

set_option maxHeartbeats 1000000 in
theorem ordered_at (b n : Nat) (U D : Nat → Nat → Bool) (w : World) (hn : n ≤ 16) (L : LatAt w b n U D) :
    Calls Try.prog 50 #[.pointer (some ⟨b, 0, none⟩)] w (Reads w (.bool (orderedB n U D))) := by
  have hlen := L.len
  go_enter Try.func50, Try.ntmps50
  go_wp2
  go_loopw [8] (fun i w' => ∃ k : Nat, k ≤ n ∧ i = .int .i64 k ∧ (∀ a, a < k → (S (inter (U a) (D a)) == S (one a)) = true) ∧ ∃ m, w' = w.drewN m) (fun i _ => n - (intOf i).toNat)
  case atStart => exact ⟨0, Nat.zero_le _, rfl, fun a ha => by omega, 0, rfl⟩
  case round =>
    obtain ⟨k, hk, rfl, ha, m, rfl⟩ := hrel
    have HA := Lib.hid ha
    clear ha
    obtain ⟨w2, hw2⟩ : ∃ w2, w2 = w.drewN m := ⟨_, rfl⟩
    rw [← hw2]
    have HW := Lib.hid hw2
    have L2 : LatAt w2 b n U D := by rw [hw2]; exact L.drewN m
    clear hw2
    by_cases hlt : k < n
    · have h0 : (0 : Int) ≤ (k : Int) := by omega
      have h1 : (k : Int) < 16 := by omega
      have hu := L2.up k (by omega)
      have hd := L2.down k (by omega)
      by_cases hi : (S (inter (U k) (D k)) != S (one k)) = true
      · have HF := Lib.hid (orderedB_false (U := U) (D := D) hlt (show _ = false by simpa using hi))
        go_wp2
        go_quiet ((go_at_call 47; with_reducible exact Reads.quiet (only_at _ _ h0 h1)))
        go_wp2
        go_ret
        rw [HF.out]
        exact reads_after HW.out
      · have hi' : (S (inter (U k) (D k)) != S (one k)) = false := by simpa using hi
        have HE : Hid ((S (inter (U k) (D k)) == S (one k)) = true) := by show _ = true; simpa using hi
        clear hi
        go_wp2
        go_quiet ((go_at_call 47; with_reducible exact Reads.quiet (only_at _ _ h0 h1)))
        go_wp2
        go_roundw
        case rel =>
          refine ⟨k + 1, by omega, by go_num, fun a ha => ?_, m + nq, by rw [HW.out, World.drewN_drewN]⟩
          by_cases e : a = k
          · rw [e]; exact HE.out
          · exact HA.out a (by omega)
        case measure => simp [intOf]; omega
    · obtain rfl : k = n := by omega
      have HT := Lib.hid (orderedB_true HA.out)
      go_wp2
      go_ret
      rw [HT.out]
      exact ⟨rfl, m, HW.out⟩

theorem join_is (b : Nat) (n x y v : Int) (U D : Nat → Nat → Bool) (w : World) (hn : n ≤ 16) (L : LatAt w b n U D) (h : joinB n U x y = v) :
    Calls Try.prog 52 #[.pointer (some ⟨b, 0, none⟩), .int .i64 x, .int .i64 y] w (Reads w (.int .i64 v)) := by
  rw [← h]; exact join_at b n x y U D w hn L
theorem meet_is (b : Nat) (n x y v : Int) (U D : Nat → Nat → Bool) (w : World) (hn : n ≤ 16) (L : LatAt w b n U D) (h : joinB n D x y = v) :
    Calls Try.prog 67 #[.pointer (some ⟨b, 0, none⟩), .int .i64 x, .int .i64 y] w (Reads w (.int .i64 v)) := by
  rw [← h]; exact meet_at b n x y U D w hn L

set_option maxHeartbeats 2000000 in
theorem bounded_at (b n : Nat) (U D : Nat → Nat → Bool) (w : World) (hn : n ≤ 16) (L : LatAt w b n U D) :
    Calls Try.prog 51 #[.pointer (some ⟨b, 0, none⟩)] w (Reads w (.bool (boundedB n U D))) := by
  have hlen := L.len
  have hn' : (n : Int) ≤ 16 := by omega
  go_enter Try.func51, Try.ntmps51
  go_wp2
  go_loopw [9] (fun i w' => ∃ k : Nat, k ≤ n ∧ i = .int .i64 k ∧ (∀ a b, a < k → b < a → decide (joinB n U a b < 0) = false ∧ decide (joinB n D a b < 0) = false) ∧ ∃ m, w' = w.drewN m) (fun i _ => n - (intOf i).toNat)
  case atStart => exact ⟨0, Nat.zero_le _, rfl, fun a b ha => by omega, 0, rfl⟩
  case round =>
    obtain ⟨k, hk, rfl, ha, m, rfl⟩ := hrel
    have HA := Lib.hid ha
    clear ha
    by_cases hlt : k < n
    · go_wp2
      go_loopw [13] (fun i w' => ∃ j : Nat, j ≤ k ∧ i = .int .i64 j ∧ (∀ y, y < j → decide (joinB n U k y < 0) = false ∧ decide (joinB n D k y < 0) = false) ∧ ∃ m, w' = w.drewN m) (fun i _ => k - (intOf i).toNat)
      case atStart => exact ⟨0, Nat.zero_le _, rfl, fun y hy => by omega, m, rfl⟩
      case round =>
        obtain ⟨j, hj, rfl, hb, m2, rfl⟩ := hrel
        have HB := Lib.hid hb
        clear hb
        by_cases hlt2 : j < k
        · obtain ⟨x, hx⟩ : ∃ x, joinB n U k j = x := ⟨_, rfl⟩
          obtain ⟨y, hy⟩ : ∃ y, joinB n D k j = y := ⟨_, rfl⟩
          have HX := Lib.hid hx
          have HY := Lib.hid hy
          clear hx hy
          by_cases h1 : x < 0
          · have HF := Lib.hid (boundedB_false (U := U) (D := D) hlt hlt2 (by rw [HX.out]; simp [h1]))
            go_wp2_with (first | (go_at_call 52; (with_reducible refine (join_is b n k j x U D _ hn' ?_ HX.out).mono ?_); (try exact L.drewN _); rintro e w' ⟨rfl, m1, rfl⟩) | (go_at_call 67; (with_reducible refine (meet_is b n k j y U D _ hn' ?_ HY.out).mono ?_); (try exact L.drewN _); rintro e w' ⟨rfl, m3, rfl⟩))
            go_ret
            rw [HF.out]
            exact ⟨rfl, _, rfl⟩
          · have h1' : decide (x < 0) = false := by simpa using h1
            by_cases h2 : y < 0
            · have HF := Lib.hid (boundedB_false (U := U) (D := D) hlt hlt2 (by rw [HX.out, HY.out]; simp [h2]))
              go_wp2_with (first | (go_at_call 52; (with_reducible refine (join_is b n k j x U D _ hn' ?_ HX.out).mono ?_); (try exact L.drewN _); rintro e w' ⟨rfl, m1, rfl⟩) | (go_at_call 67; (with_reducible refine (meet_is b n k j y U D _ hn' ?_ HY.out).mono ?_); (try exact L.drewN _); rintro e w' ⟨rfl, m3, rfl⟩))
              go_ret
              rw [HF.out]
              exact ⟨rfl, _, rfl⟩
            · have h2' : decide (y < 0) = false := by simpa using h2
              have HE : Hid (decide (joinB n U k j < 0) = false ∧ decide (joinB n D k j < 0) = false) := by rw [HX.out, HY.out]; exact ⟨h1', h2'⟩
              go_wp2_with (first | (go_at_call 52; (with_reducible refine (join_is b n k j x U D _ hn' ?_ HX.out).mono ?_); (try exact L.drewN _); rintro e w' ⟨rfl, m1, rfl⟩) | (go_at_call 67; (with_reducible refine (meet_is b n k j y U D _ hn' ?_ HY.out).mono ?_); (try exact L.drewN _); rintro e w' ⟨rfl, m3, rfl⟩))
              go_roundw
              case rel =>
                refine ⟨j + 1, by omega, by go_num, fun z hz => ?_, _, rfl⟩
                by_cases e : z = j
                · rw [e]; exact HE.out
                · exact HB.out z (by omega)
              case measure => simp [intOf]; omega
        · obtain rfl : j = k := by omega
          go_wp2
          go_roundw
          case rel =>
            refine ⟨j + 1, by omega, by go_num, fun x y hx hy => ?_, _, rfl⟩
            by_cases e : x = j
            · subst e; exact HB.out y hy
            · exact HA.out x y (by omega) hy
          case measure => simp [intOf]; omega
    · obtain rfl : k = n := by omega
      have HT := Lib.hid (boundedB_true HA.out)
      go_wp2
      go_ret
      rw [HT.out]
      exact ⟨rfl, _, rfl⟩
end Go.Proofs.Ytbdkakpbhijilaa
