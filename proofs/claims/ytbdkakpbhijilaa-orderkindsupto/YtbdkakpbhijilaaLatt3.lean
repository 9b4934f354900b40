/-
  The walk of latt's fillDown: behind it the rows down are the converse of the rows up.
-/
import Derived.Test.YtbdkakpbhijilaaLatt2
import Derived.StillTailTactics
namespace Go.Proofs.Ytbdkakpbhijilaa
open Go.RowKit

theorem LatAt.congr {w : World} {b : Nat} {n : Int} {U D U' D' : Nat → Nat → Bool} (h : LatAt w b n U D) (hU : ∀ a i, a < 16 → i < 16 → U a i = U' a i) (hD : ∀ a i, a < 16 → i < 16 → D a i = D' a i) : LatAt w b n U' D' :=
  ⟨h.len, fun a ha => by rw [h.up a ha, S_congr (fun i hi => hU a i ha hi)], fun a ha => by rw [h.down a ha, S_congr (fun i hi => hD a i ha hi)], h.nf⟩

/-- The rows down, as far as they are filled. -/
def downTo (n : Nat) (U : Nat → Nat → Bool) (k j : Nat) : Nat → Nat → Bool := fun x i => (decide (x < n) && decide (i < n) && U i x) && (decide (i < k) || (decide (i = k) && decide (x < j)))

theorem downTo_start (n : Nat) (U : Nat → Nat → Bool) (a i : Nat) : downTo n U 0 0 a i = false := by simp [downTo]
theorem downTo_next (n : Nat) (U : Nat → Nat → Bool) (k a i : Nat) : downTo n U k n a i = downTo n U (k + 1) 0 a i := by
  rw [Bool.eq_iff_iff]; simp [downTo]; intro h1 h2 h3; omega
theorem downTo_yes (n : Nat) (U : Nat → Nat → Bool) (k j : Nat) (hk : k < n) (hj : j < n) (h : U k j = true) (a i : Nat) : upd (downTo n U k j) j (union (downTo n U k j j) (one k)) a i = downTo n U k (j + 1) a i := by
  rw [Bool.eq_iff_iff]
  by_cases e : a = j
  · subst e
    by_cases e2 : i = k
    · subst e2; simp [upd, union, one, downTo, hj, hk, h]
    · simp [upd, union, one, downTo, e2]
  · have : (a < j + 1) ↔ a < j := by omega
    simp [upd, downTo, e, this]
theorem downTo_no (n : Nat) (U : Nat → Nat → Bool) (k j : Nat) (h : U k j = false) (a i : Nat) : downTo n U k j a i = downTo n U k (j + 1) a i := by
  rw [Bool.eq_iff_iff]
  by_cases e : i = k
  · subst e
    by_cases e2 : a = j
    · subst e2; simp [downTo, h]
    · have : (a < j + 1) ↔ a < j := by omega
      simp [downTo, this]
  · simp [downTo, e]

/-- What holds of the world at the head of a round. -/
def FillAt (w : World) (b n : Nat) (U : Nat → Nat → Bool) (k j : Nat) (w' : World) : Prop := LatAt w' b n U (downTo n U k j) ∧ Only b w w'

theorem FillAt.next {w w' : World} {b n k : Nat} {U : Nat → Nat → Bool} (h : FillAt w b n U k n w') : FillAt w b n U (k + 1) 0 w' :=
  ⟨h.1.congr (fun _ _ _ _ => rfl) (fun a i _ _ => downTo_next n U k a i), h.2⟩
theorem FillAt.no {w w' : World} {b n k j : Nat} {U : Nat → Nat → Bool} (h : FillAt w b n U k j w') (hu : U k j = false) : FillAt w b n U k (j + 1) w' :=
  ⟨h.1.congr (fun _ _ _ _ => rfl) (fun a i _ _ => downTo_no n U k j hu a i), h.2⟩
theorem FillAt.yes {w w' : World} {b n k j : Nat} {U : Nat → Nat → Bool} (h : FillAt w b n U k j w') (hn : n ≤ 16) (hk : k < n) (hj : j < n) (hu : U k j = true) :
    FillAt w b n U k (j + 1) (w'.setCell ⟨b, 17 + j, none⟩ (.int .u16 (S (union (downTo n U k j j) (one k))))) :=
  ⟨(h.1.setDown j (by omega) _).congr (fun _ _ _ _ => rfl) (fun a i _ _ => downTo_yes n U k j hk hj hu a i), h.2.setCell _ _⟩
theorem FillAt.drewN {w w' : World} {b n k j : Nat} {U : Nat → Nat → Bool} (h : FillAt w b n U k j w') (m : Nat) : FillAt w b n U k j (w'.drewN m) := ⟨h.1.drewN m, h.2.drewN m⟩

theorem leqB_in {n : Nat} {U : Nat → Nat → Bool} {k j : Nat} (hk : k < n) (hj : j < n) : leqB n U k j = U k j := by
  simp [leqB, hasB, hk, hj]

theorem leq_is (b : Nat) (n x y : Int) (U D : Nat → Nat → Bool) (v : Bool) (w : World) (hn : n ≤ 16) (L : LatAt w b n U D) (h : leqB n U x y = v) :
    Calls Try.prog 22 #[.pointer (some ⟨b, 0, none⟩), .int .i64 x, .int .i64 y] w (Reads w (.bool v)) := by
  rw [← h]; exact leq_at b n x y U D w hn L

set_option maxRecDepth 100000 in
set_option maxHeartbeats 1000000 in
theorem fillDown_at (b n : Nat) (U : Nat → Nat → Bool) (w : World) (hn : n ≤ 16) (L : FillAt w b n U 0 0 w) :
    Calls Try.prog 49 #[.pointer (some ⟨b, 0, none⟩)] w fun e w' => e = .returned (.tuple #[]) ∧ FillAt w b n U n 0 w' := by
  have hlen := L.1.len
  have hn' : (n : Int) ≤ 16 := by omega
  go_enter Try.func49, Try.ntmps49
  go_wp2
  go_loopw [8] (fun i w' => ∃ k : Nat, k ≤ n ∧ i = .int .i64 k ∧ FillAt w b n U k 0 w') (fun i _ => n - (intOf i).toNat)
  case atStart => exact ⟨0, Nat.zero_le _, rfl, L⟩
  case round =>
    obtain ⟨k, hk, rfl, F⟩ := hrel
    clear hlen
    have hlen := F.1.len
    by_cases hlt : k < n
    · go_wp2
      go_loopw [15] (fun i w' => ∃ j : Nat, j ≤ n ∧ i = .int .i64 j ∧ FillAt w b n U k j w') (fun i _ => n - (intOf i).toNat)
      case atStart => exact ⟨0, Nat.zero_le _, rfl, F⟩
      case round =>
        obtain ⟨j, hj, rfl, F⟩ := hrel
        have FL := F.1
        by_cases hlt2 : j < n
        · cases hu : U k j
          · have HQ := Lib.hid (show leqB n U k j = false by rw [leqB_in hlt hlt2, hu])
            have HU := Lib.hid hu
            clear hu
            go_wp2_with (go_at_call 22; (with_reducible refine (leq_is b n k j U (downTo n U k j) _ _ hn' FL HQ.out).mono ?_); rintro e w' ⟨rfl, m, rfl⟩)
            go_roundw
            case rel => exact ⟨j + 1, by omega, by go_num, (F.no HU.out).drewN _⟩
            case measure => simp [intOf]; omega
          · have HQ := Lib.hid (show leqB n U k j = true by rw [leqB_in hlt hlt2, hu])
            have HU := Lib.hid hu
            clear hu
            go_wp2_with (go_at_call 22; (with_reducible refine (leq_is b n k j U (downTo n U k j) _ _ hn' FL HQ.out).mono ?_); rintro e w' ⟨rfl, m, rfl⟩)
            obtain ⟨w2, hw2⟩ : ∃ w2, w2 = wr.drewN m := ⟨_, rfl⟩
            rw [← hw2]
            have F2 : FillAt w b n U k j w2 := by rw [hw2]; exact F.drewN m
            clear hw2
            have hd := F2.1.down j (by omega)
            have hf := F2.1.nf (17 + j)
            have k0 : (0 : Int) ≤ (k : Int) := by omega
            have k1 : (k : Int) < 16 := by omega
            have j1 : (j : Int) < 16 := by omega
            go_still_tail 12, (by kernel_rfl)
            still_call (only_still _ _ k0 k1)
            repeat still_step
            refine wpStill_nil ?_
            change wpList _ _ _ _ _ w2.drew
            have F3 : FillAt w b n U k j w2.drew := F2.drewN 1
            have HU3 := Lib.hid F3
            have hd3 := F3.1.down j (by omega)
            have hf3 := F3.1.nf (17 + j)
            generalize w2.drew = w3 at *
            clear hd hf F2 F FL hlen F3
            go_wp2
            go_roundw
            case rel => exact ⟨j + 1, by omega, by go_num, HU3.out.yes hn hlt hlt2 HU.out⟩
            case measure => simp [intOf]; omega
        · obtain rfl : j = n := by omega
          have FN := F.next
          go_wp2
          go_roundw
          case rel => exact ⟨k + 1, by omega, by go_num, FN⟩
          case measure => simp [intOf]; omega
    · obtain rfl : k = n := by omega
      go_wp2
      go_end0
      exact ⟨rfl, F⟩
end Go.Proofs.Ytbdkakpbhijilaa
