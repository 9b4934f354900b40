/-
  The stable sort's turn of a range: slices.rotateCmpFunc.
-/
import Derived.Test.YtcicggpcmmnohaaSrtM
namespace Go.Proofs.Ytcicggpcmmnohaa
open Go.Shelf Go.RowKit Go.Lib Go.Sort
set_option linter.unusedVariables false
section
variable {P : Program} {α : Type} [Inhabited α]
set_option maxHeartbeats 4000000 in
set_option maxRecDepth 1000000 in
theorem rotate_at (k : Nat) (L : LO P k) (enc : α → List Value) (fv : Value) (w0 : World) (blk off cap a m b : Nat) (d : Array α) (w : World)
    (R : RowB enc k w0 blk) (S : SWb enc k w0 blk off d w) (ham : a < m) (hmb : m < b) (hb : b ≤ d.size) (hsz : d.size < 4611686018427387904) :
    Calls P 81 #[.slice (some ⟨blk, off, none⟩) d.size cap, .int .i64 a, .int .i64 m, .int .i64 b, fv] w fun e w' => e = .returned (.tuple #[]) ∧ ∃ d', SWb enc k w0 blk off d' w' ∧ Rot d a m b d' ∧ PermIn a b d d' := by
  have mixed := L.mixed; have t0 := L.t0; have a0 := L.a0; have z0 := L.z0; have v0 := L.v0; have t3 := L.t3; have a3 := L.a3; have z3 := L.z3; have v3 := L.v3; have t4 := L.t4; have a4 := L.a4; have z4 := L.z4; have v4 := L.v4; have t57 := L.t57; have a57 := L.a57; have z57 := L.z57; have v57 := L.v57; have t61 := L.t61; have a61 := L.a61; have z61 := L.z61; have v61 := L.v61; have aE := L.aE; have zE := L.zE
  have e83 : ∀ args w, (callFunc 83 args).run P w = .ok (.enter 83 args) w := enters_of L.f83 (by kernel_rfl) rfl
  have S0 : Aside (SWb enc k w0 blk off d w) := S
  clear S
  go_enter L.f81, Try.ntmps81
  go_wp2
  go_loopg [10, 11] (b - a) (fun gg s10 s11 wr => ∃ (i j : Nat) (dk : Array α), s10 = .int .i64 i ∧ s11 = .int .i64 j ∧ 0 < i ∧ 0 < j ∧ a + i ≤ m ∧ m + j ≤ b ∧ i + j ≤ gg ∧ dk.size = d.size ∧ Aside (PermIn a b d dk) ∧ Aside (SWb enc k w0 blk off dk wr) ∧ Hid (∀ d', Rot dk (m - i) m (m + j) d' → Rot d a m b d'))
  case atStart => exact ⟨m - a, b - m, d, by congr 1; omega, by congr 1; omega, by omega, by omega, by omega, by omega, by omega, rfl, permIn_refl d a b, S0, fun d' h => by rwa [show m - (m - a) = a by omega, show m + (b - m) = b by omega] at h⟩
  case round =>
    clear S0
    obtain ⟨i, j, dk, rfl, rfl, hi0, hj0, hai, hjb, hg, hds, HP, S1, HR⟩ := hrel
    by_cases hij : i = j
    · subst hij
      have hsw : Calls P 83 #[.slice (some ⟨blk, off, none⟩) d.size cap, .int .i64 ((m : Int) - (i : Int)), .int .i64 m, .int .i64 i, fv] wr fun e w' => e = .returned (.tuple #[]) ∧ SWb enc k w0 blk off (swaps dk (m - i) m i) w' := by
        rw [show ((m : Int) - (i : Int)) = ((m - i : Nat) : Int) by omega, ← hds]
        exact swapRange_at k L enc fv w0 blk off cap (m - i) m i dk wr R S1.out (by omega) (by omega) (by omega)
      clear S1
      go_wp2_with (go_at_fn 83; refine hsw.mono ?_; clear hsw; rintro e w2 ⟨rfl, S2⟩)
      go_end0
      exact ⟨rfl, _, S2, HR.out _ (Rot.eq (by omega) (by omega)), permIn_trans _ _ _ _ _ HP.out (swaps_perm dk a b _ _ (by omega) (by omega) (by omega) _ (by omega) (by omega))⟩
    · have hne : ((i : Int) != (j : Int)) = true := by simpa using (by omega : ¬ (i : Int) = (j : Int))
      by_cases hgt : j < i
      · have hgtz : (j : Int) < (i : Int) := by omega
        have hsw : Calls P 83 #[.slice (some ⟨blk, off, none⟩) d.size cap, .int .i64 ((m : Int) - (i : Int)), .int .i64 m, .int .i64 j, fv] wr fun e w' => e = .returned (.tuple #[]) ∧ SWb enc k w0 blk off (swaps dk (m - i) m j) w' := by
          rw [show ((m : Int) - (i : Int)) = ((m - i : Nat) : Int) by omega, ← hds]
          exact swapRange_at k L enc fv w0 blk off cap (m - i) m j dk wr R S1.out (by omega) (by omega) (by omega)
        clear S1
        go_wp2_with (go_at_fn 83; refine hsw.mono ?_; clear hsw; rintro e w2 ⟨rfl, S2⟩)
        go_roundg (i - j + j)
        case measure => omega
        case rel => exact ⟨i - j, j, _, by congr 1; omega, rfl, by omega, hj0, by omega, hjb, Nat.le_refl _, by rw [size_swaps]; exact hds, permIn_trans _ _ _ _ _ HP.out (swaps_perm dk a b _ _ (by omega) (by omega) (by omega) _ (by omega) (by omega)), S2, fun d' h => HR.out d' (Rot.gt hgt (by omega) (by omega) h)⟩
      · have hgtz : ¬ (j : Int) < (i : Int) := by omega
        have hsw : Calls P 83 #[.slice (some ⟨blk, off, none⟩) d.size cap, .int .i64 ((m : Int) - (i : Int)), .int .i64 ((m : Int) + (j : Int) - (i : Int)), .int .i64 i, fv] wr fun e w' => e = .returned (.tuple #[]) ∧ SWb enc k w0 blk off (swaps dk (m - i) (m + j - i) i) w' := by
          rw [show ((m : Int) - (i : Int)) = ((m - i : Nat) : Int) by omega, show ((m : Int) + (j : Int) - (i : Int)) = ((m + j - i : Nat) : Int) by omega, ← hds]
          exact swapRange_at k L enc fv w0 blk off cap (m - i) (m + j - i) i dk wr R S1.out (by omega) (by omega) (by omega)
        clear S1
        go_wp2_with (go_at_fn 83; refine hsw.mono ?_; clear hsw; rintro e w2 ⟨rfl, S2⟩)
        go_roundg (i + (j - i))
        case measure => omega
        case rel => exact ⟨i, j - i, _, rfl, by congr 1; omega, hi0, by omega, hai, by omega, Nat.le_refl _, by rw [size_swaps]; exact hds, permIn_trans _ _ _ _ _ HP.out (swaps_perm dk a b _ _ (by omega) (by omega) (by omega) _ (by omega) (by omega)), S2, fun d' h => HR.out d' (Rot.lt (by omega) (by omega) (by omega) h)⟩
end
end Go.Proofs.Ytcicggpcmmnohaa
