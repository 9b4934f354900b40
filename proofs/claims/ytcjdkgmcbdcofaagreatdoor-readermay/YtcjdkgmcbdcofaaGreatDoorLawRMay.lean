/-
  ReaderMay: what is read may be; its variables are 0, 1, and so on.
-/
import Derived.Test.YtcjdkgmcbdcofaaGreatDoorRShown
import Derived.Test.YtcjdkgmcbdcofaaGreatDoorReadT
import Derived.Deep.LoopGhost
namespace Go.Proofs.YtcjdkgmcbdcofaaGreatDoor
open Go.RowKit Go.Maps
set_option linter.unusedVariables false

set_option maxRecDepth 100000 in
set_option maxHeartbeats 4000000 in
theorem may_at (s : ByteArray) (hs : s.size ≤ maxLen) (n : Int) (h0 : 0 ≤ n) (h1 : n ≤ 255) (w : World) (L : Laid w) (T : Tab w) (E : ErrT w) : Calls Tryz.prog 3 #[.string s, .int .u8 n] w (Gets w (.bool true)) := by
  have hsh := shown7_at w L T E
  have hsz : s.size ≤ 9223372036854775807 := by unfold maxLen at hs; omega
  have hA := fun W (L : Laid W) (T : Tab W) (E : ErrT W) => all_at s s.data.toList rfl W L T E hsz (n % 17)
  cases hg : allG s.data.toList (n % 17) with
  | bad p c =>
    have hc0 := allG_nz hg
    simp only [hg] at hA
    unfold AllPost at hA
    clear hg
    go_enter Tryz.func3, Tryz.ntmps3
    go_wp2_with (first | (go_at_call 9; refine hsh.mono ?_; rintro e W1 ⟨rfl, hb1⟩) | (go_at_call 10; refine (hA _ (L.later hb1) (T.later hb1) (E.later hb1)).mono ?_; rintro e W2 ⟨rfl, hb2⟩))
    go_ret
    exact ⟨rfl, bel hb1 hb2⟩
  | ok Ts =>
    obtain ⟨hgood, hTl⟩ := allG_good hg
    simp only [hg] at hA
    unfold AllPost at hA
    clear hg
    go_enter Tryz.func3, Tryz.ntmps3
    go_wp2_with (first | (go_at_call 9; refine hsh.mono ?_; rintro e W1 ⟨rfl, hb1⟩) | (go_at_call 10; refine (hA _ (L.later hb1) (T.later hb1) (E.later hb1)).mono ?_; rintro e W2 ⟨a, cap, rfl, hb2, hts⟩))
    have HB := Lib.hid (bel hb1 hb2)
    have HGo := Lib.hid hgood
    clear hA hsh hb1 hb2 hgood
    go_loopg [9] Ts.length (fun g x wr => ∃ i : Nat, x = .int .i64 i ∧ g + i = Ts.length ∧ Below W2.heap.size W2 wr)
    case atStart => exact ⟨0, rfl, by omega, Below.refl _ _⟩
    case round =>
      obtain ⟨i, rfl, hgi, hbr⟩ := hrel
      cases gk with
      | zero =>
        have hii : ¬ ((i : Int) < (Ts.length : Int)) := by omega
        go_wp2_with fail
        go_ret
        exact ⟨rfl, bel HB.out hbr⟩
      | succ m =>
        have hi : i < Ts.length := by omega
        have hii : (i : Int) < (Ts.length : Int) := by omega
        have hi0 : (0 : Int) ≤ (i : Int) := by omega
        have hi9 : (i : Int) < 4096 := by omega
        obtain ⟨hck, ⟨nv, hvs, hnv⟩, hsT⟩ := HGo.out Ts[i] (List.getElem_mem hi)
        obtain ⟨a', cap', hv, -, -, -, hx⟩ := HasTs.below hts hbr
        obtain ⟨b, o, k1, n1, s1, a1, l1, c1, he, hbb, q0, q1, q2, q3, hT1⟩ := hx i hi
        injection hv with hv1 hv2 hv3
        subst hv1 hv3
        subst he
        have hV := vars_at _ Ts[i] wr hT1 (by omega)
        rw [hvs] at hV
        have hC := fun W (hb : Below wr.heap.size wr W) => check_at _ Ts[i] (n % 17) W (Has.below hT1 hb) (by omega)
        rw [hck] at hC
        have qc := fun W (hb : Below wr.heap.size wr W) (j : Nat) (u : Value) (hq : wr.cell? ⟨b, j, none⟩ = some u) => (hb.cell (p := ⟨b, j, none⟩) hbb).trans hq
        clear hx
        go_wp2_with (first
          | (go_at_call 11; refine hV.mono ?_; rintro e W3 ⟨rv, rfl, hI3, hb3⟩; obtain ⟨va, vc, rfl, -, -, -, hvc⟩ := id hI3; have r0 := qc W3 hb3 _ _ q0; have r1 := qc W3 hb3 _ _ q1; have r2 := qc W3 hb3 _ _ q2; have r3 := qc W3 hb3 _ _ q3)
          | (go_at_call 12; refine (hC W3 hb3).mono ?_; rintro e W4 ⟨rfl, hb4⟩))
        have HRL := Lib.hid (show (rng nv).length = nv by simp [rng])
        have hI4 := hI3.below hb4
        go_loopg [11] nv (fun g y wk => ∃ k : Nat, y = .int .i64 k ∧ g + k = nv ∧ Below W4.heap.size W4 wk)
        case atStart => exact ⟨0, rfl, by omega, Below.refl _ _⟩
        case round =>
          obtain ⟨k, rfl, hgk, hbk⟩ := hrel
          cases gk with
          | zero =>
            have hkk : ¬ ((k : Int) < ((rng nv).length : Int)) := by have := HRL.out; omega
            have hall := bel hbr (bel hb3 (bel hb4 hbk))
            clear hvc
            go_wp2_with fail
            go_roundg m
            case measure => omega
            case rel => exact ⟨i + 1, by simp, by omega, hall⟩
          | succ m2 =>
            have hk1 : k < (rng nv).length := by have := HRL.out; omega
            have hkk : (k : Int) < ((rng nv).length : Int) := by omega
            have hk0 : (0 : Int) ≤ (k : Int) := by omega
            have hk9 : (k : Int) < 4096 := by omega
            obtain ⟨va', vc', hv', -, -, -, hvx⟩ := hI4.below hbk
            obtain ⟨vb, vo, he', -, hcell⟩ := hvx k hk1
            have hval : (rng nv)[k] = (k : Int) := by simp [rng]
            rw [hval] at hcell
            injection hv' with hv1' hv2' hv3'
            subst hv1' hv3'
            subst he'
            clear hvx hvc
            go_wp2_with fail
            go_roundg m2
            case measure => omega
            case rel => exact ⟨k + 1, by simp, by omega, hbk⟩
end Go.Proofs.YtcjdkgmcbdcofaaGreatDoor
