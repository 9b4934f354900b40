/-
  The statement of WriterBack, proved in its second form: the call returns true, and each argument reads as it did. Conditions: the listed variables hold what the program's text lays (the card ties them); what it reads is of bulk at most 1048576.
-/
import Derived.Test.YtfencolokfghfaaGreatDoorBkX
import Derived.Test.YtfencolokfghfaaGreatDoorWrY
import Derived.Test.YtfencolokfghfaaGreatDoorReadS
import Derived.Test.YtfencolokfghfaaGreatDoorRows
import Derived.Test.YtfencolokfghfaaGreatDoorReadW
import Derived.ProofKit
import Derived.OpenShut
import Derived.ShutString
import Derived.ChangeOld
import Derived.Below
import Derived.JoinedCond
import Derived.Deep.Slices
namespace Go.Proofs.YtfencolokfghfaaGreatDoor
open Go.Shelf Go.RowKit Go.Sort
set_option linter.unusedVariables false
set_option linter.unnecessarySimpa false
set_option linter.unusedSimpArgs false
open Classical

theorem rd_app8 (a b : ByteArray) : (a ++ b).data.toList = a.data.toList ++ b.data.toList := by rw [ByteArray.data_append]; simp
set_option maxRecDepth 100000 in
set_option maxHeartbeats 4000000 in
theorem back_at (T : Tm) (v : Value) (w : World) (hv : Has w v T) (hbT : T.byt + T.size ≤ 1048576) (hT : TabP w) (hL : Laid w) (hO : Tab w) (hE : ErrT w) : Calls Tryz.prog 3 #[v] w (Gets w (.bool true)) := by
  have hsh := fun W (h : Below w.heap.size w W) => shown8_at W (hT.later h)
  have hf1 := fun W (h : Below w.heap.size w W) => few8_at T v W (hv.below h) (by omega)
  have hc1 := fun W (h : Below w.heap.size w W) => check_at v T 16 W (hv.below h) (by omega)
  have hd1 := fun W (h : Below w.heap.size w W) => deep_at v T W (hv.below h) (by omega)
  have ha1 := fun W (h : Below w.heap.size w W) => at_ok T v W (hv.below h) (by omega) (by omega)
  have hx1 := fun (c1 : T.size ≤ 1000) W (h : Below w.heap.size w W) => text_at T v W (hv.below h) (hT.later h) (by omega) (by omega)
  have hvr := fun W (h : Below w.heap.size w W) => vars_at v T W (hv.below h) (by omega)
  have hvl : T.vars.length ≤ T.size := by
    have := varsL_length (T.parts 1)
    rw [T.parts_length 1] at this
    unfold Tm.vars
    omega
  have hnum := hv.nums
  have hw0 := Lib.hid (And.intro hv (And.intro hL (And.intro hO hE)))
  obtain ⟨k, n, s, a, l, c, ks, rfl, e, -⟩ := hv.form
  clear e
  obtain ⟨w2, hw2⟩ : ∃ w2, w2 = w.alloc (.cells #[.int .i64 k, .int .i64 n, .string s, .slice a l c] 24) := ⟨_, rfl⟩
  have hbw : Below w.heap.size w w2 := by rw [hw2]; exact bel_al (Below.refl _ _) _
  have xA : w2.heap[w.heap.size]? = some (.cells #[.int .i64 k, .int .i64 n, .string s, .slice a l c] 24 (0, 0)) := by rw [hw2]; exact alloc_new _ _
  have lA := (Array.getElem?_eq_some_iff.1 xA).1
  have HSH := Lib.hid hsh
  have HVR := Lib.hid hvr
  clear hsh hvr hv hL hO hE hT
  by_cases c1 : T.size ≤ 1000
  · simp only [decide_eq_true c1] at hf1
    have HF1 := Lib.hid hf1
    clear hf1
    by_cases c3 : T.check 16 = 0
    · simp only [c3] at hc1
      have HC1 := Lib.hid hc1
      clear hc1
      have HD1 := Lib.hid hd1
      clear hd1
      by_cases c4 : T.deep ≤ 25
      · have h25 : ¬ ((25 : Int) < (T.deep : Int)) := by omega
        by_cases c5 : T.atb = false
        · simp only [c5] at ha1
          have HA1 := Lib.hid ha1
          have HX1 := Lib.hid (hx1 c1)
          have hts : (strV T.txt).size = T.txt.length := strV_size _
          have htl := Tm.txt_len T (hnum 1)
          have hww := wr_of T (check_valid c3) c5 hnum
          clear ha1 hx1
          by_cases c6 : T.txt.length + 2 ≤ 4096
          · have hbk := back_ghost hww c3 c4 (by simp; omega)
            have hal := fun W (h : Below w.heap.size w W) => all_at (strV T.txt ++ ByteArray.mk #[32, 46]) (T.txt ++ [32, 46]) (by rw [rd_app8, strV_list]) W (hw0.out.2.1.later h) (hw0.out.2.2.1.later h) (hw0.out.2.2.2.later h) (by rw [ByteArray.size_append, strV_size]; show T.txt.length + 2 ≤ _; omega) 16
            simp only [hbk] at hal
            have HAL := Lib.hid hal
            have h4096 : ¬ ((4096 : Int) < (T.txt.length : Int) + 2) := by omega
            clear hww hnum hal hbk
            go_enter Tryz.func3, Tryz.ntmps3
            go_upto_region 1 with fail
            rw [← hw2]
            clear hw2
            have hb0 := Below.refl w2.heap.size w2
            go_wp2_with (first
              | (go_at_call 4; (with_reducible refine (HSH.out _ (bel hbw hb0)).mono ?_); rintro e W1 ⟨rfl, hb1'⟩; have hb1 := bel hb0 hb1'; obtain ⟨p0W1, p1W1, p2W1, p3W1⟩ := tbox_cells ((hb1.block _ lA).trans xA))
              | (go_at_call 5; (with_reducible refine (HF1.out _ (bel hbw hb1)).mono ?_); rintro e W2 ⟨rfl, hb2'⟩; have hb2 := bel hb1 hb2'; obtain ⟨p0W2, p1W2, p2W2, p3W2⟩ := tbox_cells ((hb2.block _ lA).trans xA))
              | (go_at_call 6; (with_reducible refine (HC1.out _ (bel hbw hb2)).mono ?_); rintro e W3 ⟨rfl, hb3'⟩; have hb3 := bel hb2 hb3'; obtain ⟨p0W3, p1W3, p2W3, p3W3⟩ := tbox_cells ((hb3.block _ lA).trans xA))
              | (go_at_call 7; (with_reducible refine (HD1.out _ (bel hbw hb3)).mono ?_); rintro e W4 ⟨rfl, hb4'⟩; have hb4 := bel hb3 hb4'; obtain ⟨p0W4, p1W4, p2W4, p3W4⟩ := tbox_cells ((hb4.block _ lA).trans xA))
              | (go_at_call 8; (with_reducible refine (HA1.out _ (bel hbw hb4)).mono ?_); rintro e W5 ⟨rfl, hb5'⟩; have hb5 := bel hb4 hb5'; obtain ⟨p0W5, p1W5, p2W5, p3W5⟩ := tbox_cells ((hb5.block _ lA).trans xA))
              | (go_at_call 9; (with_reducible refine (HX1.out _ (bel hbw hb5)).mono ?_); rintro e W6 ⟨rfl, hb6'⟩; have hb6 := bel hb5 hb6'; obtain ⟨p0W6, p1W6, p2W6, p3W6⟩ := tbox_cells ((hb6.block _ lA).trans xA))
              | (go_at_call 10; (with_reducible refine (HAL.out _ (bel hbw hb6)).mono ?_); rintro e W7 ⟨ra, rc, rfl, hb7', hTs⟩; have hb7 := bel hb6 hb7'; obtain ⟨p0W7, p1W7, p2W7, p3W7⟩ := tbox_cells ((hb7.block _ lA).trans xA)))
            obtain ⟨ra', rc', hvv, -, -, -, hel⟩ := hTs
            injection hvv with hv1 hv2 hv3
            subst hv1 hv3
            obtain ⟨lb, lo, x0, y0, z0, u0, lu0, cu0, he, hlb, g0, g1, g2, g3, hR⟩ := hel 0 (by simp)
            subst he
            simp only [Nat.zero_mul, Nat.add_zero] at g0 g1 g2 g3
            have hR' : Has W7 (.agg #[.int .i64 x0, .int .i64 y0, .string z0, .slice u0 lu0 cu0]) (T.ren T.vars) := hR
            have HS : ∀ w', Below W7.heap.size W7 w' → (w'.cell? ⟨w.heap.size, 0, none⟩ = some (.int .i64 k) ∧ w'.cell? ⟨w.heap.size, 1, none⟩ = some (.int .i64 n) ∧ w'.cell? ⟨w.heap.size, 2, none⟩ = some (.string s) ∧ w'.cell? ⟨w.heap.size, 3, none⟩ = some (.slice a l c) ∧ w'.cell? ⟨lb, lo, none⟩ = some (.int .i64 x0) ∧ w'.cell? ⟨lb, lo + 1, none⟩ = some (.int .i64 y0) ∧ w'.cell? ⟨lb, lo + 2, none⟩ = some (.string z0) ∧ w'.cell? ⟨lb, lo + 3, none⟩ = some (.slice u0 lu0 cu0) ∧ Below W7.heap.size W7 w') := fun w' h =>
              ⟨(tbox_cells (((bel hb7 h).block _ lA).trans xA)).1, (tbox_cells (((bel hb7 h).block _ lA).trans xA)).2.1, (tbox_cells (((bel hb7 h).block _ lA).trans xA)).2.2.1, (tbox_cells (((bel hb7 h).block _ lA).trans xA)).2.2.2, (h.cell (p := ⟨lb, lo, none⟩) hlb).trans g0, (h.cell (p := ⟨lb, lo + 1, none⟩) hlb).trans g1, (h.cell (p := ⟨lb, lo + 2, none⟩) hlb).trans g2, (h.cell (p := ⟨lb, lo + 3, none⟩) hlb).trans g3, h⟩
            have hdr : Below W7.heap.size W7 W7.drew := (Below.refl W7.heap.size W7).drew
            have hbw7 := bel hbw hb7
            have HSm := Lib.hid (fun W (h : Below W7.heap.size W7 W) (u : Value) (hu : Has W u (T.ren T.vars)) => (same_at (T.ren T.vars) (T.ren T.vars) _ u W (hR'.below h) hu (by rw [(ren_size _ T).1]; omega) (by rw [(ren_size _ T).1]; omega)).mono (R' := Gets W (.bool true)) (fun e w' hg => ⟨by rw [hg.1]; simp, hg.2⟩))
            have HG := Lib.hid (And.intro g0 (And.intro g1 (And.intro g2 (And.intro g3 hR'))))
            clear g0 g1 g2 g3 hR hR' hel
            refine wp_region_noPanic ?_
            refine wp_region_last (S := (fun w' => w'.cell? ⟨w.heap.size, 0, none⟩ = some (.int .i64 k) ∧ w'.cell? ⟨w.heap.size, 1, none⟩ = some (.int .i64 n) ∧ w'.cell? ⟨w.heap.size, 2, none⟩ = some (.string s) ∧ w'.cell? ⟨w.heap.size, 3, none⟩ = some (.slice a l c) ∧ w'.cell? ⟨lb, lo, none⟩ = some (.int .i64 x0) ∧ w'.cell? ⟨lb, lo + 1, none⟩ = some (.int .i64 y0) ∧ w'.cell? ⟨lb, lo + 2, none⟩ = some (.string z0) ∧ w'.cell? ⟨lb, lo + 3, none⟩ = some (.slice u0 lu0 cu0) ∧ Below W7.heap.size W7 w')) 20 (by kernel_rfl) (by kernel_rfl) (HS _ hdr) (fun hHeld => ?_)
            simp only [List.take_succ_cons, List.take_zero]
            refine wpAnyH_take (i := 0) (v := ?vv0) rfl (by kernel_rfl) (by kernel_rfl) (by kernel_rfl) (fun _ _ _ h => h) (Or.inl ⟨by kernel_rfl, ?hy0⟩) hHeld ?rest0
            case hy0 =>
              intro w0 hSw
              (try dsimp only at hSw)
              go_simp
              try (with_reducible rfl)
            try simp only [Act.put, List.setIfInBounds_toArray, List.set_cons_zero, List.set_cons_succ]
            refine wpAnyH_take (i := 1) (v := ?vv1) rfl (by kernel_rfl) (by kernel_rfl) (by kernel_rfl) (fun _ _ _ h => h) (Or.inl ⟨by kernel_rfl, ?hy1⟩) hHeld ?rest1
            case hy1 =>
              intro w0 hSw
              (try dsimp only at hSw)
              go_simp
              try (with_reducible rfl)
            try simp only [Act.put, List.setIfInBounds_toArray, List.set_cons_zero, List.set_cons_succ]
            refine wpAnyH_take (i := 2) (v := ?vv2) rfl (by kernel_rfl) (by kernel_rfl) (by kernel_rfl) (fun _ _ _ h => h) (Or.inl ⟨by kernel_rfl, ?hy2⟩) hHeld ?rest2
            case hy2 =>
              intro w0 hSw
              (try dsimp only at hSw)
              go_simp
              try (with_reducible rfl)
            try simp only [Act.put, List.setIfInBounds_toArray, List.set_cons_zero, List.set_cons_succ]
            refine wpAnyH_take (i := 3) (v := ?vv3) rfl (by kernel_rfl) (by kernel_rfl) (by kernel_rfl) (fun _ _ _ h => h) (Or.inl ⟨by kernel_rfl, ?hy3⟩) hHeld ?rest3
            case hy3 =>
              intro w0 hSw
              (try dsimp only at hSw)
              go_simp
              try (with_reducible rfl)
            try simp only [Act.put, List.setIfInBounds_toArray, List.set_cons_zero, List.set_cons_succ]
            refine wpAnyH_take (i := 4) (v := ?vv4) rfl (by kernel_rfl) (by kernel_rfl) (by kernel_rfl) (fun _ _ _ h => h) (Or.inl ⟨by kernel_rfl, ?hy4⟩) hHeld ?rest4
            case hy4 =>
              intro w0 hSw
              (try dsimp only at hSw)
              go_simp
              try (with_reducible rfl)
            try simp only [Act.put, List.setIfInBounds_toArray, List.set_cons_zero, List.set_cons_succ]
            refine wpAnyH_take (i := 5) (v := ?vv5) rfl (by kernel_rfl) (by kernel_rfl) (by kernel_rfl) (fun _ _ _ h => h) (Or.inl ⟨by kernel_rfl, ?hy5⟩) hHeld ?rest5
            case hy5 =>
              intro w0 hSw
              (try dsimp only at hSw)
              go_simp
              try (with_reducible rfl)
            try simp only [Act.put, List.setIfInBounds_toArray, List.set_cons_zero, List.set_cons_succ]
            refine wpAnyH_take (i := 6) (v := ?vv6) rfl (by kernel_rfl) (by kernel_rfl) (by kernel_rfl) (fun _ _ _ h => h) (Or.inl ⟨by kernel_rfl, ?hy6⟩) hHeld ?rest6
            case hy6 =>
              intro w0 hSw
              (try dsimp only at hSw)
              go_simp
              try (with_reducible rfl)
            try simp only [Act.put, List.setIfInBounds_toArray, List.set_cons_zero, List.set_cons_succ]
            refine wpAnyH_take (i := 7) (v := ?vv7) rfl (by kernel_rfl) (by kernel_rfl) (by kernel_rfl) (fun _ _ _ h => h) (Or.inl ⟨by kernel_rfl, ?hy7⟩) hHeld ?rest7
            case hy7 =>
              intro w0 hSw
              (try dsimp only at hSw)
              go_simp
              try (with_reducible rfl)
            try simp only [Act.put, List.setIfInBounds_toArray, List.set_cons_zero, List.set_cons_succ]
            refine wpAnyH_take (i := 8) (v := ?vv8) rfl (by kernel_rfl) (by kernel_rfl) (by kernel_rfl) (fun _ _ _ h => h) (Or.inl ⟨by kernel_rfl, ?hy8⟩) hHeld ?rest8
            case hy8 =>
              intro w0 hSw
              (try dsimp only at hSw)
              go_simp
              try (with_reducible rfl)
            try simp only [Act.put, List.setIfInBounds_toArray, List.set_cons_zero, List.set_cons_succ]
            refine wpAnyH_take (i := 9) (v := ?vv9) rfl (by kernel_rfl) (by kernel_rfl) (by kernel_rfl) (fun _ _ _ h => h) (Or.inl ⟨by kernel_rfl, ?hy9⟩) hHeld ?rest9
            case hy9 =>
              intro w0 hSw
              (try dsimp only at hSw)
              go_simp
              try (with_reducible rfl)
            try simp only [Act.put, List.setIfInBounds_toArray, List.set_cons_zero, List.set_cons_succ]
            refine wpAnyH_take (i := 10) (v := ?vv10) rfl (by kernel_rfl) (by kernel_rfl) (by kernel_rfl) (fun _ _ _ h => h) (Or.inl ⟨by kernel_rfl, ?hy10⟩) hHeld ?rest10
            case hy10 =>
              intro w0 hSw
              (try dsimp only at hSw)
              go_simp
              try (with_reducible rfl)
            try simp only [Act.put, List.setIfInBounds_toArray, List.set_cons_zero, List.set_cons_succ]
            refine wpAnyH_take (i := 11) (v := ?vv11) rfl (by kernel_rfl) (by kernel_rfl) (by kernel_rfl) (fun _ _ _ h => h) (Or.inl ⟨by kernel_rfl, ?hy11⟩) hHeld ?rest11
            case hy11 =>
              intro w0 hSw
              (try dsimp only at hSw)
              go_simp
              try (with_reducible rfl)
            try simp only [Act.put, List.setIfInBounds_toArray, List.set_cons_zero, List.set_cons_succ]
            refine wpAnyH_take (i := 12) (v := ?vv12) rfl (by kernel_rfl) (by kernel_rfl) (by kernel_rfl) (fun _ _ _ h => h) (Or.inl ⟨by kernel_rfl, ?hy12⟩) hHeld ?rest12
            case hy12 =>
              intro w0 hSw
              (try dsimp only at hSw)
              go_simp
              try (with_reducible rfl)
            try simp only [Act.put, List.setIfInBounds_toArray, List.set_cons_zero, List.set_cons_succ]
            refine wpAnyH_take (i := 13) (v := ?vv13) rfl (by kernel_rfl) (by kernel_rfl) (by kernel_rfl) (fun _ _ _ h => h) (Or.inl ⟨by kernel_rfl, ?hy13⟩) hHeld ?rest13
            case hy13 =>
              intro w0 hSw
              (try dsimp only at hSw)
              go_simp
              try (with_reducible rfl)
            try simp only [Act.put, List.setIfInBounds_toArray, List.set_cons_zero, List.set_cons_succ]
            refine wpAnyH_take (i := 14) (v := ?vv14) rfl (by kernel_rfl) (by kernel_rfl) (by kernel_rfl) (fun _ _ _ h => h) (Or.inl ⟨by kernel_rfl, ?hy14⟩) hHeld ?rest14
            case hy14 =>
              intro w0 hSw
              (try dsimp only at hSw)
              go_simp
              try (with_reducible rfl)
            try simp only [Act.put, List.setIfInBounds_toArray, List.set_cons_zero, List.set_cons_succ]
            refine wpAnyH_take (i := 15) (v := ?vv15) rfl (by kernel_rfl) (by kernel_rfl) (by kernel_rfl) (fun _ _ _ h => h) (Or.inl ⟨by kernel_rfl, ?hy15⟩) hHeld ?rest15
            case hy15 =>
              intro w0 hSw
              (try dsimp only at hSw)
              go_simp
              try (with_reducible rfl)
            try simp only [Act.put, List.setIfInBounds_toArray, List.set_cons_zero, List.set_cons_succ]
            refine wpAnyH_ready (rs := [16]) (by kernel_rfl) (by simp) ?_
            refine AllReadyH.cons rfl (fun K hK => ?_) AllReadyH.nil
            go_simp
            with_reducible refine (HVR.out _ (bel hbw7 hdr)).mono ?_
            rintro e W8 ⟨r8, rfl, hI8, hb8'⟩
            have hb8 : Below W7.heap.size W7 W8 := bel hdr hb8'
            obtain ⟨ia, icap, rfl⟩ : ∃ ia icap, r8 = .slice ia T.vars.length icap := by obtain ⟨ia, icap, e, -⟩ := hI8; exact ⟨ia, icap, e⟩
            go_wp2_with fail
            refine hK.out _ _ (HS _ hb8) (fun hHeld2 => ?_)
            clear hK K
            try simp only [Act.put, List.setIfInBounds_toArray, List.set_cons_zero, List.set_cons_succ]
            refine wpAnyH_ready (rs := [17]) (by kernel_rfl) (by simp) ?_
            refine AllReadyH.cons rfl (fun K hK => ?_) AllReadyH.nil
            go_simp
            have hfi := lfirst_at T.vars ia icap (by omega) T _ W8 (hw0.out.1.below (bel hbw7 hb8)) (by omega) hI8
            with_reducible refine hfi.mono ?_
            rintro e W9 ⟨r9, rfl, hN9, hb9'⟩
            have hb9 : Below W7.heap.size W7 W9 := bel hb8 hb9'
            have hH9 : Has W9 r9 (T.ren T.vars) := by
              rw [← plc_ren T.vars T (fun x hx => by rw [vars_acc]; exact accT_mem [] T x hx)]
              exact hN9.carry (fun _ _ => rfl) (fun b hb => hb.2)
            obtain ⟨k9, n9, s9, a9, l9, c9, ks9, rfl, -⟩ := hH9.form
            go_wp2_with fail
            refine hK.out _ _ (HS _ hb9) (fun hHeld3 => ?_)
            clear hK K
            try simp only [Act.put, List.setIfInBounds_toArray, List.set_cons_zero, List.set_cons_succ]
            refine wpAnyH_ready (rs := [18]) (by kernel_rfl) (by simp) ?_
            refine AllReadyH.cons rfl (fun K hK => ?_) AllReadyH.nil
            go_simp
            with_reducible refine (HSm.out _ hb9 _ hH9).mono ?_
            rintro e W10 ⟨rfl, hb10'⟩
            have hb10 : Below W7.heap.size W7 W10 := bel hb9 hb10'
            go_wp2_with fail
            refine hK.out _ _ (HS _ hb10) (fun hHeld4 => ?_)
            clear hK K
            try simp only [Act.put, List.setIfInBounds_toArray, List.set_cons_zero, List.set_cons_succ]
            refine wpAnyH_take (i := 19) (v := ?vv19) rfl (by kernel_rfl) (by kernel_rfl) (by kernel_rfl) (fun _ _ _ h => h) (Or.inl ⟨by kernel_rfl, ?hy19⟩) hHeld4 ?rest19
            case hy19 =>
              intro w0 hSw
              (try dsimp only at hSw)
              go_simp
              try (with_reducible rfl)
            try simp only [Act.put, List.setIfInBounds_toArray, List.set_cons_zero, List.set_cons_succ]
            refine wpAnyH_done (by kernel_rfl) ?_ _
            refine last_of_list rfl ?_
            go_wp2_with fail
            refine NoPanic.normal ?_
            go_wp2_with fail
            go_ret
            exact ⟨rfl, bel hbw7 hb10⟩
          · have h4096 : (4096 : Int) < (T.txt.length : Int) + 2 := by omega
            clear hww hnum
            go_enter Tryz.func3, Tryz.ntmps3
            go_upto_region 1 with fail
            rw [← hw2]
            clear hw2
            have hb0 := Below.refl w2.heap.size w2
            go_wp2_with (first
              | (go_at_call 4; (with_reducible refine (HSH.out _ (bel hbw hb0)).mono ?_); rintro e W1 ⟨rfl, hb1'⟩; have hb1 := bel hb0 hb1'; obtain ⟨p0W1, p1W1, p2W1, p3W1⟩ := tbox_cells ((hb1.block _ lA).trans xA))
              | (go_at_call 5; (with_reducible refine (HF1.out _ (bel hbw hb1)).mono ?_); rintro e W2 ⟨rfl, hb2'⟩; have hb2 := bel hb1 hb2'; obtain ⟨p0W2, p1W2, p2W2, p3W2⟩ := tbox_cells ((hb2.block _ lA).trans xA))
              | (go_at_call 6; (with_reducible refine (HC1.out _ (bel hbw hb2)).mono ?_); rintro e W3 ⟨rfl, hb3'⟩; have hb3 := bel hb2 hb3'; obtain ⟨p0W3, p1W3, p2W3, p3W3⟩ := tbox_cells ((hb3.block _ lA).trans xA))
              | (go_at_call 7; (with_reducible refine (HD1.out _ (bel hbw hb3)).mono ?_); rintro e W4 ⟨rfl, hb4'⟩; have hb4 := bel hb3 hb4'; obtain ⟨p0W4, p1W4, p2W4, p3W4⟩ := tbox_cells ((hb4.block _ lA).trans xA))
              | (go_at_call 8; (with_reducible refine (HA1.out _ (bel hbw hb4)).mono ?_); rintro e W5 ⟨rfl, hb5'⟩; have hb5 := bel hb4 hb5'; obtain ⟨p0W5, p1W5, p2W5, p3W5⟩ := tbox_cells ((hb5.block _ lA).trans xA))
              | (go_at_call 9; (with_reducible refine (HX1.out _ (bel hbw hb5)).mono ?_); rintro e W6 ⟨rfl, hb6'⟩; have hb6 := bel hb5 hb6'; obtain ⟨p0W6, p1W6, p2W6, p3W6⟩ := tbox_cells ((hb6.block _ lA).trans xA)))
            go_ret
            exact ⟨rfl, bel hbw hb6⟩
        · have c5' : T.atb = true := by simpa using c5
          simp only [c5'] at ha1
          have HA1 := Lib.hid ha1
          clear ha1 hx1 hnum
          go_enter Tryz.func3, Tryz.ntmps3
          go_upto_region 1 with fail
          rw [← hw2]
          clear hw2
          have hb0 := Below.refl w2.heap.size w2
          go_wp2_with (first
            | (go_at_call 4; (with_reducible refine (HSH.out _ (bel hbw hb0)).mono ?_); rintro e W1 ⟨rfl, hb1'⟩; have hb1 := bel hb0 hb1'; obtain ⟨p0W1, p1W1, p2W1, p3W1⟩ := tbox_cells ((hb1.block _ lA).trans xA))
            | (go_at_call 5; (with_reducible refine (HF1.out _ (bel hbw hb1)).mono ?_); rintro e W2 ⟨rfl, hb2'⟩; have hb2 := bel hb1 hb2'; obtain ⟨p0W2, p1W2, p2W2, p3W2⟩ := tbox_cells ((hb2.block _ lA).trans xA))
            | (go_at_call 6; (with_reducible refine (HC1.out _ (bel hbw hb2)).mono ?_); rintro e W3 ⟨rfl, hb3'⟩; have hb3 := bel hb2 hb3'; obtain ⟨p0W3, p1W3, p2W3, p3W3⟩ := tbox_cells ((hb3.block _ lA).trans xA))
            | (go_at_call 7; (with_reducible refine (HD1.out _ (bel hbw hb3)).mono ?_); rintro e W4 ⟨rfl, hb4'⟩; have hb4 := bel hb3 hb4'; obtain ⟨p0W4, p1W4, p2W4, p3W4⟩ := tbox_cells ((hb4.block _ lA).trans xA))
            | (go_at_call 8; (with_reducible refine (HA1.out _ (bel hbw hb4)).mono ?_); rintro e W5 ⟨rfl, hb5'⟩; have hb5 := bel hb4 hb5'; obtain ⟨p0W5, p1W5, p2W5, p3W5⟩ := tbox_cells ((hb5.block _ lA).trans xA)))
          go_ret
          exact ⟨rfl, bel hbw hb5⟩
      · have h25 : ((25 : Int) < (T.deep : Int)) := by omega
        clear ha1 hx1 hnum
        go_enter Tryz.func3, Tryz.ntmps3
        go_upto_region 1 with fail
        rw [← hw2]
        clear hw2
        have hb0 := Below.refl w2.heap.size w2
        go_wp2_with (first
          | (go_at_call 4; (with_reducible refine (HSH.out _ (bel hbw hb0)).mono ?_); rintro e W1 ⟨rfl, hb1'⟩; have hb1 := bel hb0 hb1'; obtain ⟨p0W1, p1W1, p2W1, p3W1⟩ := tbox_cells ((hb1.block _ lA).trans xA))
          | (go_at_call 5; (with_reducible refine (HF1.out _ (bel hbw hb1)).mono ?_); rintro e W2 ⟨rfl, hb2'⟩; have hb2 := bel hb1 hb2'; obtain ⟨p0W2, p1W2, p2W2, p3W2⟩ := tbox_cells ((hb2.block _ lA).trans xA))
          | (go_at_call 6; (with_reducible refine (HC1.out _ (bel hbw hb2)).mono ?_); rintro e W3 ⟨rfl, hb3'⟩; have hb3 := bel hb2 hb3'; obtain ⟨p0W3, p1W3, p2W3, p3W3⟩ := tbox_cells ((hb3.block _ lA).trans xA))
          | (go_at_call 7; (with_reducible refine (HD1.out _ (bel hbw hb3)).mono ?_); rintro e W4 ⟨rfl, hb4'⟩; have hb4 := bel hb3 hb4'; obtain ⟨p0W4, p1W4, p2W4, p3W4⟩ := tbox_cells ((hb4.block _ lA).trans xA)))
        go_ret
        exact ⟨rfl, bel hbw hb4⟩
    · have hz : (T.check 16 == 0) = false := by simpa using c3
      have hzn : ¬ (T.check 16 = 0) := c3
      generalize T.check 16 = z at *
      have HC1 := Lib.hid hc1
      clear hc1 hd1 ha1 hx1 hnum
      go_enter Tryz.func3, Tryz.ntmps3
      go_upto_region 1 with fail
      rw [← hw2]
      clear hw2
      have hb0 := Below.refl w2.heap.size w2
      go_wp2_with (first
        | (go_at_call 4; (with_reducible refine (HSH.out _ (bel hbw hb0)).mono ?_); rintro e W1 ⟨rfl, hb1'⟩; have hb1 := bel hb0 hb1'; obtain ⟨p0W1, p1W1, p2W1, p3W1⟩ := tbox_cells ((hb1.block _ lA).trans xA))
        | (go_at_call 5; (with_reducible refine (HF1.out _ (bel hbw hb1)).mono ?_); rintro e W2 ⟨rfl, hb2'⟩; have hb2 := bel hb1 hb2'; obtain ⟨p0W2, p1W2, p2W2, p3W2⟩ := tbox_cells ((hb2.block _ lA).trans xA))
        | (go_at_call 6; (with_reducible refine (HC1.out _ (bel hbw hb2)).mono ?_); rintro e W3 ⟨rfl, hb3'⟩; have hb3 := bel hb2 hb3'; obtain ⟨p0W3, p1W3, p2W3, p3W3⟩ := tbox_cells ((hb3.block _ lA).trans xA)))
      go_ret
      exact ⟨rfl, bel hbw hb3⟩
  · simp only [decide_eq_false c1] at hf1
    have HF1 := Lib.hid hf1
    clear hf1 hc1 hd1 ha1 hx1 hnum
    go_enter Tryz.func3, Tryz.ntmps3
    go_upto_region 1 with fail
    rw [← hw2]
    clear hw2
    have hb0 := Below.refl w2.heap.size w2
    go_wp2_with (first
      | (go_at_call 4; (with_reducible refine (HSH.out _ (bel hbw hb0)).mono ?_); rintro e W1 ⟨rfl, hb1'⟩; have hb1 := bel hb0 hb1'; obtain ⟨p0W1, p1W1, p2W1, p3W1⟩ := tbox_cells ((hb1.block _ lA).trans xA))
      | (go_at_call 5; (with_reducible refine (HF1.out _ (bel hbw hb1)).mono ?_); rintro e W2 ⟨rfl, hb2'⟩; have hb2 := bel hb1 hb2'; obtain ⟨p0W2, p1W2, p2W2, p3W2⟩ := tbox_cells ((hb2.block _ lA).trans xA)))
    go_ret
    exact ⟨rfl, bel hbw hb2⟩
end Go.Proofs.YtfencolokfghfaaGreatDoor
namespace Go.Proofs.YtfencolokfghfaaGreatDoor
open Go.ChangeShapes Go.WideShapes Go.ChangeAt Go.RowKit Go.Deep
set_option linter.unusedVariables false
set_option maxRecDepth 100000

theorem laidOut : laidOutB Tryz.prog = true := by kernel_rfl

theorem cell_lt {w : World} {a : Addr} {v : Value} (h : w.cell? a = some v) : a.block < w.heap.size := by
  unfold World.cell? at h
  split at h
  · rename_i hb; exact (Array.getElem?_eq_some_iff.1 hb).1
  · cases h

theorem cells_term : Tryz.prog.cellsOf 24 = 4 := by kernel_rfl
theorem cells_int : Tryz.prog.cellsOf 3 = 1 := by kernel_rfl
theorem cells_int64 : Tryz.prog.cellsOf 2 = 1 := by kernel_rfl
theorem cells_string : Tryz.prog.cellsOf 9 = 1 := by kernel_rfl
theorem cells_terms : Tryz.prog.cellsOf 22 = 1 := by kernel_rfl

theorem i64ok_of {n : Int} (h : (Lit.int .i64 n).wf = true) : i64ok n := bounds_i64 h

theorem bulk_part {H : Type} {d : DataW H} : ∀ {l : List (DataW H)}, d ∈ l → Rows.uptoBulk d ≤ Rows.uptoBulkAll l
  | x :: r, h => by
    simp only [Rows.uptoBulkAll]
    cases List.mem_cons.1 h with
    | inl e => subst e; omega
    | inr e => have := bulk_part (l := r) e; omega

theorem byts_append : ∀ xs ys, Tm.byts (xs ++ ys) = Tm.byts xs + Tm.byts ys
  | [], ys => by rw [Tm.byts_nil]; simp
  | x :: xs, ys => by rw [List.cons_append, Tm.byts_cons, Tm.byts_cons, byts_append xs ys]; omega
theorem sizes_bulk {H : Type} (D : Nat → DataW H) (T : Nat → Tm) : ∀ (n : Nat), (∀ i, i < n → (T i).byt + (T i).size ≤ Rows.uptoBulk (D i)) → Tm.byts ((List.range n).map T) + Tm.sizes ((List.range n).map T) ≤ Rows.uptoBulkAll ((List.range n).map D)
  | 0, _ => by simp [Tm.sizes_nil, Tm.byts_nil]
  | n + 1, h => by
    have ih := sizes_bulk D T n fun i hi => h i (by omega)
    have hn := h n (by omega)
    have app : ∀ (l : List (DataW H)) (d : DataW H), Rows.uptoBulkAll (l ++ [d]) = Rows.uptoBulkAll l + Rows.uptoBulk d := by
      intro l d
      induction l with
      | nil => simp [Rows.uptoBulkAll]
      | cons x l ihl => simp only [List.cons_append, Rows.uptoBulkAll, ihl]; omega
    rw [List.range_succ, List.map_append, List.map_append, Tm.sizes_append, byts_append, List.map_singleton, List.map_singleton, app, Tm.sizes_cons, Tm.sizes_nil, Tm.byts_cons, Tm.byts_nil]
    omega

instance : Inhabited Tm := ⟨.mk 0 0 (ByteArray.mk #[]) []⟩

/-- A list of terms that came in, its elements being terms. -/
theorem open_list {H : Type} {enc : TypeId × Value → H} {w : World} {fuel : Nat} {cs : List Value} {x : DataW H × List MemPlace}
    (h : DataW.trod enc Tryz.prog w 0 (fun _ => true) true fuel 22 cs = some x)
    (each : ∀ fuel cs y, Rows.uptoBulk (H := H) y.1 < Rows.uptoBulk x.1 → DataW.trod enc Tryz.prog w 0 (fun _ => true) true fuel 24 cs = some y → ∃ (k n : Int) (s : ByteArray) (a : Option Addr) (len cap : Nat) (T : Tm), cs = [.int .i64 k, .int .i64 n, .string s, .slice a len cap] ∧
      TmIn (fun b => b < w.heap.size) w (.agg #[.int .i64 k, .int .i64 n, .string s, .slice a len cap]) T ∧ T.byt + T.size ≤ Rows.uptoBulk y.1) :
    ∃ a len cap ks, cs = [.slice a len cap] ∧ TsIn (fun b => b < w.heap.size) w (.slice a len cap) ks ∧ Tm.byts ks + Tm.sizes ks + 1 ≤ Rows.uptoBulk x.1 := by
  rcases open_slice Tryz.underlying22 h with ⟨rfl, rfl⟩ | ⟨b, len, cap, m, n, D, Pl, rfl, _, hl, hm, hmm, rfl, hx⟩
  · exact ⟨none, 0, 0, [], rfl, ⟨none, 0, rfl, Nat.le_refl _, Nat.zero_le _, fun _ => rfl, fun i hi => absurd hi (Nat.not_lt_zero _)⟩, by simp [Tm.sizes_nil, Tm.byts_nil, Rows.uptoBulk]⟩
  · simp only [if_true] at hmm
    subst hmm
    rw [cells_term] at hx
    have hb : ∀ i, i < len → Rows.uptoBulk (D i) ≤ Rows.uptoBulkAll ((List.range len).map D) := fun i hi => bulk_part (List.mem_map.2 ⟨i, List.mem_range.2 hi, rfl⟩)
    have each' : ∀ i, i < len → ∃ q : Int × Int × ByteArray × Option Addr × Nat × Nat × Tm, w.cell? (b.add (i * 4)) = some (.int .i64 q.1) ∧ w.cell? (b.add (i * 4 + 1)) = some (.int .i64 q.2.1) ∧ w.cell? (b.add (i * 4 + 2)) = some (.string q.2.2.1) ∧ w.cell? (b.add (i * 4 + 3)) = some (.slice q.2.2.2.1 q.2.2.2.2.1 q.2.2.2.2.2.1) ∧
        TmIn (fun b => b < w.heap.size) w (.agg #[.int .i64 q.1, .int .i64 q.2.1, .string q.2.2.1, .slice q.2.2.2.1 q.2.2.2.2.1 q.2.2.2.2.2.1]) q.2.2.2.2.2.2 ∧ q.2.2.2.2.2.2.byt + q.2.2.2.2.2.2.size ≤ Rows.uptoBulk (D i) := by
      intro i hi
      obtain ⟨cs', h1, h2⟩ := hx i (by omega)
      obtain ⟨k, n', s, a, l, c, T, rfl, hT, hsz⟩ := each n cs' _ (by have := hb i hi; simp only [Rows.uptoBulk]; omega) h2
      obtain ⟨_, hlen, hcell⟩ := World.cells?_some h1
      have c0 := hcell 0 (by omega)
      have c1 := hcell 1 (by omega)
      have c2 := hcell 2 (by omega)
      have c3 := hcell 3 (by omega)
      rw [add_add] at c0 c1 c2 c3
      exact ⟨(k, n', s, a, l, c, T), by simpa using c0, by simpa using c1, by simpa using c2, by simpa using c3, hT, hsz⟩
    obtain ⟨q, hq⟩ := choose_lt each'
    refine ⟨some b, len, m, (List.range len).map fun i => (q i).2.2.2.2.2.2, rfl, ⟨some b, m, by simp, by simpa using hl, hm, (fun h => by cases h), fun i hi => ?_⟩, ?_⟩
    · simp at hi
      obtain ⟨c0, c1, c2, c3, hT, _⟩ := hq i hi
      obtain ⟨bb, off, spot⟩ := b
      have hs : spot = none := by
        have := World.cell?_spot (hq 0 (by omega)).1
        simpa [Addr.add] using this
      subst hs
      have ea : ∀ k, (Addr.add ⟨bb, off, none⟩ k) = ⟨bb, off + k, none⟩ := fun k => by
        by_cases e : k = 0
        · subst e; simp [Addr.add]
        · simp [Addr.add, e]
      rw [ea] at c0 c1 c2 c3
      refine ⟨bb, off, (q i).1, (q i).2.1, (q i).2.2.1, (q i).2.2.2.1, (q i).2.2.2.2.1, (q i).2.2.2.2.2.1, rfl, cell_lt c0, by simpa using c0, by simpa [Nat.add_assoc] using c1, by simpa [Nat.add_assoc] using c2, by simpa [Nat.add_assoc] using c3, ?_⟩
      simpa using hT
    · have := sizes_bulk D (fun i => (q i).2.2.2.2.2.2) len fun i hi => (hq i hi).2.2.2.2.2
      simp only [Rows.uptoBulk]
      omega

/-- A term that came in. -/
theorem open_term {H : Type} {enc : TypeId × Value → H} {w : World} : ∀ (N fuel : Nat) (cs : List Value) (x : DataW H × List MemPlace), Rows.uptoBulk x.1 ≤ N →
    DataW.trod enc Tryz.prog w 0 (fun _ => true) true fuel 24 cs = some x → ∃ (k n : Int) (s : ByteArray) (a : Option Addr) (len cap : Nat) (T : Tm), cs = [.int .i64 k, .int .i64 n, .string s, .slice a len cap] ∧
      TmIn (fun b => b < w.heap.size) w (.agg #[.int .i64 k, .int .i64 n, .string s, .slice a len cap]) T ∧ T.byt + T.size ≤ Rows.uptoBulk x.1 ∧ T.name.size ≤ Rows.uptoBulk x.1 := by
  intro N
  induction N with
  | zero =>
    intro fuel cs x hN h
    obtain ⟨xs, n, _, rfl, _⟩ := DataW.trod_struct Tryz.underlying24 h
    simp only [Rows.uptoBulk] at hN
    omega
  | succ N ih =>
    intro fuel cs x hN h
    obtain ⟨xs, n, _, rfl, hl, hlen, hf⟩ := DataW.trod_struct Tryz.underlying24 h
    rw [cells_term] at hl
    match xs, hlen, cs, hl with
    | [y0, y1, y2, y3], _, [v0, v1, v2, v3], _ =>
      have g0 := hf 0 _ rfl
      have g1 := hf 1 _ rfl
      have g2 := hf 2 _ rfl
      have g3 := hf 3 _ rfl
      simp [cells_int, cells_int64, cells_string, cells_terms] at g0 g1 g2 g3
      obtain ⟨k, e0, hy0, w0⟩ := DataW.trod_int Tryz.underlying3 g0
      obtain ⟨n', e1, hy1, w1⟩ := DataW.trod_int Tryz.underlying2 g1
      obtain ⟨s, e2, hy2, w2⟩ := DataW.trod_string Tryz.underlying9 g2
      simp only [List.map_cons, List.map_nil, Rows.uptoBulk, Rows.uptoBulkAll] at hN ⊢
      obtain ⟨a, len, cap, ks, e3, hT, hsz⟩ := open_list g3 (fun fuel cs y hy ht => by obtain ⟨k, n, s, a, len, cap, T, e, h1, h2, _⟩ := ih fuel cs y (by omega) ht; exact ⟨k, n, s, a, len, cap, T, e, h1, h2⟩)
      simp at e0 e1 e2 e3
      subst e0 e1 e2 e3
      refine ⟨k, n', s, a, len, cap, .mk k n' s ks, rfl, hT.term (i64ok_of w0) (i64ok_of w1) w2, ?_, ?_⟩
      · have e : (y2.1 : DataW H) = .lit (.string s.data.toList) := by rw [hy2]
        have e2 : s.data.toList.length = s.size := by rw [Array.length_toList]; rfl
        rw [Tm.size_mk, Tm.byt_mk, e]
        simp only [Rows.uptoBulk]
        omega
      · have e : (y2.1 : DataW H) = .lit (.string s.data.toList) := by rw [hy2]
        have e2 : s.data.toList.length = s.size := by rw [Array.length_toList]; rfl
        show s.size ≤ _
        rw [e]
        simp only [Rows.uptoBulk]
        omega

theorem open_arg {H : Type} {enc : TypeId × Value → H} {w : World} {v : Value} {d : DataW H} {p : List MemPlace} (h : DataW.Trod enc Tryz.prog w 0 (fun _ => true) true 24 v d p) :
    ∃ T, Has w v T ∧ T.byt + T.size ≤ Rows.uptoBulk d ∧ T.name.size ≤ Rows.uptoBulk d := by
  obtain ⟨fuel, hf⟩ := h
  obtain ⟨k, n, s, a, len, cap, T, e, hT, hs⟩ := open_term _ fuel _ _ (Nat.le_refl _) hf
  cases v with
  | agg cs =>
    have : cs = #[.int .i64 k, .int .i64 n, .string s, .slice a len cap] := by
      cases cs; simpa [Value.cells] using e
    subst this
    exact ⟨T, hT, hs⟩
  | _ => simp [Value.cells] at e

theorem open_args {H : Type} {enc : TypeId × Value → H} {w : World} {a : Option Addr} {len cap : Nat} {d : DataW H} {p : List MemPlace} (h : DataW.Trod enc Tryz.prog w 0 (fun _ => true) true 22 (.slice a len cap) d p) :
    ∃ ks, TsIn (fun b => b < w.heap.size) w (.slice a len cap) ks ∧ Tm.byts ks + Tm.sizes ks ≤ Rows.uptoBulk d := by
  obtain ⟨fuel, hf⟩ := h
  obtain ⟨a', len', cap', ks, e, hT, hs⟩ := open_list hf (fun fuel cs y _ ht => by obtain ⟨k, n, s, a, len, cap, T, e, h1, h2, _⟩ := open_term _ fuel cs y (Nat.le_refl _) ht; exact ⟨k, n, s, a, len, cap, T, e, h1, h2⟩)
  simp [Value.cells] at e
  obtain ⟨rfl, rfl, rfl⟩ := e
  have hs' : Tm.byts ks + Tm.sizes ks + 1 ≤ Rows.uptoBulk d := hs
  exact ⟨ks, hT, by omega⟩

end Go.Proofs.YtfencolokfghfaaGreatDoor
namespace Go.Proofs.YtfencolokfghfaaGreatDoor.writerBackRow
open Go.ChangeShapes Go.WideShapes Go.ChangeAt Go.RowKit
open Go.ChangeMaps (open_string shut_string)
set_option linter.unusedVariables false
set_option linter.unusedSimpArgs false
set_option maxRecDepth 100000

theorem reads (os : Os) {H : Type} (enc : TypeId × Value → H) : ∃ places, DataW.whole enc Tryz.prog ((World.doorLaid Tryz.prog 100 os).forCall (fun _ _ => 0) ⟨#[], #[.agg #[.int .i64 0, .int .i64 0, .string ⟨#[]⟩, .slice none 0 0]], []⟩).memory Tryz.f3.params.toList Rows.writerBackSpec.vars false (#[.agg #[.int .i64 0, .int .i64 0, .string ⟨#[]⟩, .slice none 0 0]] : Array Value).toList 8 = some ([.agg [.lit (.int .i64 0), .lit (.int .i64 0), .lit (.string []), .nil]], [], places) :=
  ⟨[], by kernel_rfl⟩

theorem lifted (os : Os) (started : os.Started) (H : Type) (enc : TypeId × Value → H) (F : Stop.Interp) :
    ReturnsInHanded {} Tryz.checked os 3 .any ((Rows.OpenSpec.upto Rows.writerBackSpec).preRow enc Tryz.prog Tryz.f3 Rows.writerBackUptoRow.domain false Rows.writerBackUptoRow.laid) (((Rows.OpenSpec.upto Rows.writerBackSpec).at F).post enc Tryz.prog Tryz.f3 false true false false) := by
  obtain ⟨places, hx⟩ := reads os enc
  refine returnsInHanded_of_row (C := Tryz.checked) (s := (Rows.OpenSpec.upto Rows.writerBackSpec)) own started (by kernel_rfl) Tryz.func3
    (witness_row_atRef (enc := enc) (C := Tryz.checked) false (World.doorLaid Tryz.prog 100 os) #[.agg #[.int .i64 0, .int .i64 0, .string ⟨#[]⟩, .slice none 0 0]] rfl (by kernel_rfl) (by kernel_rfl) (by kernel_rfl)
      (OpenSpec.preRow_of_cond 8 hx (by kernel_rfl) (fun k hk => by cases hk; kernel_rfl) (by kernel_rfl) (door_met7 os _))) ?_
  intro W base args ds gs before hval hW _ hcond _ hL _ _
  have hW' := hW
  obtain ⟨p, q, hA0, hV, rfl, hfz, hnd⟩ := hW
  have hA : DataW.TrodAll enc Tryz.prog W 0 (fun _ => true) true Tryz.f3.params.toList args.toList ds p := hA0
  have hval' : ∀ (j : Nat) t v, Tryz.f3.params[j]? = some t → args[j]? = some v → Value.okWide Tryz.prog W .any base t v := hval
  rw [Tryz.params3] at hA hval'
  obtain ⟨v0, vs0, d0, ds0, p0, q0, hargs, rfl, rfl, h0, r0⟩ := trodAll_cons hA
  obtain ⟨rfl, rfl, rfl⟩ := trodAll_nil r0
  obtain rfl : args = #[v0] := by cases args; simp_all
  obtain ⟨rfl, rfl⟩ := trodVars_none hV
  have k0 := h0
  have lt0 : ∀ x ∈ p0, x.block < W.heap.size := by obtain ⟨m, hm⟩ := k0; exact DataW.trod_lt m _ _ _ hm
  obtain ⟨T0, t0, z0, m0⟩ := open_arg h0
  have hk := hcond _ rfl
  have hb0 : T0.byt + T0.size ≤ 1048576 := by
    have h := of_decide_eq_true hk
    simp only [Rows.uptoBulkAll, Rows.uptoBulk, List.append_nil] at h
    omega
  clear hA0 hval
  simp only [List.append_nil] at hW'
  refine (back_at T0 v0 W t0 hb0 (laid_of7 hL).1.1 (laid_of7 hL).1 (laid_of7 hL).2.1 (laid_of7 hL).2.2).mono fun e W' ⟨he, bel⟩ => ?_
  subst he
  exact ⟨_, rfl, _, _, _, [], _, [], hW', trodAll_mk1 (shut_bool Tryz.underlying4 _), (trodAll_cons_mk (Below.trod laidOut (by kernel_rfl) (of_decide_eq_true (by kernel_rfl)) k0 bel lt0) trodAll_mk0), rfl, bel.frame _, fun h => by cases h⟩
end Go.Proofs.YtfencolokfghfaaGreatDoor.writerBackRow
namespace Go.Proofs.YtfencolokfghfaaGreatDoor
open Go.ChangeShapes Go.WideShapes Go.ChangeAt Go.RowKit
open Go.ChangeMaps (open_string shut_string)
set_option linter.unusedVariables false
set_option linter.unusedSimpArgs false
set_option maxRecDepth 100000

theorem writerBackUpto_said : Rows.WriterBackUptoSaid :=
  OpenClaim.holds_of_cond 3 Tryz.f3 rfl rfl rfl rfl rfl rfl rfl ⟨rfl, rfl, rfl, rfl, rfl⟩ rfl rfl rfl rfl rfl (by kernel_rfl) Tryz.func3 (by kernel_rfl)
    (of_decide_eq_true (by kernel_rfl)) (by unfold Func.isWrapper; first | (rw [if_pos (by decide +kernel)]; kernel_rfl) | (rw [if_neg (by decide +kernel)]; exact ⟨rfl, rfl⟩))
    (fun os started H enc _ F => by rw [OpenClaim.pre_eq_preRow]; exact writerBackRow.lifted os started H enc F)
theorem writerBack_plain (f : FuncId) (fn : Func) (hf : Tryz.pinned.checked.prog.funcNamed "torchere/torcherelaw08.WriterBack" = some f) (hfn : Tryz.pinned.checked.prog.funcs[f]? = some fn) :
    true = Tryz.pinned.checked.prog.looks [] ∧ ∀ (j : Nat) t, fn.params[j]? = some t → Tryz.pinned.checked.prog.wantsStandIn t = false := by
  obtain rfl : f = 3 := Option.some.inj ((show Tryz.prog.funcNamed "torchere/torcherelaw08.WriterBack" = some 3 by kernel_rfl).symm.trans hf) |>.symm
  obtain rfl : fn = Tryz.f3 := (Option.some.inj (Tryz.func3.symm.trans hfn)).symm
  refine ⟨by kernel_rfl, fun j t ht => ?_⟩
  rw [Tryz.params3] at ht
  obtain rfl : t = 24 := by
    have := Array.mem_of_getElem? ht
    simpa using this
  exact (show Tryz.prog.wantsStandIn 24 = false by kernel_rfl)
theorem writerBackUpto_card : Rows.WriterBackUptoCardSaid :=
  Claim7.holds_tied_plain_at .later [] _ _ _ _ writerBackUpto_said (fun _ h => by cases h) (by kernel_rfl) (fun _ h => by cases h) writerBackUpto_row_tie rfl ⟨rfl, rfl⟩ (by kernel_rfl) rfl writerBack_plain (by kernel_rfl)
#print axioms writerBackUpto_card
end Go.Proofs.YtfencolokfghfaaGreatDoor
