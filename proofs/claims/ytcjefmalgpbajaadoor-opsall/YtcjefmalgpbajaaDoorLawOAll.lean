/-
  The walk of OpsAll.
-/
import Derived.Test.YtcjefmalgpbajaaDoorLawOReads
namespace Go.Proofs.YtcjefmalgpbajaaDoor
open Go.RowKit Go.Lib
set_option linter.unusedVariables false

theorem apart : ∀ j, j < 26 → ∀ m, m < 26 → j ≠ m → (rowAt j).nm = (rowAt m).nm → (rowAt j).ty.length ≠ (rowAt m).ty.length := by decide +kernel
theorem let3 : ∀ j, j < 26 → (rowAt j).ty.length = 3 → (grt j 0 == priN j) = ((((tyC j 0).toNat : Int)) == 121) ∧ (grt j 2 == priN j) = ((((tyC j 2).toNat : Int)) == 121) ∧ priN j - 1 ≤ grt j 0 ∧ priN j - 1 ≤ grt j 2 := by decide +kernel
theorem let2 : ∀ j, j < 26 → ¬ (rowAt j).ty.length = 3 → (grt j 1 == priN j) = decide ((rowAt j).ty = [102, 121]) ∧ priN j - 1 ≤ grt j 1 := by decide +kernel
theorem ty_list (j : Nat) : (tyN j).data.toList = (rowAt j).ty := by simp [tyN]

theorem op_drewN {w W : World} {m : Nat} (h : Below m w W) (q : Nat) : Below m w (W.drewN q) := ⟨h.os, h.tape, h.output, h.size, h.block⟩
set_option maxRecDepth 100000 in
set_option maxHeartbeats 8000000 in
theorem opsAll_at (i k : Int) (hi : 0 ≤ i ∧ i ≤ 255) (hk : 0 ≤ k ∧ k ≤ 255) (w : World) (T : Tab w) : Calls Tryd.prog 4 #[.int .u8 i, .int .u8 k] w (Gives w (.bool true)) := by
  obtain ⟨n, rfl⟩ : ∃ n : Nat, i = n := ⟨i.toNat, by omega⟩
  obtain ⟨n', rfl⟩ : ∃ n : Nat, k = n := ⟨k.toNat, by omega⟩
  obtain ⟨j, hj⟩ : ∃ j, j = n % 26 := ⟨_, rfl⟩
  obtain ⟨m, hm⟩ : ∃ m, m = n' % 26 := ⟨_, rfl⟩
  have hj26 : j < 26 := by omega
  have hm26 : m < 26 := by omega
  have hS := shown_at w T
  have hA := fun W hb => all_rows W (T.later hb)
  have hN := names_at
  have hI := fun W hb => infix_at (nmN j) _ (nm_list j) W (T.later hb)
  have hP := fun W hb => prefix_at (nmN j) _ (nm_list j) W (T.later hb)
  have tr : ∀ {a b : World}, Below w.heap.size w a → Below a.heap.size a b → Below w.heap.size w b := fun h k => h.trans (k.mono h.size)
  have HJ := Lib.hid hj
  have HM := Lib.hid hm
  have hp := pri_le hj26
  have hts := ty_size j
  have htm := ty_size m
  have hnb := op_beq (nmN j) (nmN m)
  rw [nm_list, nm_list] at hnb
  have hself : ((nmN j).toList == (nmN j).toList) = true := by simp
  have hsz2 : ∀ {p}, p < (tyN j).size → (tyN j)[p]! = tyC j p := fun {p} h => by rw [getElem!_pos (tyN j) p h, ty_get h]
  have split : ∀ {R : Prop}, (((n : Int) % 26 == (n' : Int) % 26) = true → (n : Int) % 26 = (n' : Int) % 26 → R) → (((n : Int) % 26 == (n' : Int) % 26) = false → ¬ (n : Int) % 26 = (n' : Int) % 26 → ((nmN j).toList == (nmN m).toList) = false → R) → (((n : Int) % 26 == (n' : Int) % 26) = false → ¬ (n : Int) % 26 = (n' : Int) % 26 → ((nmN j).toList == (nmN m).toList) = true → (rowAt j).ty.length ≠ (rowAt m).ty.length → R) → R := fun {R} h1 h2 h3 => by
    by_cases e : (n : Int) % 26 = (n' : Int) % 26
    · exact h1 (by simpa using e) e
    · have hjm : j ≠ m := by omega
      by_cases en : (rowAt j).nm = (rowAt m).nm
      · exact h3 (by simpa using e) e (by rw [hnb]; simpa using en) (apart j hj26 m hm26 hjm en)
      · exact h2 (by simpa using e) e (by rw [hnb]; simpa using en)
  clear hnb hj hm T
  have ez : (rowAt j).ty.length ≠ (rowAt m).ty.length → (((tyN j).size : Int) == ((tyN m).size : Int)) = false := fun h => by
    simp only [beq_eq_false_iff_ne, ne_eq]; omega
  by_cases h3 : (rowAt j).ty.length = 3
  · obtain ⟨l0, l2, l4, l5⟩ := let3 j hj26 h3
    obtain ⟨q0, q1, -, -, q4, q5⟩ := room3 j hj26 h3
    rw [inf_own hj26 h3] at hI
    rw [h3] at hts
    rw [hts] at ez
    have g0 : ∀ h : 0 < (tyN j).size, (tyN j)[0] = tyC j 0 := fun h => ty_get h
    have g2 : ∀ h : 2 < (tyN j).size, (tyN j)[2] = tyC j 2 := fun h => ty_get h
    generalize preR (rowAt j).nm = rp at hP
    generalize grt j 0 = x at *
    generalize grt j 2 = y at *
    generalize tyC j 0 = t0 at *
    generalize tyC j 2 = t2 at *
    refine split (fun e e' => ?_) (fun e e' en => ?_) (fun e e' en el => ?_)
    all_goals
      clear split
      have E := Lib.hid e
      clear e e'
      rcases rp with _ | ⟨u, v⟩ <;> dsimp only [preV] at hP
    all_goals
      go_enter Tryd.func4, Tryd.ntmps4
      go_wp2_with (first
        | (go_at_call 14; refine (hN _).mono ?_; rintro e w3 ⟨h, rfl, hlt3, hnm, hb3⟩; have b3 := tr b2 hb3; have R3 := R.later hb3; have c0 : w3.cell? ⟨g, n % 26 * 3, none⟩ = some (.int .i64 (priN j)) := (by rw [← HJ.out]; exact (R3.row j hj26).1); have c1 : w3.cell? ⟨g, n % 26 * 3 + 1, none⟩ = some (.string (tyN j)) := (by rw [← HJ.out]; exact (R3.row j hj26).2.1); have c2 : w3.cell? ⟨g, n % 26 * 3 + 2, none⟩ = some (.string (nmN j)) := (by rw [← HJ.out]; exact (R3.row j hj26).2.2); have R4 := R3.later ((Below.refl _ w3).alloc (Nat.le_refl _) (.cells #[.int .i64 (priN j), .string (tyN j), .string (nmN j)] 33)); have d0 : (w3.alloc (.cells #[.int .i64 (priN j), .string (tyN j), .string (nmN j)] 33)).cell? ⟨g, n' % 26 * 3, none⟩ = some (.int .i64 (priN m)) := (by rw [← HM.out]; exact (R4.row m hm26).1); have d1 : (w3.alloc (.cells #[.int .i64 (priN j), .string (tyN j), .string (nmN j)] 33)).cell? ⟨g, n' % 26 * 3 + 1, none⟩ = some (.string (tyN m)) := (by rw [← HM.out]; exact (R4.row m hm26).2.1); have d2 : (w3.alloc (.cells #[.int .i64 (priN j), .string (tyN j), .string (nmN j)] 33)).cell? ⟨g, n' % 26 * 3 + 2, none⟩ = some (.string (nmN m)) := (by rw [← HM.out]; exact (R4.row m hm26).2.2); have HNM := Lib.hid hnm; have HLT := Lib.hid hlt3; clear R R3 R4 hnm hlt3)
        | (go_at_call 13; refine (hA _ b1).mono ?_; rintro e w2 ⟨g, cap, rfl, hcap, R, hb2⟩; have b2 := tr b1 hb2)
        | (go_at_call 8; refine hS.mono ?_; rintro e w1 ⟨rfl, b1⟩))
      obtain ⟨W, hW⟩ : ∃ W, W = ((w3.alloc (.cells #[.int .i64 (priN j), .string (tyN j), .string (nmN j)] 33)).alloc (.cells #[.int .i64 (priN m), .string (tyN m), .string (nmN m)] 33)) := ⟨_, rfl⟩
      rw [← hW]
      have bW : Below w3.heap.size w3 W := by rw [hW]; exact ((Below.refl _ w3).alloc (Nat.le_refl _) _).alloc (by simp) _
      have xa : W.heap[w3.heap.size]? = some (.cells #[.int .i64 (priN j), .string (tyN j), .string (nmN j)] 33 (0, 0)) := by rw [hW]; exact (Below.heap_alloc _ _ _ (by simp)).trans (op_alloc_new _ _)
      have xb : W.heap[w3.heap.size + 1]? = some (.cells #[.int .i64 (priN m), .string (tyN m), .string (nmN m)] 33 (0, 0)) := by rw [hW]; simpa using op_alloc_new (w3.alloc (.cells #[.int .i64 (priN j), .string (tyN j), .string (nmN j)] 33)) (.cells #[.int .i64 (priN m), .string (tyN m), .string (nmN m)] 33)
      obtain ⟨a0, a1, a2, -⟩ := box3 xa
      obtain ⟨f0, f1, f2, -⟩ := box3 xb
      have nn : W.cell? ⟨h, j, none⟩ = some (.string (nmN j)) := by exact (bW.cell (p := ⟨h, j, none⟩) HLT.out).trans (HNM.out j hj26)
      have bWw := tr b3 bW
      have ltA : w3.heap.size < W.heap.size := (Array.getElem?_eq_some_iff.1 xa).1
      have HX := Lib.hid (And.intro xa (And.intro bWw ltA))
      clear hW bW xa xb HNM HLT bWw ltA c0 c1 c2 d0 d1 d2 hS hA hN
      have e := E.out
      have u1 : IntKind.i64.wrap (n : Int) = n := by rw [IntKind.wrap_i64]; omega
      have u2 : IntKind.i64.wrap (n' : Int) = n' := by rw [IntKind.wrap_i64]; omega
      have u3 : (n : Int).tmod 26 = (j : Int) := by rw [HJ.out, Int.tmod_eq_emod_of_nonneg (by omega)]; omega
      have u4 : (n' : Int).tmod 26 = (m : Int) := by rw [HM.out, Int.tmod_eq_emod_of_nonneg (by omega)]; omega
      have u5 : ((j : Int) == (m : Int)) = ((n : Int) % 26 == (n' : Int) % 26) := by rw [HJ.out, HM.out]; simp
      rw [e] at u5
      have u6 : (j : Int) < 26 := by omega
      have u7 : ((j : Int) != (m : Int)) = _ := congrArg Bool.not u5
      simp only [Bool.not_true, Bool.not_false] at u7
      have u8 : decide (priN j < 1) = false := by simp; omega
      have u9 : decide (1200 < priN j) = false := by simp; omega
      clear E
      first | (have ez := ez el; clear el) | clear ez
      try simp only [Nat.cast_ofNat] at ez
      go_quiet (fail)
      obtain ⟨xa, bWw, ltA⟩ := HX.out
      clear HX
      go_wp2_with (first
        | (go_at_call 11; refine (hP _ b5).mono ?_; rintro e w6 ⟨rfl, hb6⟩; have b6 := tr b5 hb6; have y6 := (hb6.block _ (Nat.lt_of_lt_of_le ltA hb5.size)).trans y5; obtain ⟨p0, p1, p2, -⟩ := box3 y6)
        | (go_at_call 9; refine (hI _ (op_drewN bWw _)).mono ?_; rintro e w5 ⟨rfl, hb5⟩; have b5 := tr (op_drewN bWw _) hb5; have y5 := (hb5.block _ ltA).trans xa; obtain ⟨x0, x1, x2, -⟩ := box3 y5))
      go_ret
      exact ⟨rfl, b6⟩
  · obtain ⟨l0, l4⟩ := let2 j hj26 h3
    have q0 := room2 j hj26 h3
    rw [pre_own hj26 h3] at hP
    rw [(len2 j hj26 h3).1] at hts
    rw [hts] at ez
    have hty := str_beq (ty_list j) [102, 121]
    rw [← l0] at hty
    generalize infR (rowAt j).nm = rp at hI
    generalize grt j 1 = x at *
    refine split (fun e e' => ?_) (fun e e' en => ?_) (fun e e' en el => ?_)
    all_goals
      clear split
      have E := Lib.hid e
      clear e e'
      rcases rp with _ | ⟨u, v, z⟩ <;> dsimp only [infV] at hI
    all_goals
      go_enter Tryd.func4, Tryd.ntmps4
      go_wp2_with (first
        | (go_at_call 14; refine (hN _).mono ?_; rintro e w3 ⟨h, rfl, hlt3, hnm, hb3⟩; have b3 := tr b2 hb3; have R3 := R.later hb3; have c0 : w3.cell? ⟨g, n % 26 * 3, none⟩ = some (.int .i64 (priN j)) := (by rw [← HJ.out]; exact (R3.row j hj26).1); have c1 : w3.cell? ⟨g, n % 26 * 3 + 1, none⟩ = some (.string (tyN j)) := (by rw [← HJ.out]; exact (R3.row j hj26).2.1); have c2 : w3.cell? ⟨g, n % 26 * 3 + 2, none⟩ = some (.string (nmN j)) := (by rw [← HJ.out]; exact (R3.row j hj26).2.2); have R4 := R3.later ((Below.refl _ w3).alloc (Nat.le_refl _) (.cells #[.int .i64 (priN j), .string (tyN j), .string (nmN j)] 33)); have d0 : (w3.alloc (.cells #[.int .i64 (priN j), .string (tyN j), .string (nmN j)] 33)).cell? ⟨g, n' % 26 * 3, none⟩ = some (.int .i64 (priN m)) := (by rw [← HM.out]; exact (R4.row m hm26).1); have d1 : (w3.alloc (.cells #[.int .i64 (priN j), .string (tyN j), .string (nmN j)] 33)).cell? ⟨g, n' % 26 * 3 + 1, none⟩ = some (.string (tyN m)) := (by rw [← HM.out]; exact (R4.row m hm26).2.1); have d2 : (w3.alloc (.cells #[.int .i64 (priN j), .string (tyN j), .string (nmN j)] 33)).cell? ⟨g, n' % 26 * 3 + 2, none⟩ = some (.string (nmN m)) := (by rw [← HM.out]; exact (R4.row m hm26).2.2); have HNM := Lib.hid hnm; have HLT := Lib.hid hlt3; clear R R3 R4 hnm hlt3)
        | (go_at_call 13; refine (hA _ b1).mono ?_; rintro e w2 ⟨g, cap, rfl, hcap, R, hb2⟩; have b2 := tr b1 hb2)
        | (go_at_call 8; refine hS.mono ?_; rintro e w1 ⟨rfl, b1⟩))
      obtain ⟨W, hW⟩ : ∃ W, W = ((w3.alloc (.cells #[.int .i64 (priN j), .string (tyN j), .string (nmN j)] 33)).alloc (.cells #[.int .i64 (priN m), .string (tyN m), .string (nmN m)] 33)) := ⟨_, rfl⟩
      rw [← hW]
      have bW : Below w3.heap.size w3 W := by rw [hW]; exact ((Below.refl _ w3).alloc (Nat.le_refl _) _).alloc (by simp) _
      have xa : W.heap[w3.heap.size]? = some (.cells #[.int .i64 (priN j), .string (tyN j), .string (nmN j)] 33 (0, 0)) := by rw [hW]; exact (Below.heap_alloc _ _ _ (by simp)).trans (op_alloc_new _ _)
      have xb : W.heap[w3.heap.size + 1]? = some (.cells #[.int .i64 (priN m), .string (tyN m), .string (nmN m)] 33 (0, 0)) := by rw [hW]; simpa using op_alloc_new (w3.alloc (.cells #[.int .i64 (priN j), .string (tyN j), .string (nmN j)] 33)) (.cells #[.int .i64 (priN m), .string (tyN m), .string (nmN m)] 33)
      obtain ⟨a0, a1, a2, -⟩ := box3 xa
      obtain ⟨f0, f1, f2, -⟩ := box3 xb
      have nn : W.cell? ⟨h, j, none⟩ = some (.string (nmN j)) := by exact (bW.cell (p := ⟨h, j, none⟩) HLT.out).trans (HNM.out j hj26)
      have bWw := tr b3 bW
      have ltA : w3.heap.size < W.heap.size := (Array.getElem?_eq_some_iff.1 xa).1
      have HX := Lib.hid (And.intro xa (And.intro bWw ltA))
      clear hW bW xa xb HNM HLT bWw ltA c0 c1 c2 d0 d1 d2 hS hA hN
      have e := E.out
      have u1 : IntKind.i64.wrap (n : Int) = n := by rw [IntKind.wrap_i64]; omega
      have u2 : IntKind.i64.wrap (n' : Int) = n' := by rw [IntKind.wrap_i64]; omega
      have u3 : (n : Int).tmod 26 = (j : Int) := by rw [HJ.out, Int.tmod_eq_emod_of_nonneg (by omega)]; omega
      have u4 : (n' : Int).tmod 26 = (m : Int) := by rw [HM.out, Int.tmod_eq_emod_of_nonneg (by omega)]; omega
      have u5 : ((j : Int) == (m : Int)) = ((n : Int) % 26 == (n' : Int) % 26) := by rw [HJ.out, HM.out]; simp
      rw [e] at u5
      have u6 : (j : Int) < 26 := by omega
      have u7 : ((j : Int) != (m : Int)) = _ := congrArg Bool.not u5
      simp only [Bool.not_true, Bool.not_false] at u7
      have u8 : decide (priN j < 1) = false := by simp; omega
      have u9 : decide (1200 < priN j) = false := by simp; omega
      clear E
      first | (have ez := ez el; clear el) | clear ez
      try simp only [Nat.cast_ofNat] at ez
      go_quiet (fail)
      obtain ⟨xa, bWw, ltA⟩ := HX.out
      clear HX
      go_wp2_with (first
        | (go_at_call 11; refine (hP _ b5).mono ?_; rintro e w6 ⟨rfl, hb6⟩; have b6 := tr b5 hb6; have y6 := (hb6.block _ (Nat.lt_of_lt_of_le ltA hb5.size)).trans y5; obtain ⟨p0, p1, p2, -⟩ := box3 y6)
        | (go_at_call 9; refine (hI _ (op_drewN bWw _)).mono ?_; rintro e w5 ⟨rfl, hb5⟩; have b5 := tr (op_drewN bWw _) hb5; have y5 := (hb5.block _ ltA).trans xa; obtain ⟨x0, x1, x2, -⟩ := box3 y5))
      go_ret
      exact ⟨rfl, b6⟩
end Go.Proofs.YtcjefmalgpbajaaDoor
