/-
  named, whole; primary.
-/
import Derived.Test.YtfencolokfghfaaGreatDoorReadK
import Derived.Test.YtfencolokfghfaaGreatDoorReadL
import Derived.Test.YtfencolokfghfaaGreatDoorReadM
import Derived.Test.YtfencolokfghfaaGreatDoorReadD
namespace Go.Proofs.YtfencolokfghfaaGreatDoor
open Go.RowKit Go.Maps
set_option linter.unusedVariables false
set_option linter.unusedSectionVars false

theorem funG_ok {lv : Int} {nm : List UInt8} {ks : List Tm} {i i' : Nat} {ns ns' : Nms} {T : Tm} (h : funG lv nm ks i ns = .ok T i' ns') : i' = i ∧ ns' = ns := by
  unfold funG at h
  split at h
  · split at h
    · split at h
      · cases h
      · cases h; exact ⟨rfl, rfl⟩
    · cases h; exact ⟨rfl, rfl⟩
  · cases h; exact ⟨rfl, rfl⟩
theorem funG_one (lv : Int) (nm : List UInt8) (t : Tm) (i : Nat) (ns : Nms) : funG lv nm [t] i ns = .ok (.mk 3 0 (strV nm) [t]) i ns := rfl
section
variable (c : Cx) (hc : c.Ok) {W : World} {na : Option Addr} {nc i d : Nat} {ns : Nms} (h : PAt c W na nc i d ns) {r : Rdr}
include hc h
theorem named_at (hr : RAt c d r) (h7 : Reads7 c.L r) (most : Nat) (hk : (ahd c.L i).kind = 1) : Calls Tryz.prog 104 #[.pointer (some ⟨c.b, 0, none⟩), .int .i64 most] W (NPost c W na d (namedG c.L c.lv r most i ns)) := by
  unfold namedG
  by_cases hA : (ahd c.L (i + 1)).tight = true ∧ isP (ahd c.L (i + 1)) [40] = true
  · rw [if_pos hA]
    obtain ⟨hti, hp⟩ := hA
    cases ha : argsG c.L r (i + 2) ns with
    | bad i' code => exact named_call_bad1 c hc h most hk hti hp hr h7 ha
    | ok ts i1 ns1 =>
      dsimp only [Out.bind]
      unfold needG
      cases hq : isP (ahd c.L i1) [41] with
      | false => rw [if_neg (by decide)]; exact named_call_bad2 c hc h most hk hti hp hr h7 ha hq
      | true =>
        rw [if_pos rfl]
        dsimp only
        cases hF : funG c.lv (ahd c.L i).s ts (i1 + 1) ns1 with
        | bad i' code => exact named_call_bad3 c hc h most hk hti hp hr h7 ha hq hF
        | ok T i' ns' =>
          obtain ⟨rfl, rfl⟩ := funG_ok hF
          exact named_call c hc h most hk hti hp hr h7 ha hq hF
  · rw [if_neg hA]
    by_cases hB : (ahd c.L (i + 1)).tight = true ∧ (ahd c.L (i + 1)).kind = 3 ∧ bare (ahd c.L i) = true ∧ (ahd c.L i).s = [45]
    · rw [if_pos hB]
      obtain ⟨hti, hk1, hba, hs⟩ := hB
      have hp : isP (ahd c.L (i + 1)) [40] = false := by cases hpp : isP (ahd c.L (i + 1)) [40] with
        | false => rfl
        | true => exact absurd ⟨hti, hpp⟩ hA
      exact named_neg c hc h most hk hti hp hk1 hba hs
    · rw [if_neg hB]
      have hD : ((ahd c.L (i + 1)).tight = false) ∨ ((ahd c.L (i + 1)).tight = true ∧ isP (ahd c.L (i + 1)) [40] = false ∧ ¬ (ahd c.L (i + 1)).kind = 3) ∨ ((ahd c.L (i + 1)).tight = true ∧ isP (ahd c.L (i + 1)) [40] = false ∧ (ahd c.L (i + 1)).kind = 3 ∧ bare (ahd c.L i) = false) ∨ ((ahd c.L (i + 1)).tight = true ∧ isP (ahd c.L (i + 1)) [40] = false ∧ (ahd c.L (i + 1)).kind = 3 ∧ bare (ahd c.L i) = true ∧ ¬ (ahd c.L i).s = [45]) := by
        cases hti : (ahd c.L (i + 1)).tight with
        | false => exact .inl rfl
        | true =>
          cases hp : isP (ahd c.L (i + 1)) [40] with
          | true => exact absurd ⟨hti, hp⟩ hA
          | false =>
            by_cases hk1 : (ahd c.L (i + 1)).kind = 3
            · cases hba : bare (ahd c.L i) with
              | false => exact .inr (.inr (.inl ⟨rfl, rfl, hk1, rfl⟩))
              | true => exact .inr (.inr (.inr ⟨rfl, rfl, hk1, rfl, fun hs => hB ⟨hti, hk1, hba, hs⟩⟩))
            · exact .inr (.inl ⟨rfl, rfl, hk1⟩)
      cases hpr : preR (ahd c.L i).s with
      | none =>
        dsimp only
        rcases hD with hti | ⟨hti, hp, hk1⟩ | ⟨hti, hp, hk1, hba⟩ | ⟨hti, hp, hk1, hba, hs⟩
        · exact named_atom_d0_e0 c hc h most hk hti hpr
        · exact named_atom_d1_e0 c hc h most hk hti hp hk1 hpr
        · exact named_atom_d2_e0 c hc h most hk hti hp hk1 hpr hba
        · exact named_atom_d3_e0 c hc h most hk hti hp hk1 hs hpr hba
      | some x =>
        obtain ⟨own, right⟩ := x
        dsimp only
        by_cases hC : bare (ahd c.L i) = true ∧ own ≤ most ∧ begins (ahd c.L (i + 1)) = true
        · rw [if_pos hC]
          obtain ⟨hba, hom, hbg⟩ := hC
          cases hu : r right (i + 1) ns with
          | bad i' code =>
            rcases hD with hti | ⟨hti, hp, hk1⟩ | ⟨hti, hp, hk1, hba'⟩ | ⟨hti, hp, hk1, -, hs⟩
            · exact named_op_bad_d0 c hc h hr most hk hti hpr hom hbg hba hu
            · exact named_op_bad_d1 c hc h hr most hk hti hp hk1 hpr hom hbg hba hu
            · rw [hba] at hba'; cases hba'
            · exact named_op_bad_d3 c hc h hr most hk hti hp hk1 hs hpr hom hbg hba hu
          | ok T i6 ns6 =>
            dsimp only [Out.bind]
            rw [funG_one]
            rcases hD with hti | ⟨hti, hp, hk1⟩ | ⟨hti, hp, hk1, hba'⟩ | ⟨hti, hp, hk1, -, hs⟩
            · exact named_op_d0 c hc h hr most hk hti hpr hom hbg hba hu
            · exact named_op_d1 c hc h hr most hk hti hp hk1 hpr hom hbg hba hu
            · rw [hba] at hba'; cases hba'
            · exact named_op_d3 c hc h hr most hk hti hp hk1 hs hpr hom hbg hba hu
        · rw [if_neg hC]
          cases hba : bare (ahd c.L i) with
          | false =>
            rcases hD with hti | ⟨hti, hp, hk1⟩ | ⟨hti, hp, hk1, -⟩ | ⟨hti, hp, hk1, hba', hs⟩
            · exact named_atom_d0_e1 c hc h most hk hti hpr hba
            · exact named_atom_d1_e1 c hc h most hk hti hp hk1 hpr hba
            · exact named_atom_d2_e1 c hc h most hk hti hp hk1 hpr hba
            · rw [hba] at hba'; cases hba'
          | true =>
            by_cases hom : own ≤ most
            · have hbg : begins (ahd c.L (i + 1)) = false := by cases hbb : begins (ahd c.L (i + 1)) with
                | false => rfl
                | true => exact absurd ⟨hba, hom, hbb⟩ hC
              rcases hD with hti | ⟨hti, hp, hk1⟩ | ⟨hti, hp, hk1, hba'⟩ | ⟨hti, hp, hk1, -, hs⟩
              · exact named_atom_d0_e3 c hc h most hk hti hpr hom hbg hba
              · exact named_atom_d1_e3 c hc h most hk hti hp hk1 hpr hom hbg hba
              · rw [hba] at hba'; cases hba'
              · exact named_atom_d3_e3 c hc h most hk hti hp hk1 hs hpr hom hbg hba
            · rcases hD with hti | ⟨hti, hp, hk1⟩ | ⟨hti, hp, hk1, hba'⟩ | ⟨hti, hp, hk1, -, hs⟩
              · exact named_atom_d0_e2 c hc h most hk hti hpr hom hba
              · exact named_atom_d1_e2 c hc h most hk hti hp hk1 hpr hom hba
              · rw [hba] at hba'; cases hba'
              · exact named_atom_d3_e2 c hc h most hk hti hp hk1 hs hpr hom hba
set_option maxRecDepth 100000 in
set_option maxHeartbeats 4000000 in
theorem prim_num_bad (hd : d < 60) (most : Nat) (hk : (ahd c.L i).kind = 3) {i' : Nat} {code : Int} (hcal : ∀ W', PAt c W' na nc i (d + 1) ns → Calls Tryz.prog 101 #[.pointer (some ⟨c.b, 0, none⟩)] W' fun e W'' => e = faultE i' code ∧ Kp c W' na W'') : Calls Tryz.prog 86 #[.pointer (some ⟨c.b, 0, none⟩), .int .i64 most] W fun e W' => e = faultE i' code ∧ Kp c W na W' := by
  obtain ⟨W1, hW1⟩ : ∃ W1, W1 = W.alloc (.cells #[.int .i64 0, .int .i64 0, .string (ByteArray.mk #[]), .slice none 0 0] 24) := ⟨_, rfl⟩
  obtain ⟨h1, s1, x1, f1⟩ := h.fresh hc #[.int .i64 0, .int .i64 0, .string (ByteArray.mk #[]), .slice none 0 0] 24
  rw [← hW1] at h1 s1 x1 f1
  have hz := zeroTerm
  have hf0 := field0
  have hen := enter_at c hc h1 hd
  have hah := fun W' (h' : PAt c W' na nc i (d + 1) ns) => ahead_at c hc h' 0 (by omega)
  simp only [Nat.add_zero] at hah
  generalize ahd c.L i = t0 at *
  obtain ⟨kd0, sn0, nn0, qt0, tt0⟩ := t0
  dsimp only at *
  subst hk
  go_enter Tryz.func86, Tryz.ntmps86
  go_wp2_with (first
    | (rw [← hW1]; go_at_call 85; refine hen.mono ?_; rintro e W2 ⟨rfl, h2, f2⟩)
    | (go_at_call 67; refine (hah _ h2).mono ?_; rintro e W3 ⟨rfl, hb3⟩; have h3 := h2.later hc hb3; have f3 := f2.trans (Fr.below hb3))
    | (go_at_call 101; refine (hcal _ h3).mono ?_; rintro e W4 ⟨he, hK⟩; unfold faultE at he; subst he))
  exact ⟨rfl, rfl, (f1.trans f3).kpt hK⟩
set_option maxRecDepth 100000 in
set_option maxHeartbeats 4000000 in
theorem prim_num (hd : d < 60) (most : Nat) (hk : (ahd c.L i).kind = 3) {T : Tm} {i4 : Nat} {ns4 : Nms} (hcal : ∀ W', PAt c W' na nc i (d + 1) ns → Calls Tryz.prog 101 #[.pointer (some ⟨c.b, 0, none⟩)] W' (TPost c W' na (d + 1) T i4 ns4)) : Calls Tryz.prog 86 #[.pointer (some ⟨c.b, 0, none⟩), .int .i64 most] W (NPost c W na d (.ok (T, 0) i4 ns4)) := by
  obtain ⟨W1, hW1⟩ : ∃ W1, W1 = W.alloc (.cells #[.int .i64 0, .int .i64 0, .string (ByteArray.mk #[]), .slice none 0 0] 24) := ⟨_, rfl⟩
  obtain ⟨h1, s1, x1, f1⟩ := h.fresh hc #[.int .i64 0, .int .i64 0, .string (ByteArray.mk #[]), .slice none 0 0] 24
  rw [← hW1] at h1 s1 x1 f1
  have hz := zeroTerm
  have hf0 := field0
  have hen := enter_at c hc h1 hd
  have hah := fun W' (h' : PAt c W' na nc i (d + 1) ns) => ahead_at c hc h' 0 (by omega)
  simp only [Nat.add_zero] at hah
  have hle := fun W' na' nc' (h' : PAt c W' na' nc' i4 (d + 1) ns4) => leave_at c hc h' (by omega)
  simp only [Nat.add_sub_cancel] at hle
  generalize ahd c.L i = t0 at *
  obtain ⟨kd0, sn0, nn0, qt0, tt0⟩ := t0
  dsimp only at *
  subst hk
  go_enter Tryz.func86, Tryz.ntmps86
  go_wp2_with (first
    | (rw [← hW1]; go_at_call 85; refine hen.mono ?_; rintro e W2 ⟨rfl, h2, f2⟩)
    | (go_at_call 67; refine (hah _ h2).mono ?_; rintro e W3 ⟨rfl, hb3⟩; have h3 := h2.later hc hb3; have f3 := f2.trans (Fr.below hb3))
    | (go_at_call 101; refine (hcal _ h3).mono ?_; rintro e W4 ⟨na4, nc4, k, n, s, a, l, cp, rfl, h4, f4, hT4⟩; have fall := f3.trans f4; obtain ⟨s9, x9, z0, z1, z2, z3, zf⟩ := fall.box s1 x1; obtain ⟨Z, hZ, hzb, hP, hF, hkp, hsz⟩ := h4.box4 hc h (f1.trans fall) (Nat.le_refl _) s9 x9 (.int .i64 k) (.int .i64 n) (.string s) (.slice a l cp))
    | (rw [← hZ]; go_at_call 89; refine (hle _ _ _ hP).mono ?_; rintro e W5 ⟨rfl, h5, f5⟩; have sz : c.stays Z na4 W.heap.size := ⟨by rw [hsz]; exact s9.1, s9.2⟩; obtain ⟨s8, x8, q0, q1, q2, q3, qf⟩ := f5.box sz hzb))
  obtain ⟨Y, hY, hyb, hPY, hFY, hkY, hsY⟩ := h5.box4 hc h (hF.trans f5) (Nat.le_refl _) s8 x8 (.int .i64 k) (.int .i64 n) (.string s) (.slice a l cp)
  obtain ⟨y0, y1, y2, y3⟩ := tbox_cells hyb
  rw [← hY]
  refine bodyPost_ret (v := .tuple #[.agg #[.int .i64 k, .int .i64 n, .string s, .slice a l cp], .int .i64 0]) (by simp [results, Tryz.f86, go_sem, y0, y1, y2, y3]) rfl ?_
  have e3 := Nat.lt_of_lt_of_le s1.1 f3.size
  refine ⟨na4, nc4, k, n, s, a, l, cp, rfl, hPY, hFY, hT4.carry (fun j hj => ?_) (fun j hj => ?_)⟩
  · have h92 := hj.2
    have hst : c.stays Z na4 j := ⟨by rw [hsz]; exact hj.1.1, hj.1.2⟩
    exact (hkY j (by omega)).trans (((f5.keep j hst).1).trans (hkp j (by omega)))
  · have h92 := hj.2
    have hst : c.stays Z na4 j := ⟨by rw [hsz]; exact hj.1.1, hj.1.2⟩
    have h93 := (f5.keep j hst).2
    exact ⟨⟨by rw [hsY]; exact h93.1, h93.2⟩, by omega⟩
set_option maxRecDepth 100000 in
set_option maxHeartbeats 4000000 in
theorem prim_var_bad (hd : d < 60) (most : Nat) (hk : (ahd c.L i).kind = 2) {i' : Nat} {code : Int} (hcal : ∀ W', PAt c W' na nc i (d + 1) ns → Calls Tryz.prog 102 #[.pointer (some ⟨c.b, 0, none⟩)] W' fun e W'' => e = faultE i' code ∧ Kp c W' na W'') : Calls Tryz.prog 86 #[.pointer (some ⟨c.b, 0, none⟩), .int .i64 most] W fun e W' => e = faultE i' code ∧ Kp c W na W' := by
  obtain ⟨W1, hW1⟩ : ∃ W1, W1 = W.alloc (.cells #[.int .i64 0, .int .i64 0, .string (ByteArray.mk #[]), .slice none 0 0] 24) := ⟨_, rfl⟩
  obtain ⟨h1, s1, x1, f1⟩ := h.fresh hc #[.int .i64 0, .int .i64 0, .string (ByteArray.mk #[]), .slice none 0 0] 24
  rw [← hW1] at h1 s1 x1 f1
  have hz := zeroTerm
  have hf0 := field0
  have hen := enter_at c hc h1 hd
  have hah := fun W' (h' : PAt c W' na nc i (d + 1) ns) => ahead_at c hc h' 0 (by omega)
  simp only [Nat.add_zero] at hah
  generalize ahd c.L i = t0 at *
  obtain ⟨kd0, sn0, nn0, qt0, tt0⟩ := t0
  dsimp only at *
  subst hk
  go_enter Tryz.func86, Tryz.ntmps86
  go_wp2_with (first
    | (rw [← hW1]; go_at_call 85; refine hen.mono ?_; rintro e W2 ⟨rfl, h2, f2⟩)
    | (go_at_call 67; refine (hah _ h2).mono ?_; rintro e W3 ⟨rfl, hb3⟩; have h3 := h2.later hc hb3; have f3 := f2.trans (Fr.below hb3))
    | (go_at_call 102; refine (hcal _ h3).mono ?_; rintro e W4 ⟨he, hK⟩; unfold faultE at he; subst he))
  exact ⟨rfl, rfl, (f1.trans f3).kpt hK⟩
set_option maxRecDepth 100000 in
set_option maxHeartbeats 4000000 in
theorem prim_var (hd : d < 60) (most : Nat) (hk : (ahd c.L i).kind = 2) {T : Tm} {i4 : Nat} {ns4 : Nms} (hcal : ∀ W', PAt c W' na nc i (d + 1) ns → Calls Tryz.prog 102 #[.pointer (some ⟨c.b, 0, none⟩)] W' (TPost c W' na (d + 1) T i4 ns4)) : Calls Tryz.prog 86 #[.pointer (some ⟨c.b, 0, none⟩), .int .i64 most] W (NPost c W na d (.ok (T, 0) i4 ns4)) := by
  obtain ⟨W1, hW1⟩ : ∃ W1, W1 = W.alloc (.cells #[.int .i64 0, .int .i64 0, .string (ByteArray.mk #[]), .slice none 0 0] 24) := ⟨_, rfl⟩
  obtain ⟨h1, s1, x1, f1⟩ := h.fresh hc #[.int .i64 0, .int .i64 0, .string (ByteArray.mk #[]), .slice none 0 0] 24
  rw [← hW1] at h1 s1 x1 f1
  have hz := zeroTerm
  have hf0 := field0
  have hen := enter_at c hc h1 hd
  have hah := fun W' (h' : PAt c W' na nc i (d + 1) ns) => ahead_at c hc h' 0 (by omega)
  simp only [Nat.add_zero] at hah
  have hle := fun W' na' nc' (h' : PAt c W' na' nc' i4 (d + 1) ns4) => leave_at c hc h' (by omega)
  simp only [Nat.add_sub_cancel] at hle
  generalize ahd c.L i = t0 at *
  obtain ⟨kd0, sn0, nn0, qt0, tt0⟩ := t0
  dsimp only at *
  subst hk
  go_enter Tryz.func86, Tryz.ntmps86
  go_wp2_with (first
    | (rw [← hW1]; go_at_call 85; refine hen.mono ?_; rintro e W2 ⟨rfl, h2, f2⟩)
    | (go_at_call 67; refine (hah _ h2).mono ?_; rintro e W3 ⟨rfl, hb3⟩; have h3 := h2.later hc hb3; have f3 := f2.trans (Fr.below hb3))
    | (go_at_call 102; refine (hcal _ h3).mono ?_; rintro e W4 ⟨na4, nc4, k, n, s, a, l, cp, rfl, h4, f4, hT4⟩; have fall := f3.trans f4; obtain ⟨s9, x9, z0, z1, z2, z3, zf⟩ := fall.box s1 x1; obtain ⟨Z, hZ, hzb, hP, hF, hkp, hsz⟩ := h4.box4 hc h (f1.trans fall) (Nat.le_refl _) s9 x9 (.int .i64 k) (.int .i64 n) (.string s) (.slice a l cp))
    | (rw [← hZ]; go_at_call 89; refine (hle _ _ _ hP).mono ?_; rintro e W5 ⟨rfl, h5, f5⟩; have sz : c.stays Z na4 W.heap.size := ⟨by rw [hsz]; exact s9.1, s9.2⟩; obtain ⟨s8, x8, q0, q1, q2, q3, qf⟩ := f5.box sz hzb))
  obtain ⟨Y, hY, hyb, hPY, hFY, hkY, hsY⟩ := h5.box4 hc h (hF.trans f5) (Nat.le_refl _) s8 x8 (.int .i64 k) (.int .i64 n) (.string s) (.slice a l cp)
  obtain ⟨y0, y1, y2, y3⟩ := tbox_cells hyb
  rw [← hY]
  refine bodyPost_ret (v := .tuple #[.agg #[.int .i64 k, .int .i64 n, .string s, .slice a l cp], .int .i64 0]) (by simp [results, Tryz.f86, go_sem, y0, y1, y2, y3]) rfl ?_
  have e3 := Nat.lt_of_lt_of_le s1.1 f3.size
  refine ⟨na4, nc4, k, n, s, a, l, cp, rfl, hPY, hFY, hT4.carry (fun j hj => ?_) (fun j hj => ?_)⟩
  · have h92 := hj.2
    have hst : c.stays Z na4 j := ⟨by rw [hsz]; exact hj.1.1, hj.1.2⟩
    exact (hkY j (by omega)).trans (((f5.keep j hst).1).trans (hkp j (by omega)))
  · have h92 := hj.2
    have hst : c.stays Z na4 j := ⟨by rw [hsz]; exact hj.1.1, hj.1.2⟩
    have h93 := (f5.keep j hst).2
    exact ⟨⟨by rw [hsY]; exact h93.1, h93.2⟩, by omega⟩
set_option maxRecDepth 100000 in
set_option maxHeartbeats 4000000 in
theorem prim_brk_bad (hd : d < 60) (most : Nat) (hk : (ahd c.L i).kind = 4) {i' : Nat} {code : Int} (hcal : ∀ W', PAt c W' na nc i (d + 1) ns → Calls Tryz.prog 103 #[.pointer (some ⟨c.b, 0, none⟩)] W' fun e W'' => e = faultE i' code ∧ Kp c W' na W'') : Calls Tryz.prog 86 #[.pointer (some ⟨c.b, 0, none⟩), .int .i64 most] W fun e W' => e = faultE i' code ∧ Kp c W na W' := by
  obtain ⟨W1, hW1⟩ : ∃ W1, W1 = W.alloc (.cells #[.int .i64 0, .int .i64 0, .string (ByteArray.mk #[]), .slice none 0 0] 24) := ⟨_, rfl⟩
  obtain ⟨h1, s1, x1, f1⟩ := h.fresh hc #[.int .i64 0, .int .i64 0, .string (ByteArray.mk #[]), .slice none 0 0] 24
  rw [← hW1] at h1 s1 x1 f1
  have hz := zeroTerm
  have hf0 := field0
  have hen := enter_at c hc h1 hd
  have hah := fun W' (h' : PAt c W' na nc i (d + 1) ns) => ahead_at c hc h' 0 (by omega)
  simp only [Nat.add_zero] at hah
  generalize ahd c.L i = t0 at *
  obtain ⟨kd0, sn0, nn0, qt0, tt0⟩ := t0
  dsimp only at *
  subst hk
  go_enter Tryz.func86, Tryz.ntmps86
  go_wp2_with (first
    | (rw [← hW1]; go_at_call 85; refine hen.mono ?_; rintro e W2 ⟨rfl, h2, f2⟩)
    | (go_at_call 67; refine (hah _ h2).mono ?_; rintro e W3 ⟨rfl, hb3⟩; have h3 := h2.later hc hb3; have f3 := f2.trans (Fr.below hb3))
    | (go_at_call 103; refine (hcal _ h3).mono ?_; rintro e W4 ⟨he, hK⟩; unfold faultE at he; subst he))
  exact ⟨rfl, rfl, (f1.trans f3).kpt hK⟩
set_option maxRecDepth 100000 in
set_option maxHeartbeats 4000000 in
theorem prim_brk (hd : d < 60) (most : Nat) (hk : (ahd c.L i).kind = 4) {T : Tm} {i4 : Nat} {ns4 : Nms} (hcal : ∀ W', PAt c W' na nc i (d + 1) ns → Calls Tryz.prog 103 #[.pointer (some ⟨c.b, 0, none⟩)] W' (TPost c W' na (d + 1) T i4 ns4)) : Calls Tryz.prog 86 #[.pointer (some ⟨c.b, 0, none⟩), .int .i64 most] W (NPost c W na d (.ok (T, 0) i4 ns4)) := by
  obtain ⟨W1, hW1⟩ : ∃ W1, W1 = W.alloc (.cells #[.int .i64 0, .int .i64 0, .string (ByteArray.mk #[]), .slice none 0 0] 24) := ⟨_, rfl⟩
  obtain ⟨h1, s1, x1, f1⟩ := h.fresh hc #[.int .i64 0, .int .i64 0, .string (ByteArray.mk #[]), .slice none 0 0] 24
  rw [← hW1] at h1 s1 x1 f1
  have hz := zeroTerm
  have hf0 := field0
  have hen := enter_at c hc h1 hd
  have hah := fun W' (h' : PAt c W' na nc i (d + 1) ns) => ahead_at c hc h' 0 (by omega)
  simp only [Nat.add_zero] at hah
  have hle := fun W' na' nc' (h' : PAt c W' na' nc' i4 (d + 1) ns4) => leave_at c hc h' (by omega)
  simp only [Nat.add_sub_cancel] at hle
  generalize ahd c.L i = t0 at *
  obtain ⟨kd0, sn0, nn0, qt0, tt0⟩ := t0
  dsimp only at *
  subst hk
  go_enter Tryz.func86, Tryz.ntmps86
  go_wp2_with (first
    | (rw [← hW1]; go_at_call 85; refine hen.mono ?_; rintro e W2 ⟨rfl, h2, f2⟩)
    | (go_at_call 67; refine (hah _ h2).mono ?_; rintro e W3 ⟨rfl, hb3⟩; have h3 := h2.later hc hb3; have f3 := f2.trans (Fr.below hb3))
    | (go_at_call 103; refine (hcal _ h3).mono ?_; rintro e W4 ⟨na4, nc4, k, n, s, a, l, cp, rfl, h4, f4, hT4⟩; have fall := f3.trans f4; obtain ⟨s9, x9, z0, z1, z2, z3, zf⟩ := fall.box s1 x1; obtain ⟨Z, hZ, hzb, hP, hF, hkp, hsz⟩ := h4.box4 hc h (f1.trans fall) (Nat.le_refl _) s9 x9 (.int .i64 k) (.int .i64 n) (.string s) (.slice a l cp))
    | (rw [← hZ]; go_at_call 89; refine (hle _ _ _ hP).mono ?_; rintro e W5 ⟨rfl, h5, f5⟩; have sz : c.stays Z na4 W.heap.size := ⟨by rw [hsz]; exact s9.1, s9.2⟩; obtain ⟨s8, x8, q0, q1, q2, q3, qf⟩ := f5.box sz hzb))
  obtain ⟨Y, hY, hyb, hPY, hFY, hkY, hsY⟩ := h5.box4 hc h (hF.trans f5) (Nat.le_refl _) s8 x8 (.int .i64 k) (.int .i64 n) (.string s) (.slice a l cp)
  obtain ⟨y0, y1, y2, y3⟩ := tbox_cells hyb
  rw [← hY]
  refine bodyPost_ret (v := .tuple #[.agg #[.int .i64 k, .int .i64 n, .string s, .slice a l cp], .int .i64 0]) (by simp [results, Tryz.f86, go_sem, y0, y1, y2, y3]) rfl ?_
  have e3 := Nat.lt_of_lt_of_le s1.1 f3.size
  refine ⟨na4, nc4, k, n, s, a, l, cp, rfl, hPY, hFY, hT4.carry (fun j hj => ?_) (fun j hj => ?_)⟩
  · have h92 := hj.2
    have hst : c.stays Z na4 j := ⟨by rw [hsz]; exact hj.1.1, hj.1.2⟩
    exact (hkY j (by omega)).trans (((f5.keep j hst).1).trans (hkp j (by omega)))
  · have h92 := hj.2
    have hst : c.stays Z na4 j := ⟨by rw [hsz]; exact hj.1.1, hj.1.2⟩
    have h93 := (f5.keep j hst).2
    exact ⟨⟨by rw [hsY]; exact h93.1, h93.2⟩, by omega⟩
set_option maxRecDepth 100000 in
set_option maxHeartbeats 4000000 in
theorem prim_nam_bad (hd : d < 60) (most : Nat) (hk : (ahd c.L i).kind = 1) {i' : Nat} {code : Int} (hcal : ∀ W', PAt c W' na nc i (d + 1) ns → Calls Tryz.prog 104 #[.pointer (some ⟨c.b, 0, none⟩), .int .i64 most] W' fun e W'' => e = faultE i' code ∧ Kp c W' na W'') : Calls Tryz.prog 86 #[.pointer (some ⟨c.b, 0, none⟩), .int .i64 most] W fun e W' => e = faultE i' code ∧ Kp c W na W' := by
  obtain ⟨W1, hW1⟩ : ∃ W1, W1 = W.alloc (.cells #[.int .i64 0, .int .i64 0, .string (ByteArray.mk #[]), .slice none 0 0] 24) := ⟨_, rfl⟩
  obtain ⟨h1, s1, x1, f1⟩ := h.fresh hc #[.int .i64 0, .int .i64 0, .string (ByteArray.mk #[]), .slice none 0 0] 24
  rw [← hW1] at h1 s1 x1 f1
  have hz := zeroTerm
  have hf0 := field0
  have hen := enter_at c hc h1 hd
  have hah := fun W' (h' : PAt c W' na nc i (d + 1) ns) => ahead_at c hc h' 0 (by omega)
  simp only [Nat.add_zero] at hah
  generalize ahd c.L i = t0 at *
  obtain ⟨kd0, sn0, nn0, qt0, tt0⟩ := t0
  dsimp only at *
  subst hk
  go_enter Tryz.func86, Tryz.ntmps86
  go_wp2_with (first
    | (rw [← hW1]; go_at_call 85; refine hen.mono ?_; rintro e W2 ⟨rfl, h2, f2⟩)
    | (go_at_call 67; refine (hah _ h2).mono ?_; rintro e W3 ⟨rfl, hb3⟩; have h3 := h2.later hc hb3; have f3 := f2.trans (Fr.below hb3))
    | (go_at_call 104; refine (hcal _ h3).mono ?_; rintro e W4 ⟨he, hK⟩; unfold faultE at he; subst he))
  exact ⟨rfl, rfl, (f1.trans f3).kpt hK⟩
set_option maxRecDepth 100000 in
set_option maxHeartbeats 4000000 in
theorem prim_nam (hd : d < 60) (most : Nat) (hk : (ahd c.L i).kind = 1) {T : Tm} {pri : Nat} {i4 : Nat} {ns4 : Nms} (hcal : ∀ W', PAt c W' na nc i (d + 1) ns → Calls Tryz.prog 104 #[.pointer (some ⟨c.b, 0, none⟩), .int .i64 most] W' (NPost c W' na (d + 1) (.ok (T, pri) i4 ns4))) : Calls Tryz.prog 86 #[.pointer (some ⟨c.b, 0, none⟩), .int .i64 most] W (NPost c W na d (.ok (T, pri) i4 ns4)) := by
  obtain ⟨W1, hW1⟩ : ∃ W1, W1 = W.alloc (.cells #[.int .i64 0, .int .i64 0, .string (ByteArray.mk #[]), .slice none 0 0] 24) := ⟨_, rfl⟩
  obtain ⟨h1, s1, x1, f1⟩ := h.fresh hc #[.int .i64 0, .int .i64 0, .string (ByteArray.mk #[]), .slice none 0 0] 24
  rw [← hW1] at h1 s1 x1 f1
  have hz := zeroTerm
  have hf0 := field0
  have hen := enter_at c hc h1 hd
  have hah := fun W' (h' : PAt c W' na nc i (d + 1) ns) => ahead_at c hc h' 0 (by omega)
  simp only [Nat.add_zero] at hah
  have hle := fun W' na' nc' (h' : PAt c W' na' nc' i4 (d + 1) ns4) => leave_at c hc h' (by omega)
  simp only [Nat.add_sub_cancel] at hle
  generalize ahd c.L i = t0 at *
  obtain ⟨kd0, sn0, nn0, qt0, tt0⟩ := t0
  dsimp only at *
  subst hk
  go_enter Tryz.func86, Tryz.ntmps86
  go_wp2_with (first
    | (rw [← hW1]; go_at_call 85; refine hen.mono ?_; rintro e W2 ⟨rfl, h2, f2⟩)
    | (go_at_call 67; refine (hah _ h2).mono ?_; rintro e W3 ⟨rfl, hb3⟩; have h3 := h2.later hc hb3; have f3 := f2.trans (Fr.below hb3))
    | (go_at_call 104; refine (hcal _ h3).mono ?_; rintro e W4 ⟨na4, nc4, k, n, s, a, l, cp, rfl, h4, f4, hT4⟩; have fall := f3.trans f4; obtain ⟨s9, x9, z0, z1, z2, z3, zf⟩ := fall.box s1 x1; obtain ⟨Z, hZ, hzb, hP, hF, hkp, hsz⟩ := h4.box4 hc h (f1.trans fall) (Nat.le_refl _) s9 x9 (.int .i64 k) (.int .i64 n) (.string s) (.slice a l cp))
    | (rw [← hZ]; go_at_call 89; refine (hle _ _ _ hP).mono ?_; rintro e W5 ⟨rfl, h5, f5⟩; have sz : c.stays Z na4 W.heap.size := ⟨by rw [hsz]; exact s9.1, s9.2⟩; obtain ⟨s8, x8, q0, q1, q2, q3, qf⟩ := f5.box sz hzb))
  obtain ⟨Y, hY, hyb, hPY, hFY, hkY, hsY⟩ := h5.box4 hc h (hF.trans f5) (Nat.le_refl _) s8 x8 (.int .i64 k) (.int .i64 n) (.string s) (.slice a l cp)
  obtain ⟨y0, y1, y2, y3⟩ := tbox_cells hyb
  rw [← hY]
  refine bodyPost_ret (v := .tuple #[.agg #[.int .i64 k, .int .i64 n, .string s, .slice a l cp], .int .i64 pri]) (by simp [results, Tryz.f86, go_sem, y0, y1, y2, y3]) rfl ?_
  have e3 := Nat.lt_of_lt_of_le s1.1 f3.size
  refine ⟨na4, nc4, k, n, s, a, l, cp, rfl, hPY, hFY, hT4.carry (fun j hj => ?_) (fun j hj => ?_)⟩
  · have h92 := hj.2
    have hst : c.stays Z na4 j := ⟨by rw [hsz]; exact hj.1.1, hj.1.2⟩
    exact (hkY j (by omega)).trans (((f5.keep j hst).1).trans (hkp j (by omega)))
  · have h92 := hj.2
    have hst : c.stays Z na4 j := ⟨by rw [hsz]; exact hj.1.1, hj.1.2⟩
    have h93 := (f5.keep j hst).2
    exact ⟨⟨by rw [hsY]; exact h93.1, h93.2⟩, by omega⟩
set_option maxRecDepth 100000 in
set_option maxHeartbeats 4000000 in
theorem prim_none (hd : d < 60) (most : Nat) (hk1 : ¬ (ahd c.L i).kind = 1) (hk2 : ¬ (ahd c.L i).kind = 2) (hk3 : ¬ (ahd c.L i).kind = 3) (hk4 : ¬ (ahd c.L i).kind = 4) : Calls Tryz.prog 86 #[.pointer (some ⟨c.b, 0, none⟩), .int .i64 most] W fun e W' => e = faultE i 4 ∧ Kp c W na W' := by
  obtain ⟨W1, hW1⟩ : ∃ W1, W1 = W.alloc (.cells #[.int .i64 0, .int .i64 0, .string (ByteArray.mk #[]), .slice none 0 0] 24) := ⟨_, rfl⟩
  obtain ⟨h1, s1, x1, f1⟩ := h.fresh hc #[.int .i64 0, .int .i64 0, .string (ByteArray.mk #[]), .slice none 0 0] 24
  rw [← hW1] at h1 s1 x1 f1
  have hz := zeroTerm
  have hf0 := field0
  have hen := enter_at c hc h1 hd
  have hah := fun W' (h' : PAt c W' na nc i (d + 1) ns) => ahead_at c hc h' 0 (by omega)
  simp only [Nat.add_zero] at hah
  have hfa := fun W' (h' : PAt c W' na nc i (d + 1) ns) => fail_at c hc h' 4
  go_enter Tryz.func86, Tryz.ntmps86
  go_wp2_with (first
    | (rw [← hW1]; go_at_call 85; refine hen.mono ?_; rintro e W2 ⟨rfl, h2, f2⟩)
    | (go_at_call 67; refine (hah _ h2).mono ?_; rintro e W3 ⟨rfl, hb3⟩; have h3 := h2.later hc hb3; have f3 := f2.trans (Fr.below hb3))
    | (go_at_call 68; refine (hfa _ h3).mono ?_; rintro e W4 ⟨he, rfl⟩; unfold faultE at he; subst he))
  exact ⟨rfl, rfl, (f1.trans f3).kp h3.bel⟩
set_option maxRecDepth 100000 in
set_option maxHeartbeats 4000000 in
theorem prim_deep (hd : d = 60) (most : Nat) : Calls Tryz.prog 86 #[.pointer (some ⟨c.b, 0, none⟩), .int .i64 most] W fun e W' => e = faultE i 7 ∧ Kp c W na W' := by
  obtain ⟨W1, hW1⟩ : ∃ W1, W1 = W.alloc (.cells #[.int .i64 0, .int .i64 0, .string (ByteArray.mk #[]), .slice none 0 0] 24) := ⟨_, rfl⟩
  obtain ⟨h1, s1, x1, f1⟩ := h.fresh hc #[.int .i64 0, .int .i64 0, .string (ByteArray.mk #[]), .slice none 0 0] 24
  rw [← hW1] at h1 s1 x1 f1
  have hz := zeroTerm
  have hen := enter_bad c hc h1 hd
  go_enter Tryz.func86, Tryz.ntmps86
  go_wp2_with (rw [← hW1]; go_at_call 85; refine hen.mono ?_; rintro e W2 ⟨he, hK⟩; unfold faultE at he; subst he)
  exact ⟨rfl, rfl, f1.kpt hK⟩
theorem primary_at (hd : d < 60) (hr : RAt c (d + 1) r) (h7 : Reads7 c.L r) (most : Nat) : Calls Tryz.prog 86 #[.pointer (some ⟨c.b, 0, none⟩), .int .i64 most] W (NPost c W na d (primG c.L c.lv r most i ns)) := by
  unfold primG
  by_cases hk3 : (ahd c.L i).kind = 3
  · rw [if_pos hk3]
    have hcal := fun W' (h' : PAt c W' na nc i (d + 1) ns) => rnumber_at c hc h' hk3
    unfold zeroG
    cases hu : numG c.L i ns with
    | bad i' code => rw [hu] at hcal; exact prim_num_bad c hc h hd most hk3 hcal
    | ok T i4 ns4 => rw [hu] at hcal; exact prim_num c hc h hd most hk3 hcal
  · rw [if_neg hk3]
    by_cases hk2 : (ahd c.L i).kind = 2
    · rw [if_pos hk2]
      have hcal := fun W' (h' : PAt c W' na nc i (d + 1) ns) => variable_at c hc h' hk2
      unfold zeroG
      cases hu : varG c.L i ns with
      | bad i' code => rw [hu] at hcal; exact prim_var_bad c hc h hd most hk2 hcal
      | ok T i4 ns4 => rw [hu] at hcal; exact prim_var c hc h hd most hk2 hcal
    · rw [if_neg hk2]
      by_cases hk4 : (ahd c.L i).kind = 4
      · rw [if_pos hk4]
        have hcal := fun W' (h' : PAt c W' na nc i (d + 1) ns) => brack_at c hc h' hr h7
        unfold zeroG
        cases hu : brackG c.L r i ns with
        | bad i' code => rw [hu] at hcal; exact prim_brk_bad c hc h hd most hk4 hcal
        | ok T i4 ns4 => rw [hu] at hcal; exact prim_brk c hc h hd most hk4 hcal
      · rw [if_neg hk4]
        by_cases hk1 : (ahd c.L i).kind = 1
        · rw [if_pos hk1]
          have hcal := fun W' (h' : PAt c W' na nc i (d + 1) ns) => named_at c hc h' hr h7 most hk1
          cases hu : namedG c.L c.lv r most i ns with
          | bad i' code => rw [hu] at hcal; exact prim_nam_bad c hc h hd most hk1 hcal
          | ok T i4 ns4 => obtain ⟨T, pri⟩ := T; rw [hu] at hcal; exact prim_nam c hc h hd most hk1 hcal
        · rw [if_neg hk1]; exact prim_none c hc h hd most hk1 hk2 hk3 hk4
end
end Go.Proofs.YtfencolokfghfaaGreatDoor
