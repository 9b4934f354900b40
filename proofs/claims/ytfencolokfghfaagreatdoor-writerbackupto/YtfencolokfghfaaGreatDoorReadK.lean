/-
  named, the rest: an operator ahead of its operand, and a name alone.
-/
import Derived.Test.YtfencolokfghfaaGreatDoorReadJ
namespace Go.Proofs.YtfencolokfghfaaGreatDoor
open Go.RowKit Go.Maps
set_option linter.unusedVariables false
set_option linter.unusedSectionVars false
set_option linter.unusedSimpArgs false

section
variable (c : Cx) (hc : c.Ok) {W : World} {na : Option Addr} {nc i d : Nat} {ns : Nms} (h : PAt c W na nc i d ns) {r : Rdr}
include hc h
set_option maxRecDepth 100000 in
set_option maxHeartbeats 4000000 in
theorem named_atom_d0_e0 (most : Nat) (hk : (ahd c.L i).kind = 1) (hti : (ahd c.L (i + 1)).tight = false) (hpr : preR (ahd c.L i).s = none) :
    Calls Tryz.prog 104 #[.pointer (some ⟨c.b, 0, none⟩), .int .i64 most] W (NPost c W na d (.ok (atomT (ahd c.L i).s, 0) (i + 1) ns)) := by
  have hi : i < c.L.length := ahd_lt (by rw [hk]; decide)
  have htk : ∀ j, j < c.L.length → i64ok (ahd c.L j).n ∧ (ahd c.L j).s.length ≤ 4096 := fun j hj => hc.tok _ (by unfold ahd; rw [List.getD_eq_getElem?_getD, List.getElem?_eq_getElem hj]; exact List.getElem_mem hj)
  have hsl := (htk i hi).2
  have hlen := hc.len
  have hii : (i : Int) < 4096 := by omega
  obtain ⟨W1, hW1⟩ : ∃ W1, W1 = W.alloc (.cells #[.int .i64 0, .int .i64 0, .string (ByteArray.mk #[]), .slice none 0 0] 24) := ⟨_, rfl⟩
  obtain ⟨h1, s1, x1, f1⟩ := h.fresh hc #[.int .i64 0, .int .i64 0, .string (ByteArray.mk #[]), .slice none 0 0] 24
  rw [← hW1] at h1 s1 x1 f1
  have hw1 : W1.heap.size = W.heap.size + 1 := by rw [hW1]; simp
  have ha0 := ahead_at c hc h1 0 (by omega)
  rw [Nat.add_zero] at ha0
  have ha1 := fun W' (h' : PAt c W' na nc i d ns) => ahead_at c hc h' 1 (Nat.le_refl _)
  have hz := zeroTerm
  have hzt : ∀ w, (zeroValue 87).run Tryz.prog w = .ok (.agg #[.int .i64 0, .string ⟨#[]⟩, .int .i64 0, .bool false, .bool false]) w := fun w => by kernel_rfl
  have hnot : ∀ (x : Bool) (w : World), (Op.unary .not (.bool x)).run Tryz.prog w = .ok (.bool (!x)) w := fun _ _ => rfl
  have hpre := fun W' (T : Tab W') => prefix_at (strV (ahd c.L i).s) (ahd c.L i).s (strV_list _) W' T
  simp only [hpr] at hpre
  unfold preV at hpre
  have hat := fun w => atom_at (strV (ahd c.L i).s) w (by rw [strV_size]; unfold maxLen; omega)
  unfold atomT
  clear hpr
  generalize ahd c.L i = t0 at *
  generalize ahd c.L (i + 1) = t1 at *
  obtain ⟨kd0, sn0, nn0, qt0, tt0⟩ := t0
  obtain ⟨kd1, sn1, nn1, qt1, tt1⟩ := t1
  dsimp only at *
  subst hk
  subst hti
  go_enter Tryz.func104, Tryz.ntmps104
  go_upto_region 3 with (first
    | (rw [← hW1]; go_at_call 67; refine ha0.mono ?_; rintro e W2 ⟨rfl, hb2⟩; have h2 := h1.later hc hb2)
    | (go_at_call 67; refine (ha1 _ h2).mono ?_; rintro e W3 ⟨rfl, hb3⟩; obtain ⟨S, hS, hcur, f0, s6, s7, x6, x7, hszS, q1, qf⟩ := named_state c hc h h1 (bel hb2 hb3) hi (.int .i64 1) (.string (strV sn0)) (.int .i64 nn0) (.bool qt0) (.bool tt0) (.int .i64 kd1) (.string (strV sn1)) (.int .i64 nn1) (.bool qt1) (.bool false)))
  rw [← hS]
  have fcur := Fr.refl c S na
  obtain ⟨m0, m1, m2, m3, m4⟩ := fcur.box5 s6 x6
  obtain ⟨p0, p1, p2, p3, p4⟩ := fcur.box5 s7 x7
  clear q1 qf hS
  go_wp2_with (first
    | (go_at_call 125; refine (hpre _ (hc.tab.later hcur.bel)).mono ?_; rintro e Wp ⟨rfl, hbp⟩; replace fcur := fcur.trans (Fr.below hbp); replace hcur := hcur.later hc hbp; obtain ⟨m0, m1, m2, m3, m4⟩ := fcur.box5 s6 x6; obtain ⟨p0, p1, p2, p3, p4⟩ := fcur.box5 s7 x7)
    | (go_at_call 16; refine (hat _).mono ?_; rintro e W4 h4; obtain ⟨k, n, s, a, l, cp, rfl, hT, hb4⟩ := h4.form4; have h8 := hcur.later hc hb4; have fall := f0.trans (fcur.trans (Fr.below hb4)); obtain ⟨s9, x9, z0, z1, z2, z3, zf⟩ := fall.box s1 x1))
  obtain ⟨Z, hZ, hzb, hP, hF, hkp, hsz'⟩ := h8.box4 hc h (f1.trans fall) (Nat.le_refl _) s9 x9 (.int .i64 k) (.int .i64 n) (.string s) (.slice a l cp)
  obtain ⟨y0, y1, y2, y3⟩ := tbox_cells hzb
  rw [← hZ]
  refine bodyPost_ret (v := .tuple #[.agg #[.int .i64 k, .int .i64 n, .string s, .slice a l cp], .int .i64 0]) (by simp [results, Tryz.f104, go_sem, y0, y1, y2, y3]) rfl ?_
  have e3 := Nat.lt_of_lt_of_le s1.1 (Nat.le_trans f0.size fcur.size)
  exact ⟨na, nc, k, n, s, a, l, cp, rfl, hP, hF, tm_box (new_tm c hc hcur hb4.size hT) e3 (Nat.le_of_lt e3) hkp hsz'⟩
set_option maxRecDepth 100000 in
set_option maxHeartbeats 4000000 in
theorem named_atom_d0_e1 (most : Nat) (hk : (ahd c.L i).kind = 1) (hti : (ahd c.L (i + 1)).tight = false) {own right : Nat} (hpr : preR (ahd c.L i).s = some (own, right)) (hba : bare (ahd c.L i) = false) :
    Calls Tryz.prog 104 #[.pointer (some ⟨c.b, 0, none⟩), .int .i64 most] W (NPost c W na d (.ok (atomT (ahd c.L i).s, 0) (i + 1) ns)) := by
  have hi : i < c.L.length := ahd_lt (by rw [hk]; decide)
  have htk : ∀ j, j < c.L.length → i64ok (ahd c.L j).n ∧ (ahd c.L j).s.length ≤ 4096 := fun j hj => hc.tok _ (by unfold ahd; rw [List.getD_eq_getElem?_getD, List.getElem?_eq_getElem hj]; exact List.getElem_mem hj)
  have hsl := (htk i hi).2
  have hlen := hc.len
  have hii : (i : Int) < 4096 := by omega
  obtain ⟨W1, hW1⟩ : ∃ W1, W1 = W.alloc (.cells #[.int .i64 0, .int .i64 0, .string (ByteArray.mk #[]), .slice none 0 0] 24) := ⟨_, rfl⟩
  obtain ⟨h1, s1, x1, f1⟩ := h.fresh hc #[.int .i64 0, .int .i64 0, .string (ByteArray.mk #[]), .slice none 0 0] 24
  rw [← hW1] at h1 s1 x1 f1
  have hw1 : W1.heap.size = W.heap.size + 1 := by rw [hW1]; simp
  have ha0 := ahead_at c hc h1 0 (by omega)
  rw [Nat.add_zero] at ha0
  have ha1 := fun W' (h' : PAt c W' na nc i d ns) => ahead_at c hc h' 1 (Nat.le_refl _)
  have hz := zeroTerm
  have hzt : ∀ w, (zeroValue 87).run Tryz.prog w = .ok (.agg #[.int .i64 0, .string ⟨#[]⟩, .int .i64 0, .bool false, .bool false]) w := fun w => by kernel_rfl
  have hnot : ∀ (x : Bool) (w : World), (Op.unary .not (.bool x)).run Tryz.prog w = .ok (.bool (!x)) w := fun _ _ => rfl
  have hbar := fun W' => isBare_at (ahd c.L i) W'
  rw [hba] at hbar
  have hpre := fun W' (T : Tab W') => prefix_at (strV (ahd c.L i).s) (ahd c.L i).s (strV_list _) W' T
  simp only [hpr] at hpre
  unfold preV at hpre
  have hat := fun w => atom_at (strV (ahd c.L i).s) w (by rw [strV_size]; unfold maxLen; omega)
  unfold atomT
  clear hpr hba
  generalize ahd c.L i = t0 at *
  generalize ahd c.L (i + 1) = t1 at *
  obtain ⟨kd0, sn0, nn0, qt0, tt0⟩ := t0
  obtain ⟨kd1, sn1, nn1, qt1, tt1⟩ := t1
  dsimp only at *
  subst hk
  subst hti
  go_enter Tryz.func104, Tryz.ntmps104
  go_upto_region 3 with (first
    | (rw [← hW1]; go_at_call 67; refine ha0.mono ?_; rintro e W2 ⟨rfl, hb2⟩; have h2 := h1.later hc hb2)
    | (go_at_call 67; refine (ha1 _ h2).mono ?_; rintro e W3 ⟨rfl, hb3⟩; obtain ⟨S, hS, hcur, f0, s6, s7, x6, x7, hszS, q1, qf⟩ := named_state c hc h h1 (bel hb2 hb3) hi (.int .i64 1) (.string (strV sn0)) (.int .i64 nn0) (.bool qt0) (.bool tt0) (.int .i64 kd1) (.string (strV sn1)) (.int .i64 nn1) (.bool qt1) (.bool false)))
  rw [← hS]
  have fcur := Fr.refl c S na
  obtain ⟨m0, m1, m2, m3, m4⟩ := fcur.box5 s6 x6
  obtain ⟨p0, p1, p2, p3, p4⟩ := fcur.box5 s7 x7
  clear q1 qf hS
  go_wp2_with (first
    | (go_at_call 105; refine (hbar _).mono ?_; rintro e Wr ⟨rfl, hbr⟩; replace fcur := fcur.trans (Fr.below hbr); replace hcur := hcur.later hc hbr; obtain ⟨m0, m1, m2, m3, m4⟩ := fcur.box5 s6 x6; obtain ⟨p0, p1, p2, p3, p4⟩ := fcur.box5 s7 x7)
    | (go_at_call 125; refine (hpre _ (hc.tab.later hcur.bel)).mono ?_; rintro e Wp ⟨rfl, hbp⟩; replace fcur := fcur.trans (Fr.below hbp); replace hcur := hcur.later hc hbp; obtain ⟨m0, m1, m2, m3, m4⟩ := fcur.box5 s6 x6; obtain ⟨p0, p1, p2, p3, p4⟩ := fcur.box5 s7 x7)
    | (go_at_call 16; refine (hat _).mono ?_; rintro e W4 h4; obtain ⟨k, n, s, a, l, cp, rfl, hT, hb4⟩ := h4.form4; have h8 := hcur.later hc hb4; have fall := f0.trans (fcur.trans (Fr.below hb4)); obtain ⟨s9, x9, z0, z1, z2, z3, zf⟩ := fall.box s1 x1))
  obtain ⟨Z, hZ, hzb, hP, hF, hkp, hsz'⟩ := h8.box4 hc h (f1.trans fall) (Nat.le_refl _) s9 x9 (.int .i64 k) (.int .i64 n) (.string s) (.slice a l cp)
  obtain ⟨y0, y1, y2, y3⟩ := tbox_cells hzb
  rw [← hZ]
  refine bodyPost_ret (v := .tuple #[.agg #[.int .i64 k, .int .i64 n, .string s, .slice a l cp], .int .i64 0]) (by simp [results, Tryz.f104, go_sem, y0, y1, y2, y3]) rfl ?_
  have e3 := Nat.lt_of_lt_of_le s1.1 (Nat.le_trans f0.size fcur.size)
  exact ⟨na, nc, k, n, s, a, l, cp, rfl, hP, hF, tm_box (new_tm c hc hcur hb4.size hT) e3 (Nat.le_of_lt e3) hkp hsz'⟩
set_option maxRecDepth 100000 in
set_option maxHeartbeats 4000000 in
theorem named_atom_d0_e2 (most : Nat) (hk : (ahd c.L i).kind = 1) (hti : (ahd c.L (i + 1)).tight = false) {own right : Nat} (hpr : preR (ahd c.L i).s = some (own, right)) (hom : ¬ own ≤ most) (hba : bare (ahd c.L i) = true) :
    Calls Tryz.prog 104 #[.pointer (some ⟨c.b, 0, none⟩), .int .i64 most] W (NPost c W na d (.ok (atomT (ahd c.L i).s, 0) (i + 1) ns)) := by
  have hi : i < c.L.length := ahd_lt (by rw [hk]; decide)
  have htk : ∀ j, j < c.L.length → i64ok (ahd c.L j).n ∧ (ahd c.L j).s.length ≤ 4096 := fun j hj => hc.tok _ (by unfold ahd; rw [List.getD_eq_getElem?_getD, List.getElem?_eq_getElem hj]; exact List.getElem_mem hj)
  have hsl := (htk i hi).2
  have hlen := hc.len
  have hii : (i : Int) < 4096 := by omega
  obtain ⟨W1, hW1⟩ : ∃ W1, W1 = W.alloc (.cells #[.int .i64 0, .int .i64 0, .string (ByteArray.mk #[]), .slice none 0 0] 24) := ⟨_, rfl⟩
  obtain ⟨h1, s1, x1, f1⟩ := h.fresh hc #[.int .i64 0, .int .i64 0, .string (ByteArray.mk #[]), .slice none 0 0] 24
  rw [← hW1] at h1 s1 x1 f1
  have hw1 : W1.heap.size = W.heap.size + 1 := by rw [hW1]; simp
  have ha0 := ahead_at c hc h1 0 (by omega)
  rw [Nat.add_zero] at ha0
  have ha1 := fun W' (h' : PAt c W' na nc i d ns) => ahead_at c hc h' 1 (Nat.le_refl _)
  have hz := zeroTerm
  have hzt : ∀ w, (zeroValue 87).run Tryz.prog w = .ok (.agg #[.int .i64 0, .string ⟨#[]⟩, .int .i64 0, .bool false, .bool false]) w := fun w => by kernel_rfl
  have hnot : ∀ (x : Bool) (w : World), (Op.unary .not (.bool x)).run Tryz.prog w = .ok (.bool (!x)) w := fun _ _ => rfl
  have hbar := fun W' => isBare_at (ahd c.L i) W'
  rw [hba] at hbar
  have hpre := fun W' (T : Tab W') => prefix_at (strV (ahd c.L i).s) (ahd c.L i).s (strV_list _) W' T
  simp only [hpr] at hpre
  unfold preV at hpre
  have hoi : ¬ ((own : Int) ≤ (most : Int)) := by omega
  have hat := fun w => atom_at (strV (ahd c.L i).s) w (by rw [strV_size]; unfold maxLen; omega)
  unfold atomT
  clear hpr hba hom
  generalize ahd c.L i = t0 at *
  generalize ahd c.L (i + 1) = t1 at *
  obtain ⟨kd0, sn0, nn0, qt0, tt0⟩ := t0
  obtain ⟨kd1, sn1, nn1, qt1, tt1⟩ := t1
  dsimp only at *
  subst hk
  subst hti
  go_enter Tryz.func104, Tryz.ntmps104
  go_upto_region 3 with (first
    | (rw [← hW1]; go_at_call 67; refine ha0.mono ?_; rintro e W2 ⟨rfl, hb2⟩; have h2 := h1.later hc hb2)
    | (go_at_call 67; refine (ha1 _ h2).mono ?_; rintro e W3 ⟨rfl, hb3⟩; obtain ⟨S, hS, hcur, f0, s6, s7, x6, x7, hszS, q1, qf⟩ := named_state c hc h h1 (bel hb2 hb3) hi (.int .i64 1) (.string (strV sn0)) (.int .i64 nn0) (.bool qt0) (.bool tt0) (.int .i64 kd1) (.string (strV sn1)) (.int .i64 nn1) (.bool qt1) (.bool false)))
  rw [← hS]
  have fcur := Fr.refl c S na
  obtain ⟨m0, m1, m2, m3, m4⟩ := fcur.box5 s6 x6
  obtain ⟨p0, p1, p2, p3, p4⟩ := fcur.box5 s7 x7
  clear q1 qf hS
  go_wp2_with (first
    | (go_at_call 105; refine (hbar _).mono ?_; rintro e Wr ⟨rfl, hbr⟩; replace fcur := fcur.trans (Fr.below hbr); replace hcur := hcur.later hc hbr; obtain ⟨m0, m1, m2, m3, m4⟩ := fcur.box5 s6 x6; obtain ⟨p0, p1, p2, p3, p4⟩ := fcur.box5 s7 x7)
    | (go_at_call 125; refine (hpre _ (hc.tab.later hcur.bel)).mono ?_; rintro e Wp ⟨rfl, hbp⟩; replace fcur := fcur.trans (Fr.below hbp); replace hcur := hcur.later hc hbp; obtain ⟨m0, m1, m2, m3, m4⟩ := fcur.box5 s6 x6; obtain ⟨p0, p1, p2, p3, p4⟩ := fcur.box5 s7 x7)
    | (go_at_call 16; refine (hat _).mono ?_; rintro e W4 h4; obtain ⟨k, n, s, a, l, cp, rfl, hT, hb4⟩ := h4.form4; have h8 := hcur.later hc hb4; have fall := f0.trans (fcur.trans (Fr.below hb4)); obtain ⟨s9, x9, z0, z1, z2, z3, zf⟩ := fall.box s1 x1))
  obtain ⟨Z, hZ, hzb, hP, hF, hkp, hsz'⟩ := h8.box4 hc h (f1.trans fall) (Nat.le_refl _) s9 x9 (.int .i64 k) (.int .i64 n) (.string s) (.slice a l cp)
  obtain ⟨y0, y1, y2, y3⟩ := tbox_cells hzb
  rw [← hZ]
  refine bodyPost_ret (v := .tuple #[.agg #[.int .i64 k, .int .i64 n, .string s, .slice a l cp], .int .i64 0]) (by simp [results, Tryz.f104, go_sem, y0, y1, y2, y3]) rfl ?_
  have e3 := Nat.lt_of_lt_of_le s1.1 (Nat.le_trans f0.size fcur.size)
  exact ⟨na, nc, k, n, s, a, l, cp, rfl, hP, hF, tm_box (new_tm c hc hcur hb4.size hT) e3 (Nat.le_of_lt e3) hkp hsz'⟩
set_option maxRecDepth 100000 in
set_option maxHeartbeats 4000000 in
theorem named_atom_d0_e3 (most : Nat) (hk : (ahd c.L i).kind = 1) (hti : (ahd c.L (i + 1)).tight = false) {own right : Nat} (hpr : preR (ahd c.L i).s = some (own, right)) (hom : own ≤ most) (hbg : begins (ahd c.L (i + 1)) = false) (hba : bare (ahd c.L i) = true) :
    Calls Tryz.prog 104 #[.pointer (some ⟨c.b, 0, none⟩), .int .i64 most] W (NPost c W na d (.ok (atomT (ahd c.L i).s, 0) (i + 1) ns)) := by
  have hi : i < c.L.length := ahd_lt (by rw [hk]; decide)
  have htk : ∀ j, j < c.L.length → i64ok (ahd c.L j).n ∧ (ahd c.L j).s.length ≤ 4096 := fun j hj => hc.tok _ (by unfold ahd; rw [List.getD_eq_getElem?_getD, List.getElem?_eq_getElem hj]; exact List.getElem_mem hj)
  have hsl := (htk i hi).2
  have hlen := hc.len
  have hii : (i : Int) < 4096 := by omega
  obtain ⟨W1, hW1⟩ : ∃ W1, W1 = W.alloc (.cells #[.int .i64 0, .int .i64 0, .string (ByteArray.mk #[]), .slice none 0 0] 24) := ⟨_, rfl⟩
  obtain ⟨h1, s1, x1, f1⟩ := h.fresh hc #[.int .i64 0, .int .i64 0, .string (ByteArray.mk #[]), .slice none 0 0] 24
  rw [← hW1] at h1 s1 x1 f1
  have hw1 : W1.heap.size = W.heap.size + 1 := by rw [hW1]; simp
  have ha0 := ahead_at c hc h1 0 (by omega)
  rw [Nat.add_zero] at ha0
  have ha1 := fun W' (h' : PAt c W' na nc i d ns) => ahead_at c hc h' 1 (Nat.le_refl _)
  have hz := zeroTerm
  have hzt : ∀ w, (zeroValue 87).run Tryz.prog w = .ok (.agg #[.int .i64 0, .string ⟨#[]⟩, .int .i64 0, .bool false, .bool false]) w := fun w => by kernel_rfl
  have hnot : ∀ (x : Bool) (w : World), (Op.unary .not (.bool x)).run Tryz.prog w = .ok (.bool (!x)) w := fun _ _ => rfl
  have hbar := fun W' => isBare_at (ahd c.L i) W'
  rw [hba] at hbar
  have hpre := fun W' (T : Tab W') => prefix_at (strV (ahd c.L i).s) (ahd c.L i).s (strV_list _) W' T
  simp only [hpr] at hpre
  unfold preV at hpre
  have hbeg := fun W' (T : Tab W') => begins_at (ahd c.L (i + 1)) W' T
  rw [hbg] at hbeg
  have hoi : (own : Int) ≤ (most : Int) := by omega
  have hat := fun w => atom_at (strV (ahd c.L i).s) w (by rw [strV_size]; unfold maxLen; omega)
  unfold atomT
  clear hpr hba hbg hom
  generalize ahd c.L i = t0 at *
  generalize ahd c.L (i + 1) = t1 at *
  obtain ⟨kd0, sn0, nn0, qt0, tt0⟩ := t0
  obtain ⟨kd1, sn1, nn1, qt1, tt1⟩ := t1
  dsimp only at *
  subst hk
  subst hti
  go_enter Tryz.func104, Tryz.ntmps104
  go_upto_region 3 with (first
    | (rw [← hW1]; go_at_call 67; refine ha0.mono ?_; rintro e W2 ⟨rfl, hb2⟩; have h2 := h1.later hc hb2)
    | (go_at_call 67; refine (ha1 _ h2).mono ?_; rintro e W3 ⟨rfl, hb3⟩; obtain ⟨S, hS, hcur, f0, s6, s7, x6, x7, hszS, q1, qf⟩ := named_state c hc h h1 (bel hb2 hb3) hi (.int .i64 1) (.string (strV sn0)) (.int .i64 nn0) (.bool qt0) (.bool tt0) (.int .i64 kd1) (.string (strV sn1)) (.int .i64 nn1) (.bool qt1) (.bool false)))
  rw [← hS]
  have fcur := Fr.refl c S na
  obtain ⟨m0, m1, m2, m3, m4⟩ := fcur.box5 s6 x6
  obtain ⟨p0, p1, p2, p3, p4⟩ := fcur.box5 s7 x7
  clear q1 qf hS
  go_wp2_with (first
    | (go_at_call 105; refine (hbar _).mono ?_; rintro e Wr ⟨rfl, hbr⟩; replace fcur := fcur.trans (Fr.below hbr); replace hcur := hcur.later hc hbr; obtain ⟨m0, m1, m2, m3, m4⟩ := fcur.box5 s6 x6; obtain ⟨p0, p1, p2, p3, p4⟩ := fcur.box5 s7 x7)
    | (go_at_call 125; refine (hpre _ (hc.tab.later hcur.bel)).mono ?_; rintro e Wp ⟨rfl, hbp⟩; replace fcur := fcur.trans (Fr.below hbp); replace hcur := hcur.later hc hbp; obtain ⟨m0, m1, m2, m3, m4⟩ := fcur.box5 s6 x6; obtain ⟨p0, p1, p2, p3, p4⟩ := fcur.box5 s7 x7)
    | (go_at_call 126; refine (hbeg _ (hc.tab.later hcur.bel)).mono ?_; rintro e Wq ⟨rfl, hbq⟩; replace fcur := fcur.trans (Fr.below hbq); replace hcur := hcur.later hc hbq; obtain ⟨m0, m1, m2, m3, m4⟩ := fcur.box5 s6 x6; obtain ⟨p0, p1, p2, p3, p4⟩ := fcur.box5 s7 x7)
    | (go_at_call 16; refine (hat _).mono ?_; rintro e W4 h4; obtain ⟨k, n, s, a, l, cp, rfl, hT, hb4⟩ := h4.form4; have h8 := hcur.later hc hb4; have fall := f0.trans (fcur.trans (Fr.below hb4)); obtain ⟨s9, x9, z0, z1, z2, z3, zf⟩ := fall.box s1 x1))
  obtain ⟨Z, hZ, hzb, hP, hF, hkp, hsz'⟩ := h8.box4 hc h (f1.trans fall) (Nat.le_refl _) s9 x9 (.int .i64 k) (.int .i64 n) (.string s) (.slice a l cp)
  obtain ⟨y0, y1, y2, y3⟩ := tbox_cells hzb
  rw [← hZ]
  refine bodyPost_ret (v := .tuple #[.agg #[.int .i64 k, .int .i64 n, .string s, .slice a l cp], .int .i64 0]) (by simp [results, Tryz.f104, go_sem, y0, y1, y2, y3]) rfl ?_
  have e3 := Nat.lt_of_lt_of_le s1.1 (Nat.le_trans f0.size fcur.size)
  exact ⟨na, nc, k, n, s, a, l, cp, rfl, hP, hF, tm_box (new_tm c hc hcur hb4.size hT) e3 (Nat.le_of_lt e3) hkp hsz'⟩
set_option maxRecDepth 100000 in
set_option maxHeartbeats 4000000 in
theorem named_atom_d1_e0 (most : Nat) (hk : (ahd c.L i).kind = 1) (hti : (ahd c.L (i + 1)).tight = true) (hp : isP (ahd c.L (i + 1)) [40] = false) (hk1 : ¬ (ahd c.L (i + 1)).kind = 3) (hpr : preR (ahd c.L i).s = none) :
    Calls Tryz.prog 104 #[.pointer (some ⟨c.b, 0, none⟩), .int .i64 most] W (NPost c W na d (.ok (atomT (ahd c.L i).s, 0) (i + 1) ns)) := by
  have hi : i < c.L.length := ahd_lt (by rw [hk]; decide)
  have htk : ∀ j, j < c.L.length → i64ok (ahd c.L j).n ∧ (ahd c.L j).s.length ≤ 4096 := fun j hj => hc.tok _ (by unfold ahd; rw [List.getD_eq_getElem?_getD, List.getElem?_eq_getElem hj]; exact List.getElem_mem hj)
  have hsl := (htk i hi).2
  have hlen := hc.len
  have hii : (i : Int) < 4096 := by omega
  obtain ⟨W1, hW1⟩ : ∃ W1, W1 = W.alloc (.cells #[.int .i64 0, .int .i64 0, .string (ByteArray.mk #[]), .slice none 0 0] 24) := ⟨_, rfl⟩
  obtain ⟨h1, s1, x1, f1⟩ := h.fresh hc #[.int .i64 0, .int .i64 0, .string (ByteArray.mk #[]), .slice none 0 0] 24
  rw [← hW1] at h1 s1 x1 f1
  have hw1 : W1.heap.size = W.heap.size + 1 := by rw [hW1]; simp
  have ha0 := ahead_at c hc h1 0 (by omega)
  rw [Nat.add_zero] at ha0
  have ha1 := fun W' (h' : PAt c W' na nc i d ns) => ahead_at c hc h' 1 (Nat.le_refl _)
  have hz := zeroTerm
  have hzt : ∀ w, (zeroValue 87).run Tryz.prog w = .ok (.agg #[.int .i64 0, .string ⟨#[]⟩, .int .i64 0, .bool false, .bool false]) w := fun w => by kernel_rfl
  have hnot : ∀ (x : Bool) (w : World), (Op.unary .not (.bool x)).run Tryz.prog w = .ok (.bool (!x)) w := fun _ _ => rfl
  have ht := fun W' (h' : PAt c W' na nc (i + 1) d ns) => take_no c hc h' (ByteArray.mk #[40]) [40] rfl hp
  clear hp
  have hpre := fun W' (T : Tab W') => prefix_at (strV (ahd c.L i).s) (ahd c.L i).s (strV_list _) W' T
  simp only [hpr] at hpre
  unfold preV at hpre
  have hat := fun w => atom_at (strV (ahd c.L i).s) w (by rw [strV_size]; unfold maxLen; omega)
  unfold atomT
  clear hpr
  generalize ahd c.L i = t0 at *
  generalize ahd c.L (i + 1) = t1 at *
  obtain ⟨kd0, sn0, nn0, qt0, tt0⟩ := t0
  obtain ⟨kd1, sn1, nn1, qt1, tt1⟩ := t1
  dsimp only at *
  subst hk
  subst hti
  go_enter Tryz.func104, Tryz.ntmps104
  go_upto_region 3 with (first
    | (rw [← hW1]; go_at_call 67; refine ha0.mono ?_; rintro e W2 ⟨rfl, hb2⟩; have h2 := h1.later hc hb2)
    | (go_at_call 67; refine (ha1 _ h2).mono ?_; rintro e W3 ⟨rfl, hb3⟩; obtain ⟨S, hS, hcur, f0, s6, s7, x6, x7, hszS, q1, qf⟩ := named_state c hc h h1 (bel hb2 hb3) hi (.int .i64 1) (.string (strV sn0)) (.int .i64 nn0) (.bool qt0) (.bool tt0) (.int .i64 kd1) (.string (strV sn1)) (.int .i64 nn1) (.bool qt1) (.bool true)))
  rw [← hS]
  have fcur := Fr.refl c S na
  obtain ⟨m0, m1, m2, m3, m4⟩ := fcur.box5 s6 x6
  obtain ⟨p0, p1, p2, p3, p4⟩ := fcur.box5 s7 x7
  clear q1 qf hS
  go_wp2_with (first
    | (go_at_call 121; refine (ht _ hcur).mono ?_; rintro e W5 ⟨rfl, h5, f5⟩; replace fcur := fcur.trans f5; replace hcur := h5; obtain ⟨m0, m1, m2, m3, m4⟩ := fcur.box5 s6 x6; obtain ⟨p0, p1, p2, p3, p4⟩ := fcur.box5 s7 x7)
    | (go_at_call 125; refine (hpre _ (hc.tab.later hcur.bel)).mono ?_; rintro e Wp ⟨rfl, hbp⟩; replace fcur := fcur.trans (Fr.below hbp); replace hcur := hcur.later hc hbp; obtain ⟨m0, m1, m2, m3, m4⟩ := fcur.box5 s6 x6; obtain ⟨p0, p1, p2, p3, p4⟩ := fcur.box5 s7 x7)
    | (go_at_call 16; refine (hat _).mono ?_; rintro e W4 h4; obtain ⟨k, n, s, a, l, cp, rfl, hT, hb4⟩ := h4.form4; have h8 := hcur.later hc hb4; have fall := f0.trans (fcur.trans (Fr.below hb4)); obtain ⟨s9, x9, z0, z1, z2, z3, zf⟩ := fall.box s1 x1))
  obtain ⟨Z, hZ, hzb, hP, hF, hkp, hsz'⟩ := h8.box4 hc h (f1.trans fall) (Nat.le_refl _) s9 x9 (.int .i64 k) (.int .i64 n) (.string s) (.slice a l cp)
  obtain ⟨y0, y1, y2, y3⟩ := tbox_cells hzb
  rw [← hZ]
  refine bodyPost_ret (v := .tuple #[.agg #[.int .i64 k, .int .i64 n, .string s, .slice a l cp], .int .i64 0]) (by simp [results, Tryz.f104, go_sem, y0, y1, y2, y3]) rfl ?_
  have e3 := Nat.lt_of_lt_of_le s1.1 (Nat.le_trans f0.size fcur.size)
  exact ⟨na, nc, k, n, s, a, l, cp, rfl, hP, hF, tm_box (new_tm c hc hcur hb4.size hT) e3 (Nat.le_of_lt e3) hkp hsz'⟩
set_option maxRecDepth 100000 in
set_option maxHeartbeats 4000000 in
theorem named_atom_d1_e1 (most : Nat) (hk : (ahd c.L i).kind = 1) (hti : (ahd c.L (i + 1)).tight = true) (hp : isP (ahd c.L (i + 1)) [40] = false) (hk1 : ¬ (ahd c.L (i + 1)).kind = 3) {own right : Nat} (hpr : preR (ahd c.L i).s = some (own, right)) (hba : bare (ahd c.L i) = false) :
    Calls Tryz.prog 104 #[.pointer (some ⟨c.b, 0, none⟩), .int .i64 most] W (NPost c W na d (.ok (atomT (ahd c.L i).s, 0) (i + 1) ns)) := by
  have hi : i < c.L.length := ahd_lt (by rw [hk]; decide)
  have htk : ∀ j, j < c.L.length → i64ok (ahd c.L j).n ∧ (ahd c.L j).s.length ≤ 4096 := fun j hj => hc.tok _ (by unfold ahd; rw [List.getD_eq_getElem?_getD, List.getElem?_eq_getElem hj]; exact List.getElem_mem hj)
  have hsl := (htk i hi).2
  have hlen := hc.len
  have hii : (i : Int) < 4096 := by omega
  obtain ⟨W1, hW1⟩ : ∃ W1, W1 = W.alloc (.cells #[.int .i64 0, .int .i64 0, .string (ByteArray.mk #[]), .slice none 0 0] 24) := ⟨_, rfl⟩
  obtain ⟨h1, s1, x1, f1⟩ := h.fresh hc #[.int .i64 0, .int .i64 0, .string (ByteArray.mk #[]), .slice none 0 0] 24
  rw [← hW1] at h1 s1 x1 f1
  have hw1 : W1.heap.size = W.heap.size + 1 := by rw [hW1]; simp
  have ha0 := ahead_at c hc h1 0 (by omega)
  rw [Nat.add_zero] at ha0
  have ha1 := fun W' (h' : PAt c W' na nc i d ns) => ahead_at c hc h' 1 (Nat.le_refl _)
  have hz := zeroTerm
  have hzt : ∀ w, (zeroValue 87).run Tryz.prog w = .ok (.agg #[.int .i64 0, .string ⟨#[]⟩, .int .i64 0, .bool false, .bool false]) w := fun w => by kernel_rfl
  have hnot : ∀ (x : Bool) (w : World), (Op.unary .not (.bool x)).run Tryz.prog w = .ok (.bool (!x)) w := fun _ _ => rfl
  have ht := fun W' (h' : PAt c W' na nc (i + 1) d ns) => take_no c hc h' (ByteArray.mk #[40]) [40] rfl hp
  clear hp
  have hbar := fun W' => isBare_at (ahd c.L i) W'
  rw [hba] at hbar
  have hpre := fun W' (T : Tab W') => prefix_at (strV (ahd c.L i).s) (ahd c.L i).s (strV_list _) W' T
  simp only [hpr] at hpre
  unfold preV at hpre
  have hat := fun w => atom_at (strV (ahd c.L i).s) w (by rw [strV_size]; unfold maxLen; omega)
  unfold atomT
  clear hpr hba
  generalize ahd c.L i = t0 at *
  generalize ahd c.L (i + 1) = t1 at *
  obtain ⟨kd0, sn0, nn0, qt0, tt0⟩ := t0
  obtain ⟨kd1, sn1, nn1, qt1, tt1⟩ := t1
  dsimp only at *
  subst hk
  subst hti
  go_enter Tryz.func104, Tryz.ntmps104
  go_upto_region 3 with (first
    | (rw [← hW1]; go_at_call 67; refine ha0.mono ?_; rintro e W2 ⟨rfl, hb2⟩; have h2 := h1.later hc hb2)
    | (go_at_call 67; refine (ha1 _ h2).mono ?_; rintro e W3 ⟨rfl, hb3⟩; obtain ⟨S, hS, hcur, f0, s6, s7, x6, x7, hszS, q1, qf⟩ := named_state c hc h h1 (bel hb2 hb3) hi (.int .i64 1) (.string (strV sn0)) (.int .i64 nn0) (.bool qt0) (.bool tt0) (.int .i64 kd1) (.string (strV sn1)) (.int .i64 nn1) (.bool qt1) (.bool true)))
  rw [← hS]
  have fcur := Fr.refl c S na
  obtain ⟨m0, m1, m2, m3, m4⟩ := fcur.box5 s6 x6
  obtain ⟨p0, p1, p2, p3, p4⟩ := fcur.box5 s7 x7
  clear q1 qf hS
  go_wp2_with (first
    | (go_at_call 121; refine (ht _ hcur).mono ?_; rintro e W5 ⟨rfl, h5, f5⟩; replace fcur := fcur.trans f5; replace hcur := h5; obtain ⟨m0, m1, m2, m3, m4⟩ := fcur.box5 s6 x6; obtain ⟨p0, p1, p2, p3, p4⟩ := fcur.box5 s7 x7)
    | (go_at_call 105; refine (hbar _).mono ?_; rintro e Wr ⟨rfl, hbr⟩; replace fcur := fcur.trans (Fr.below hbr); replace hcur := hcur.later hc hbr; obtain ⟨m0, m1, m2, m3, m4⟩ := fcur.box5 s6 x6; obtain ⟨p0, p1, p2, p3, p4⟩ := fcur.box5 s7 x7)
    | (go_at_call 125; refine (hpre _ (hc.tab.later hcur.bel)).mono ?_; rintro e Wp ⟨rfl, hbp⟩; replace fcur := fcur.trans (Fr.below hbp); replace hcur := hcur.later hc hbp; obtain ⟨m0, m1, m2, m3, m4⟩ := fcur.box5 s6 x6; obtain ⟨p0, p1, p2, p3, p4⟩ := fcur.box5 s7 x7)
    | (go_at_call 16; refine (hat _).mono ?_; rintro e W4 h4; obtain ⟨k, n, s, a, l, cp, rfl, hT, hb4⟩ := h4.form4; have h8 := hcur.later hc hb4; have fall := f0.trans (fcur.trans (Fr.below hb4)); obtain ⟨s9, x9, z0, z1, z2, z3, zf⟩ := fall.box s1 x1))
  obtain ⟨Z, hZ, hzb, hP, hF, hkp, hsz'⟩ := h8.box4 hc h (f1.trans fall) (Nat.le_refl _) s9 x9 (.int .i64 k) (.int .i64 n) (.string s) (.slice a l cp)
  obtain ⟨y0, y1, y2, y3⟩ := tbox_cells hzb
  rw [← hZ]
  refine bodyPost_ret (v := .tuple #[.agg #[.int .i64 k, .int .i64 n, .string s, .slice a l cp], .int .i64 0]) (by simp [results, Tryz.f104, go_sem, y0, y1, y2, y3]) rfl ?_
  have e3 := Nat.lt_of_lt_of_le s1.1 (Nat.le_trans f0.size fcur.size)
  exact ⟨na, nc, k, n, s, a, l, cp, rfl, hP, hF, tm_box (new_tm c hc hcur hb4.size hT) e3 (Nat.le_of_lt e3) hkp hsz'⟩
set_option maxRecDepth 100000 in
set_option maxHeartbeats 4000000 in
theorem named_atom_d1_e2 (most : Nat) (hk : (ahd c.L i).kind = 1) (hti : (ahd c.L (i + 1)).tight = true) (hp : isP (ahd c.L (i + 1)) [40] = false) (hk1 : ¬ (ahd c.L (i + 1)).kind = 3) {own right : Nat} (hpr : preR (ahd c.L i).s = some (own, right)) (hom : ¬ own ≤ most) (hba : bare (ahd c.L i) = true) :
    Calls Tryz.prog 104 #[.pointer (some ⟨c.b, 0, none⟩), .int .i64 most] W (NPost c W na d (.ok (atomT (ahd c.L i).s, 0) (i + 1) ns)) := by
  have hi : i < c.L.length := ahd_lt (by rw [hk]; decide)
  have htk : ∀ j, j < c.L.length → i64ok (ahd c.L j).n ∧ (ahd c.L j).s.length ≤ 4096 := fun j hj => hc.tok _ (by unfold ahd; rw [List.getD_eq_getElem?_getD, List.getElem?_eq_getElem hj]; exact List.getElem_mem hj)
  have hsl := (htk i hi).2
  have hlen := hc.len
  have hii : (i : Int) < 4096 := by omega
  obtain ⟨W1, hW1⟩ : ∃ W1, W1 = W.alloc (.cells #[.int .i64 0, .int .i64 0, .string (ByteArray.mk #[]), .slice none 0 0] 24) := ⟨_, rfl⟩
  obtain ⟨h1, s1, x1, f1⟩ := h.fresh hc #[.int .i64 0, .int .i64 0, .string (ByteArray.mk #[]), .slice none 0 0] 24
  rw [← hW1] at h1 s1 x1 f1
  have hw1 : W1.heap.size = W.heap.size + 1 := by rw [hW1]; simp
  have ha0 := ahead_at c hc h1 0 (by omega)
  rw [Nat.add_zero] at ha0
  have ha1 := fun W' (h' : PAt c W' na nc i d ns) => ahead_at c hc h' 1 (Nat.le_refl _)
  have hz := zeroTerm
  have hzt : ∀ w, (zeroValue 87).run Tryz.prog w = .ok (.agg #[.int .i64 0, .string ⟨#[]⟩, .int .i64 0, .bool false, .bool false]) w := fun w => by kernel_rfl
  have hnot : ∀ (x : Bool) (w : World), (Op.unary .not (.bool x)).run Tryz.prog w = .ok (.bool (!x)) w := fun _ _ => rfl
  have ht := fun W' (h' : PAt c W' na nc (i + 1) d ns) => take_no c hc h' (ByteArray.mk #[40]) [40] rfl hp
  clear hp
  have hbar := fun W' => isBare_at (ahd c.L i) W'
  rw [hba] at hbar
  have hpre := fun W' (T : Tab W') => prefix_at (strV (ahd c.L i).s) (ahd c.L i).s (strV_list _) W' T
  simp only [hpr] at hpre
  unfold preV at hpre
  have hoi : ¬ ((own : Int) ≤ (most : Int)) := by omega
  have hat := fun w => atom_at (strV (ahd c.L i).s) w (by rw [strV_size]; unfold maxLen; omega)
  unfold atomT
  clear hpr hba hom
  generalize ahd c.L i = t0 at *
  generalize ahd c.L (i + 1) = t1 at *
  obtain ⟨kd0, sn0, nn0, qt0, tt0⟩ := t0
  obtain ⟨kd1, sn1, nn1, qt1, tt1⟩ := t1
  dsimp only at *
  subst hk
  subst hti
  go_enter Tryz.func104, Tryz.ntmps104
  go_upto_region 3 with (first
    | (rw [← hW1]; go_at_call 67; refine ha0.mono ?_; rintro e W2 ⟨rfl, hb2⟩; have h2 := h1.later hc hb2)
    | (go_at_call 67; refine (ha1 _ h2).mono ?_; rintro e W3 ⟨rfl, hb3⟩; obtain ⟨S, hS, hcur, f0, s6, s7, x6, x7, hszS, q1, qf⟩ := named_state c hc h h1 (bel hb2 hb3) hi (.int .i64 1) (.string (strV sn0)) (.int .i64 nn0) (.bool qt0) (.bool tt0) (.int .i64 kd1) (.string (strV sn1)) (.int .i64 nn1) (.bool qt1) (.bool true)))
  rw [← hS]
  have fcur := Fr.refl c S na
  obtain ⟨m0, m1, m2, m3, m4⟩ := fcur.box5 s6 x6
  obtain ⟨p0, p1, p2, p3, p4⟩ := fcur.box5 s7 x7
  clear q1 qf hS
  go_wp2_with (first
    | (go_at_call 121; refine (ht _ hcur).mono ?_; rintro e W5 ⟨rfl, h5, f5⟩; replace fcur := fcur.trans f5; replace hcur := h5; obtain ⟨m0, m1, m2, m3, m4⟩ := fcur.box5 s6 x6; obtain ⟨p0, p1, p2, p3, p4⟩ := fcur.box5 s7 x7)
    | (go_at_call 105; refine (hbar _).mono ?_; rintro e Wr ⟨rfl, hbr⟩; replace fcur := fcur.trans (Fr.below hbr); replace hcur := hcur.later hc hbr; obtain ⟨m0, m1, m2, m3, m4⟩ := fcur.box5 s6 x6; obtain ⟨p0, p1, p2, p3, p4⟩ := fcur.box5 s7 x7)
    | (go_at_call 125; refine (hpre _ (hc.tab.later hcur.bel)).mono ?_; rintro e Wp ⟨rfl, hbp⟩; replace fcur := fcur.trans (Fr.below hbp); replace hcur := hcur.later hc hbp; obtain ⟨m0, m1, m2, m3, m4⟩ := fcur.box5 s6 x6; obtain ⟨p0, p1, p2, p3, p4⟩ := fcur.box5 s7 x7)
    | (go_at_call 16; refine (hat _).mono ?_; rintro e W4 h4; obtain ⟨k, n, s, a, l, cp, rfl, hT, hb4⟩ := h4.form4; have h8 := hcur.later hc hb4; have fall := f0.trans (fcur.trans (Fr.below hb4)); obtain ⟨s9, x9, z0, z1, z2, z3, zf⟩ := fall.box s1 x1))
  obtain ⟨Z, hZ, hzb, hP, hF, hkp, hsz'⟩ := h8.box4 hc h (f1.trans fall) (Nat.le_refl _) s9 x9 (.int .i64 k) (.int .i64 n) (.string s) (.slice a l cp)
  obtain ⟨y0, y1, y2, y3⟩ := tbox_cells hzb
  rw [← hZ]
  refine bodyPost_ret (v := .tuple #[.agg #[.int .i64 k, .int .i64 n, .string s, .slice a l cp], .int .i64 0]) (by simp [results, Tryz.f104, go_sem, y0, y1, y2, y3]) rfl ?_
  have e3 := Nat.lt_of_lt_of_le s1.1 (Nat.le_trans f0.size fcur.size)
  exact ⟨na, nc, k, n, s, a, l, cp, rfl, hP, hF, tm_box (new_tm c hc hcur hb4.size hT) e3 (Nat.le_of_lt e3) hkp hsz'⟩
set_option maxRecDepth 100000 in
set_option maxHeartbeats 4000000 in
theorem named_atom_d1_e3 (most : Nat) (hk : (ahd c.L i).kind = 1) (hti : (ahd c.L (i + 1)).tight = true) (hp : isP (ahd c.L (i + 1)) [40] = false) (hk1 : ¬ (ahd c.L (i + 1)).kind = 3) {own right : Nat} (hpr : preR (ahd c.L i).s = some (own, right)) (hom : own ≤ most) (hbg : begins (ahd c.L (i + 1)) = false) (hba : bare (ahd c.L i) = true) :
    Calls Tryz.prog 104 #[.pointer (some ⟨c.b, 0, none⟩), .int .i64 most] W (NPost c W na d (.ok (atomT (ahd c.L i).s, 0) (i + 1) ns)) := by
  have hi : i < c.L.length := ahd_lt (by rw [hk]; decide)
  have htk : ∀ j, j < c.L.length → i64ok (ahd c.L j).n ∧ (ahd c.L j).s.length ≤ 4096 := fun j hj => hc.tok _ (by unfold ahd; rw [List.getD_eq_getElem?_getD, List.getElem?_eq_getElem hj]; exact List.getElem_mem hj)
  have hsl := (htk i hi).2
  have hlen := hc.len
  have hii : (i : Int) < 4096 := by omega
  obtain ⟨W1, hW1⟩ : ∃ W1, W1 = W.alloc (.cells #[.int .i64 0, .int .i64 0, .string (ByteArray.mk #[]), .slice none 0 0] 24) := ⟨_, rfl⟩
  obtain ⟨h1, s1, x1, f1⟩ := h.fresh hc #[.int .i64 0, .int .i64 0, .string (ByteArray.mk #[]), .slice none 0 0] 24
  rw [← hW1] at h1 s1 x1 f1
  have hw1 : W1.heap.size = W.heap.size + 1 := by rw [hW1]; simp
  have ha0 := ahead_at c hc h1 0 (by omega)
  rw [Nat.add_zero] at ha0
  have ha1 := fun W' (h' : PAt c W' na nc i d ns) => ahead_at c hc h' 1 (Nat.le_refl _)
  have hz := zeroTerm
  have hzt : ∀ w, (zeroValue 87).run Tryz.prog w = .ok (.agg #[.int .i64 0, .string ⟨#[]⟩, .int .i64 0, .bool false, .bool false]) w := fun w => by kernel_rfl
  have hnot : ∀ (x : Bool) (w : World), (Op.unary .not (.bool x)).run Tryz.prog w = .ok (.bool (!x)) w := fun _ _ => rfl
  have ht := fun W' (h' : PAt c W' na nc (i + 1) d ns) => take_no c hc h' (ByteArray.mk #[40]) [40] rfl hp
  clear hp
  have hbar := fun W' => isBare_at (ahd c.L i) W'
  rw [hba] at hbar
  have hpre := fun W' (T : Tab W') => prefix_at (strV (ahd c.L i).s) (ahd c.L i).s (strV_list _) W' T
  simp only [hpr] at hpre
  unfold preV at hpre
  have hbeg := fun W' (T : Tab W') => begins_at (ahd c.L (i + 1)) W' T
  rw [hbg] at hbeg
  have hoi : (own : Int) ≤ (most : Int) := by omega
  have hat := fun w => atom_at (strV (ahd c.L i).s) w (by rw [strV_size]; unfold maxLen; omega)
  unfold atomT
  clear hpr hba hbg hom
  generalize ahd c.L i = t0 at *
  generalize ahd c.L (i + 1) = t1 at *
  obtain ⟨kd0, sn0, nn0, qt0, tt0⟩ := t0
  obtain ⟨kd1, sn1, nn1, qt1, tt1⟩ := t1
  dsimp only at *
  subst hk
  subst hti
  go_enter Tryz.func104, Tryz.ntmps104
  go_upto_region 3 with (first
    | (rw [← hW1]; go_at_call 67; refine ha0.mono ?_; rintro e W2 ⟨rfl, hb2⟩; have h2 := h1.later hc hb2)
    | (go_at_call 67; refine (ha1 _ h2).mono ?_; rintro e W3 ⟨rfl, hb3⟩; obtain ⟨S, hS, hcur, f0, s6, s7, x6, x7, hszS, q1, qf⟩ := named_state c hc h h1 (bel hb2 hb3) hi (.int .i64 1) (.string (strV sn0)) (.int .i64 nn0) (.bool qt0) (.bool tt0) (.int .i64 kd1) (.string (strV sn1)) (.int .i64 nn1) (.bool qt1) (.bool true)))
  rw [← hS]
  have fcur := Fr.refl c S na
  obtain ⟨m0, m1, m2, m3, m4⟩ := fcur.box5 s6 x6
  obtain ⟨p0, p1, p2, p3, p4⟩ := fcur.box5 s7 x7
  clear q1 qf hS
  go_wp2_with (first
    | (go_at_call 121; refine (ht _ hcur).mono ?_; rintro e W5 ⟨rfl, h5, f5⟩; replace fcur := fcur.trans f5; replace hcur := h5; obtain ⟨m0, m1, m2, m3, m4⟩ := fcur.box5 s6 x6; obtain ⟨p0, p1, p2, p3, p4⟩ := fcur.box5 s7 x7)
    | (go_at_call 105; refine (hbar _).mono ?_; rintro e Wr ⟨rfl, hbr⟩; replace fcur := fcur.trans (Fr.below hbr); replace hcur := hcur.later hc hbr; obtain ⟨m0, m1, m2, m3, m4⟩ := fcur.box5 s6 x6; obtain ⟨p0, p1, p2, p3, p4⟩ := fcur.box5 s7 x7)
    | (go_at_call 125; refine (hpre _ (hc.tab.later hcur.bel)).mono ?_; rintro e Wp ⟨rfl, hbp⟩; replace fcur := fcur.trans (Fr.below hbp); replace hcur := hcur.later hc hbp; obtain ⟨m0, m1, m2, m3, m4⟩ := fcur.box5 s6 x6; obtain ⟨p0, p1, p2, p3, p4⟩ := fcur.box5 s7 x7)
    | (go_at_call 126; refine (hbeg _ (hc.tab.later hcur.bel)).mono ?_; rintro e Wq ⟨rfl, hbq⟩; replace fcur := fcur.trans (Fr.below hbq); replace hcur := hcur.later hc hbq; obtain ⟨m0, m1, m2, m3, m4⟩ := fcur.box5 s6 x6; obtain ⟨p0, p1, p2, p3, p4⟩ := fcur.box5 s7 x7)
    | (go_at_call 16; refine (hat _).mono ?_; rintro e W4 h4; obtain ⟨k, n, s, a, l, cp, rfl, hT, hb4⟩ := h4.form4; have h8 := hcur.later hc hb4; have fall := f0.trans (fcur.trans (Fr.below hb4)); obtain ⟨s9, x9, z0, z1, z2, z3, zf⟩ := fall.box s1 x1))
  obtain ⟨Z, hZ, hzb, hP, hF, hkp, hsz'⟩ := h8.box4 hc h (f1.trans fall) (Nat.le_refl _) s9 x9 (.int .i64 k) (.int .i64 n) (.string s) (.slice a l cp)
  obtain ⟨y0, y1, y2, y3⟩ := tbox_cells hzb
  rw [← hZ]
  refine bodyPost_ret (v := .tuple #[.agg #[.int .i64 k, .int .i64 n, .string s, .slice a l cp], .int .i64 0]) (by simp [results, Tryz.f104, go_sem, y0, y1, y2, y3]) rfl ?_
  have e3 := Nat.lt_of_lt_of_le s1.1 (Nat.le_trans f0.size fcur.size)
  exact ⟨na, nc, k, n, s, a, l, cp, rfl, hP, hF, tm_box (new_tm c hc hcur hb4.size hT) e3 (Nat.le_of_lt e3) hkp hsz'⟩
set_option maxRecDepth 100000 in
set_option maxHeartbeats 4000000 in
theorem named_atom_d2_e0 (most : Nat) (hk : (ahd c.L i).kind = 1) (hti : (ahd c.L (i + 1)).tight = true) (hp : isP (ahd c.L (i + 1)) [40] = false) (hk1 : (ahd c.L (i + 1)).kind = 3) (hpr : preR (ahd c.L i).s = none) (hba : bare (ahd c.L i) = false) :
    Calls Tryz.prog 104 #[.pointer (some ⟨c.b, 0, none⟩), .int .i64 most] W (NPost c W na d (.ok (atomT (ahd c.L i).s, 0) (i + 1) ns)) := by
  have hi : i < c.L.length := ahd_lt (by rw [hk]; decide)
  have htk : ∀ j, j < c.L.length → i64ok (ahd c.L j).n ∧ (ahd c.L j).s.length ≤ 4096 := fun j hj => hc.tok _ (by unfold ahd; rw [List.getD_eq_getElem?_getD, List.getElem?_eq_getElem hj]; exact List.getElem_mem hj)
  have hsl := (htk i hi).2
  have hlen := hc.len
  have hii : (i : Int) < 4096 := by omega
  obtain ⟨W1, hW1⟩ : ∃ W1, W1 = W.alloc (.cells #[.int .i64 0, .int .i64 0, .string (ByteArray.mk #[]), .slice none 0 0] 24) := ⟨_, rfl⟩
  obtain ⟨h1, s1, x1, f1⟩ := h.fresh hc #[.int .i64 0, .int .i64 0, .string (ByteArray.mk #[]), .slice none 0 0] 24
  rw [← hW1] at h1 s1 x1 f1
  have hw1 : W1.heap.size = W.heap.size + 1 := by rw [hW1]; simp
  have ha0 := ahead_at c hc h1 0 (by omega)
  rw [Nat.add_zero] at ha0
  have ha1 := fun W' (h' : PAt c W' na nc i d ns) => ahead_at c hc h' 1 (Nat.le_refl _)
  have hz := zeroTerm
  have hzt : ∀ w, (zeroValue 87).run Tryz.prog w = .ok (.agg #[.int .i64 0, .string ⟨#[]⟩, .int .i64 0, .bool false, .bool false]) w := fun w => by kernel_rfl
  have hnot : ∀ (x : Bool) (w : World), (Op.unary .not (.bool x)).run Tryz.prog w = .ok (.bool (!x)) w := fun _ _ => rfl
  have ht := fun W' (h' : PAt c W' na nc (i + 1) d ns) => take_no c hc h' (ByteArray.mk #[40]) [40] rfl hp
  clear hp
  have hbar := fun W' => isBare_at (ahd c.L i) W'
  rw [hba] at hbar
  have hpre := fun W' (T : Tab W') => prefix_at (strV (ahd c.L i).s) (ahd c.L i).s (strV_list _) W' T
  simp only [hpr] at hpre
  unfold preV at hpre
  have hat := fun w => atom_at (strV (ahd c.L i).s) w (by rw [strV_size]; unfold maxLen; omega)
  unfold atomT
  clear hpr hba
  generalize ahd c.L i = t0 at *
  generalize ahd c.L (i + 1) = t1 at *
  obtain ⟨kd0, sn0, nn0, qt0, tt0⟩ := t0
  obtain ⟨kd1, sn1, nn1, qt1, tt1⟩ := t1
  dsimp only at *
  subst hk
  subst hti hk1
  go_enter Tryz.func104, Tryz.ntmps104
  go_upto_region 3 with (first
    | (rw [← hW1]; go_at_call 67; refine ha0.mono ?_; rintro e W2 ⟨rfl, hb2⟩; have h2 := h1.later hc hb2)
    | (go_at_call 67; refine (ha1 _ h2).mono ?_; rintro e W3 ⟨rfl, hb3⟩; obtain ⟨S, hS, hcur, f0, s6, s7, x6, x7, hszS, q1, qf⟩ := named_state c hc h h1 (bel hb2 hb3) hi (.int .i64 1) (.string (strV sn0)) (.int .i64 nn0) (.bool qt0) (.bool tt0) (.int .i64 3) (.string (strV sn1)) (.int .i64 nn1) (.bool qt1) (.bool true)))
  rw [← hS]
  have fcur := Fr.refl c S na
  obtain ⟨m0, m1, m2, m3, m4⟩ := fcur.box5 s6 x6
  obtain ⟨p0, p1, p2, p3, p4⟩ := fcur.box5 s7 x7
  clear q1 qf hS
  go_wp2_with (first
    | (go_at_call 121; refine (ht _ hcur).mono ?_; rintro e W5 ⟨rfl, h5, f5⟩; replace fcur := fcur.trans f5; replace hcur := h5; obtain ⟨m0, m1, m2, m3, m4⟩ := fcur.box5 s6 x6; obtain ⟨p0, p1, p2, p3, p4⟩ := fcur.box5 s7 x7)
    | (go_at_call 105; refine (hbar _).mono ?_; rintro e Wr ⟨rfl, hbr⟩; replace fcur := fcur.trans (Fr.below hbr); replace hcur := hcur.later hc hbr; obtain ⟨m0, m1, m2, m3, m4⟩ := fcur.box5 s6 x6; obtain ⟨p0, p1, p2, p3, p4⟩ := fcur.box5 s7 x7)
    | (go_at_call 125; refine (hpre _ (hc.tab.later hcur.bel)).mono ?_; rintro e Wp ⟨rfl, hbp⟩; replace fcur := fcur.trans (Fr.below hbp); replace hcur := hcur.later hc hbp; obtain ⟨m0, m1, m2, m3, m4⟩ := fcur.box5 s6 x6; obtain ⟨p0, p1, p2, p3, p4⟩ := fcur.box5 s7 x7)
    | (go_at_call 16; refine (hat _).mono ?_; rintro e W4 h4; obtain ⟨k, n, s, a, l, cp, rfl, hT, hb4⟩ := h4.form4; have h8 := hcur.later hc hb4; have fall := f0.trans (fcur.trans (Fr.below hb4)); obtain ⟨s9, x9, z0, z1, z2, z3, zf⟩ := fall.box s1 x1))
  obtain ⟨Z, hZ, hzb, hP, hF, hkp, hsz'⟩ := h8.box4 hc h (f1.trans fall) (Nat.le_refl _) s9 x9 (.int .i64 k) (.int .i64 n) (.string s) (.slice a l cp)
  obtain ⟨y0, y1, y2, y3⟩ := tbox_cells hzb
  rw [← hZ]
  refine bodyPost_ret (v := .tuple #[.agg #[.int .i64 k, .int .i64 n, .string s, .slice a l cp], .int .i64 0]) (by simp [results, Tryz.f104, go_sem, y0, y1, y2, y3]) rfl ?_
  have e3 := Nat.lt_of_lt_of_le s1.1 (Nat.le_trans f0.size fcur.size)
  exact ⟨na, nc, k, n, s, a, l, cp, rfl, hP, hF, tm_box (new_tm c hc hcur hb4.size hT) e3 (Nat.le_of_lt e3) hkp hsz'⟩
set_option maxRecDepth 100000 in
set_option maxHeartbeats 4000000 in
theorem named_atom_d2_e1 (most : Nat) (hk : (ahd c.L i).kind = 1) (hti : (ahd c.L (i + 1)).tight = true) (hp : isP (ahd c.L (i + 1)) [40] = false) (hk1 : (ahd c.L (i + 1)).kind = 3) {own right : Nat} (hpr : preR (ahd c.L i).s = some (own, right)) (hba : bare (ahd c.L i) = false) :
    Calls Tryz.prog 104 #[.pointer (some ⟨c.b, 0, none⟩), .int .i64 most] W (NPost c W na d (.ok (atomT (ahd c.L i).s, 0) (i + 1) ns)) := by
  have hi : i < c.L.length := ahd_lt (by rw [hk]; decide)
  have htk : ∀ j, j < c.L.length → i64ok (ahd c.L j).n ∧ (ahd c.L j).s.length ≤ 4096 := fun j hj => hc.tok _ (by unfold ahd; rw [List.getD_eq_getElem?_getD, List.getElem?_eq_getElem hj]; exact List.getElem_mem hj)
  have hsl := (htk i hi).2
  have hlen := hc.len
  have hii : (i : Int) < 4096 := by omega
  obtain ⟨W1, hW1⟩ : ∃ W1, W1 = W.alloc (.cells #[.int .i64 0, .int .i64 0, .string (ByteArray.mk #[]), .slice none 0 0] 24) := ⟨_, rfl⟩
  obtain ⟨h1, s1, x1, f1⟩ := h.fresh hc #[.int .i64 0, .int .i64 0, .string (ByteArray.mk #[]), .slice none 0 0] 24
  rw [← hW1] at h1 s1 x1 f1
  have hw1 : W1.heap.size = W.heap.size + 1 := by rw [hW1]; simp
  have ha0 := ahead_at c hc h1 0 (by omega)
  rw [Nat.add_zero] at ha0
  have ha1 := fun W' (h' : PAt c W' na nc i d ns) => ahead_at c hc h' 1 (Nat.le_refl _)
  have hz := zeroTerm
  have hzt : ∀ w, (zeroValue 87).run Tryz.prog w = .ok (.agg #[.int .i64 0, .string ⟨#[]⟩, .int .i64 0, .bool false, .bool false]) w := fun w => by kernel_rfl
  have hnot : ∀ (x : Bool) (w : World), (Op.unary .not (.bool x)).run Tryz.prog w = .ok (.bool (!x)) w := fun _ _ => rfl
  have ht := fun W' (h' : PAt c W' na nc (i + 1) d ns) => take_no c hc h' (ByteArray.mk #[40]) [40] rfl hp
  clear hp
  have hbar := fun W' => isBare_at (ahd c.L i) W'
  rw [hba] at hbar
  have hpre := fun W' (T : Tab W') => prefix_at (strV (ahd c.L i).s) (ahd c.L i).s (strV_list _) W' T
  simp only [hpr] at hpre
  unfold preV at hpre
  have hat := fun w => atom_at (strV (ahd c.L i).s) w (by rw [strV_size]; unfold maxLen; omega)
  unfold atomT
  clear hpr hba
  generalize ahd c.L i = t0 at *
  generalize ahd c.L (i + 1) = t1 at *
  obtain ⟨kd0, sn0, nn0, qt0, tt0⟩ := t0
  obtain ⟨kd1, sn1, nn1, qt1, tt1⟩ := t1
  dsimp only at *
  subst hk
  subst hti hk1
  go_enter Tryz.func104, Tryz.ntmps104
  go_upto_region 3 with (first
    | (rw [← hW1]; go_at_call 67; refine ha0.mono ?_; rintro e W2 ⟨rfl, hb2⟩; have h2 := h1.later hc hb2)
    | (go_at_call 67; refine (ha1 _ h2).mono ?_; rintro e W3 ⟨rfl, hb3⟩; obtain ⟨S, hS, hcur, f0, s6, s7, x6, x7, hszS, q1, qf⟩ := named_state c hc h h1 (bel hb2 hb3) hi (.int .i64 1) (.string (strV sn0)) (.int .i64 nn0) (.bool qt0) (.bool tt0) (.int .i64 3) (.string (strV sn1)) (.int .i64 nn1) (.bool qt1) (.bool true)))
  rw [← hS]
  have fcur := Fr.refl c S na
  obtain ⟨m0, m1, m2, m3, m4⟩ := fcur.box5 s6 x6
  obtain ⟨p0, p1, p2, p3, p4⟩ := fcur.box5 s7 x7
  clear q1 qf hS
  go_wp2_with (first
    | (go_at_call 121; refine (ht _ hcur).mono ?_; rintro e W5 ⟨rfl, h5, f5⟩; replace fcur := fcur.trans f5; replace hcur := h5; obtain ⟨m0, m1, m2, m3, m4⟩ := fcur.box5 s6 x6; obtain ⟨p0, p1, p2, p3, p4⟩ := fcur.box5 s7 x7)
    | (go_at_call 105; refine (hbar _).mono ?_; rintro e Wr ⟨rfl, hbr⟩; replace fcur := fcur.trans (Fr.below hbr); replace hcur := hcur.later hc hbr; obtain ⟨m0, m1, m2, m3, m4⟩ := fcur.box5 s6 x6; obtain ⟨p0, p1, p2, p3, p4⟩ := fcur.box5 s7 x7)
    | (go_at_call 125; refine (hpre _ (hc.tab.later hcur.bel)).mono ?_; rintro e Wp ⟨rfl, hbp⟩; replace fcur := fcur.trans (Fr.below hbp); replace hcur := hcur.later hc hbp; obtain ⟨m0, m1, m2, m3, m4⟩ := fcur.box5 s6 x6; obtain ⟨p0, p1, p2, p3, p4⟩ := fcur.box5 s7 x7)
    | (go_at_call 16; refine (hat _).mono ?_; rintro e W4 h4; obtain ⟨k, n, s, a, l, cp, rfl, hT, hb4⟩ := h4.form4; have h8 := hcur.later hc hb4; have fall := f0.trans (fcur.trans (Fr.below hb4)); obtain ⟨s9, x9, z0, z1, z2, z3, zf⟩ := fall.box s1 x1))
  obtain ⟨Z, hZ, hzb, hP, hF, hkp, hsz'⟩ := h8.box4 hc h (f1.trans fall) (Nat.le_refl _) s9 x9 (.int .i64 k) (.int .i64 n) (.string s) (.slice a l cp)
  obtain ⟨y0, y1, y2, y3⟩ := tbox_cells hzb
  rw [← hZ]
  refine bodyPost_ret (v := .tuple #[.agg #[.int .i64 k, .int .i64 n, .string s, .slice a l cp], .int .i64 0]) (by simp [results, Tryz.f104, go_sem, y0, y1, y2, y3]) rfl ?_
  have e3 := Nat.lt_of_lt_of_le s1.1 (Nat.le_trans f0.size fcur.size)
  exact ⟨na, nc, k, n, s, a, l, cp, rfl, hP, hF, tm_box (new_tm c hc hcur hb4.size hT) e3 (Nat.le_of_lt e3) hkp hsz'⟩
set_option maxRecDepth 100000 in
set_option maxHeartbeats 4000000 in
theorem named_atom_d3_e0 (most : Nat) (hk : (ahd c.L i).kind = 1) (hti : (ahd c.L (i + 1)).tight = true) (hp : isP (ahd c.L (i + 1)) [40] = false) (hk1 : (ahd c.L (i + 1)).kind = 3) (hs : ¬ (ahd c.L i).s = [45]) (hpr : preR (ahd c.L i).s = none) (hba : bare (ahd c.L i) = true) :
    Calls Tryz.prog 104 #[.pointer (some ⟨c.b, 0, none⟩), .int .i64 most] W (NPost c W na d (.ok (atomT (ahd c.L i).s, 0) (i + 1) ns)) := by
  have hi : i < c.L.length := ahd_lt (by rw [hk]; decide)
  have htk : ∀ j, j < c.L.length → i64ok (ahd c.L j).n ∧ (ahd c.L j).s.length ≤ 4096 := fun j hj => hc.tok _ (by unfold ahd; rw [List.getD_eq_getElem?_getD, List.getElem?_eq_getElem hj]; exact List.getElem_mem hj)
  have hsl := (htk i hi).2
  have hlen := hc.len
  have hii : (i : Int) < 4096 := by omega
  obtain ⟨W1, hW1⟩ : ∃ W1, W1 = W.alloc (.cells #[.int .i64 0, .int .i64 0, .string (ByteArray.mk #[]), .slice none 0 0] 24) := ⟨_, rfl⟩
  obtain ⟨h1, s1, x1, f1⟩ := h.fresh hc #[.int .i64 0, .int .i64 0, .string (ByteArray.mk #[]), .slice none 0 0] 24
  rw [← hW1] at h1 s1 x1 f1
  have hw1 : W1.heap.size = W.heap.size + 1 := by rw [hW1]; simp
  have ha0 := ahead_at c hc h1 0 (by omega)
  rw [Nat.add_zero] at ha0
  have ha1 := fun W' (h' : PAt c W' na nc i d ns) => ahead_at c hc h' 1 (Nat.le_refl _)
  have hz := zeroTerm
  have hzt : ∀ w, (zeroValue 87).run Tryz.prog w = .ok (.agg #[.int .i64 0, .string ⟨#[]⟩, .int .i64 0, .bool false, .bool false]) w := fun w => by kernel_rfl
  have hnot : ∀ (x : Bool) (w : World), (Op.unary .not (.bool x)).run Tryz.prog w = .ok (.bool (!x)) w := fun _ _ => rfl
  have ht := fun W' (h' : PAt c W' na nc (i + 1) d ns) => take_no c hc h' (ByteArray.mk #[40]) [40] rfl hp
  clear hp
  have hE : ((strV (ahd c.L i).s).toList == [45]) = false := by rw [rd_beq (strV_list _)]; exact decide_eq_false hs
  have hbar := fun W' => isBare_at (ahd c.L i) W'
  rw [hba] at hbar
  have hpre := fun W' (T : Tab W') => prefix_at (strV (ahd c.L i).s) (ahd c.L i).s (strV_list _) W' T
  simp only [hpr] at hpre
  unfold preV at hpre
  have hat := fun w => atom_at (strV (ahd c.L i).s) w (by rw [strV_size]; unfold maxLen; omega)
  unfold atomT
  clear hpr hba
  generalize ahd c.L i = t0 at *
  generalize ahd c.L (i + 1) = t1 at *
  obtain ⟨kd0, sn0, nn0, qt0, tt0⟩ := t0
  obtain ⟨kd1, sn1, nn1, qt1, tt1⟩ := t1
  dsimp only at *
  subst hk
  subst hti hk1
  go_enter Tryz.func104, Tryz.ntmps104
  go_upto_region 3 with (first
    | (rw [← hW1]; go_at_call 67; refine ha0.mono ?_; rintro e W2 ⟨rfl, hb2⟩; have h2 := h1.later hc hb2)
    | (go_at_call 67; refine (ha1 _ h2).mono ?_; rintro e W3 ⟨rfl, hb3⟩; obtain ⟨S, hS, hcur, f0, s6, s7, x6, x7, hszS, q1, qf⟩ := named_state c hc h h1 (bel hb2 hb3) hi (.int .i64 1) (.string (strV sn0)) (.int .i64 nn0) (.bool qt0) (.bool tt0) (.int .i64 3) (.string (strV sn1)) (.int .i64 nn1) (.bool qt1) (.bool true)))
  rw [← hS]
  have fcur := Fr.refl c S na
  obtain ⟨m0, m1, m2, m3, m4⟩ := fcur.box5 s6 x6
  obtain ⟨p0, p1, p2, p3, p4⟩ := fcur.box5 s7 x7
  clear q1 qf hS
  go_wp2_with (first
    | (go_at_call 121; refine (ht _ hcur).mono ?_; rintro e W5 ⟨rfl, h5, f5⟩; replace fcur := fcur.trans f5; replace hcur := h5; obtain ⟨m0, m1, m2, m3, m4⟩ := fcur.box5 s6 x6; obtain ⟨p0, p1, p2, p3, p4⟩ := fcur.box5 s7 x7)
    | (go_at_call 105; refine (hbar _).mono ?_; rintro e Wr ⟨rfl, hbr⟩; replace fcur := fcur.trans (Fr.below hbr); replace hcur := hcur.later hc hbr; obtain ⟨m0, m1, m2, m3, m4⟩ := fcur.box5 s6 x6; obtain ⟨p0, p1, p2, p3, p4⟩ := fcur.box5 s7 x7)
    | (go_at_call 125; refine (hpre _ (hc.tab.later hcur.bel)).mono ?_; rintro e Wp ⟨rfl, hbp⟩; replace fcur := fcur.trans (Fr.below hbp); replace hcur := hcur.later hc hbp; obtain ⟨m0, m1, m2, m3, m4⟩ := fcur.box5 s6 x6; obtain ⟨p0, p1, p2, p3, p4⟩ := fcur.box5 s7 x7)
    | (go_at_call 16; refine (hat _).mono ?_; rintro e W4 h4; obtain ⟨k, n, s, a, l, cp, rfl, hT, hb4⟩ := h4.form4; have h8 := hcur.later hc hb4; have fall := f0.trans (fcur.trans (Fr.below hb4)); obtain ⟨s9, x9, z0, z1, z2, z3, zf⟩ := fall.box s1 x1))
  obtain ⟨Z, hZ, hzb, hP, hF, hkp, hsz'⟩ := h8.box4 hc h (f1.trans fall) (Nat.le_refl _) s9 x9 (.int .i64 k) (.int .i64 n) (.string s) (.slice a l cp)
  obtain ⟨y0, y1, y2, y3⟩ := tbox_cells hzb
  rw [← hZ]
  refine bodyPost_ret (v := .tuple #[.agg #[.int .i64 k, .int .i64 n, .string s, .slice a l cp], .int .i64 0]) (by simp [results, Tryz.f104, go_sem, y0, y1, y2, y3]) rfl ?_
  have e3 := Nat.lt_of_lt_of_le s1.1 (Nat.le_trans f0.size fcur.size)
  exact ⟨na, nc, k, n, s, a, l, cp, rfl, hP, hF, tm_box (new_tm c hc hcur hb4.size hT) e3 (Nat.le_of_lt e3) hkp hsz'⟩
set_option maxRecDepth 100000 in
set_option maxHeartbeats 4000000 in
theorem named_atom_d3_e2 (most : Nat) (hk : (ahd c.L i).kind = 1) (hti : (ahd c.L (i + 1)).tight = true) (hp : isP (ahd c.L (i + 1)) [40] = false) (hk1 : (ahd c.L (i + 1)).kind = 3) (hs : ¬ (ahd c.L i).s = [45]) {own right : Nat} (hpr : preR (ahd c.L i).s = some (own, right)) (hom : ¬ own ≤ most) (hba : bare (ahd c.L i) = true) :
    Calls Tryz.prog 104 #[.pointer (some ⟨c.b, 0, none⟩), .int .i64 most] W (NPost c W na d (.ok (atomT (ahd c.L i).s, 0) (i + 1) ns)) := by
  have hi : i < c.L.length := ahd_lt (by rw [hk]; decide)
  have htk : ∀ j, j < c.L.length → i64ok (ahd c.L j).n ∧ (ahd c.L j).s.length ≤ 4096 := fun j hj => hc.tok _ (by unfold ahd; rw [List.getD_eq_getElem?_getD, List.getElem?_eq_getElem hj]; exact List.getElem_mem hj)
  have hsl := (htk i hi).2
  have hlen := hc.len
  have hii : (i : Int) < 4096 := by omega
  obtain ⟨W1, hW1⟩ : ∃ W1, W1 = W.alloc (.cells #[.int .i64 0, .int .i64 0, .string (ByteArray.mk #[]), .slice none 0 0] 24) := ⟨_, rfl⟩
  obtain ⟨h1, s1, x1, f1⟩ := h.fresh hc #[.int .i64 0, .int .i64 0, .string (ByteArray.mk #[]), .slice none 0 0] 24
  rw [← hW1] at h1 s1 x1 f1
  have hw1 : W1.heap.size = W.heap.size + 1 := by rw [hW1]; simp
  have ha0 := ahead_at c hc h1 0 (by omega)
  rw [Nat.add_zero] at ha0
  have ha1 := fun W' (h' : PAt c W' na nc i d ns) => ahead_at c hc h' 1 (Nat.le_refl _)
  have hz := zeroTerm
  have hzt : ∀ w, (zeroValue 87).run Tryz.prog w = .ok (.agg #[.int .i64 0, .string ⟨#[]⟩, .int .i64 0, .bool false, .bool false]) w := fun w => by kernel_rfl
  have hnot : ∀ (x : Bool) (w : World), (Op.unary .not (.bool x)).run Tryz.prog w = .ok (.bool (!x)) w := fun _ _ => rfl
  have ht := fun W' (h' : PAt c W' na nc (i + 1) d ns) => take_no c hc h' (ByteArray.mk #[40]) [40] rfl hp
  clear hp
  have hE : ((strV (ahd c.L i).s).toList == [45]) = false := by rw [rd_beq (strV_list _)]; exact decide_eq_false hs
  have hbar := fun W' => isBare_at (ahd c.L i) W'
  rw [hba] at hbar
  have hpre := fun W' (T : Tab W') => prefix_at (strV (ahd c.L i).s) (ahd c.L i).s (strV_list _) W' T
  simp only [hpr] at hpre
  unfold preV at hpre
  have hoi : ¬ ((own : Int) ≤ (most : Int)) := by omega
  have hat := fun w => atom_at (strV (ahd c.L i).s) w (by rw [strV_size]; unfold maxLen; omega)
  unfold atomT
  clear hpr hba hom
  generalize ahd c.L i = t0 at *
  generalize ahd c.L (i + 1) = t1 at *
  obtain ⟨kd0, sn0, nn0, qt0, tt0⟩ := t0
  obtain ⟨kd1, sn1, nn1, qt1, tt1⟩ := t1
  dsimp only at *
  subst hk
  subst hti hk1
  go_enter Tryz.func104, Tryz.ntmps104
  go_upto_region 3 with (first
    | (rw [← hW1]; go_at_call 67; refine ha0.mono ?_; rintro e W2 ⟨rfl, hb2⟩; have h2 := h1.later hc hb2)
    | (go_at_call 67; refine (ha1 _ h2).mono ?_; rintro e W3 ⟨rfl, hb3⟩; obtain ⟨S, hS, hcur, f0, s6, s7, x6, x7, hszS, q1, qf⟩ := named_state c hc h h1 (bel hb2 hb3) hi (.int .i64 1) (.string (strV sn0)) (.int .i64 nn0) (.bool qt0) (.bool tt0) (.int .i64 3) (.string (strV sn1)) (.int .i64 nn1) (.bool qt1) (.bool true)))
  rw [← hS]
  have fcur := Fr.refl c S na
  obtain ⟨m0, m1, m2, m3, m4⟩ := fcur.box5 s6 x6
  obtain ⟨p0, p1, p2, p3, p4⟩ := fcur.box5 s7 x7
  clear q1 qf hS
  go_wp2_with (first
    | (go_at_call 121; refine (ht _ hcur).mono ?_; rintro e W5 ⟨rfl, h5, f5⟩; replace fcur := fcur.trans f5; replace hcur := h5; obtain ⟨m0, m1, m2, m3, m4⟩ := fcur.box5 s6 x6; obtain ⟨p0, p1, p2, p3, p4⟩ := fcur.box5 s7 x7)
    | (go_at_call 105; refine (hbar _).mono ?_; rintro e Wr ⟨rfl, hbr⟩; replace fcur := fcur.trans (Fr.below hbr); replace hcur := hcur.later hc hbr; obtain ⟨m0, m1, m2, m3, m4⟩ := fcur.box5 s6 x6; obtain ⟨p0, p1, p2, p3, p4⟩ := fcur.box5 s7 x7)
    | (go_at_call 125; refine (hpre _ (hc.tab.later hcur.bel)).mono ?_; rintro e Wp ⟨rfl, hbp⟩; replace fcur := fcur.trans (Fr.below hbp); replace hcur := hcur.later hc hbp; obtain ⟨m0, m1, m2, m3, m4⟩ := fcur.box5 s6 x6; obtain ⟨p0, p1, p2, p3, p4⟩ := fcur.box5 s7 x7)
    | (go_at_call 16; refine (hat _).mono ?_; rintro e W4 h4; obtain ⟨k, n, s, a, l, cp, rfl, hT, hb4⟩ := h4.form4; have h8 := hcur.later hc hb4; have fall := f0.trans (fcur.trans (Fr.below hb4)); obtain ⟨s9, x9, z0, z1, z2, z3, zf⟩ := fall.box s1 x1))
  obtain ⟨Z, hZ, hzb, hP, hF, hkp, hsz'⟩ := h8.box4 hc h (f1.trans fall) (Nat.le_refl _) s9 x9 (.int .i64 k) (.int .i64 n) (.string s) (.slice a l cp)
  obtain ⟨y0, y1, y2, y3⟩ := tbox_cells hzb
  rw [← hZ]
  refine bodyPost_ret (v := .tuple #[.agg #[.int .i64 k, .int .i64 n, .string s, .slice a l cp], .int .i64 0]) (by simp [results, Tryz.f104, go_sem, y0, y1, y2, y3]) rfl ?_
  have e3 := Nat.lt_of_lt_of_le s1.1 (Nat.le_trans f0.size fcur.size)
  exact ⟨na, nc, k, n, s, a, l, cp, rfl, hP, hF, tm_box (new_tm c hc hcur hb4.size hT) e3 (Nat.le_of_lt e3) hkp hsz'⟩
set_option maxRecDepth 100000 in
set_option maxHeartbeats 4000000 in
theorem named_atom_d3_e3 (most : Nat) (hk : (ahd c.L i).kind = 1) (hti : (ahd c.L (i + 1)).tight = true) (hp : isP (ahd c.L (i + 1)) [40] = false) (hk1 : (ahd c.L (i + 1)).kind = 3) (hs : ¬ (ahd c.L i).s = [45]) {own right : Nat} (hpr : preR (ahd c.L i).s = some (own, right)) (hom : own ≤ most) (hbg : begins (ahd c.L (i + 1)) = false) (hba : bare (ahd c.L i) = true) :
    Calls Tryz.prog 104 #[.pointer (some ⟨c.b, 0, none⟩), .int .i64 most] W (NPost c W na d (.ok (atomT (ahd c.L i).s, 0) (i + 1) ns)) := by
  have hi : i < c.L.length := ahd_lt (by rw [hk]; decide)
  have htk : ∀ j, j < c.L.length → i64ok (ahd c.L j).n ∧ (ahd c.L j).s.length ≤ 4096 := fun j hj => hc.tok _ (by unfold ahd; rw [List.getD_eq_getElem?_getD, List.getElem?_eq_getElem hj]; exact List.getElem_mem hj)
  have hsl := (htk i hi).2
  have hlen := hc.len
  have hii : (i : Int) < 4096 := by omega
  obtain ⟨W1, hW1⟩ : ∃ W1, W1 = W.alloc (.cells #[.int .i64 0, .int .i64 0, .string (ByteArray.mk #[]), .slice none 0 0] 24) := ⟨_, rfl⟩
  obtain ⟨h1, s1, x1, f1⟩ := h.fresh hc #[.int .i64 0, .int .i64 0, .string (ByteArray.mk #[]), .slice none 0 0] 24
  rw [← hW1] at h1 s1 x1 f1
  have hw1 : W1.heap.size = W.heap.size + 1 := by rw [hW1]; simp
  have ha0 := ahead_at c hc h1 0 (by omega)
  rw [Nat.add_zero] at ha0
  have ha1 := fun W' (h' : PAt c W' na nc i d ns) => ahead_at c hc h' 1 (Nat.le_refl _)
  have hz := zeroTerm
  have hzt : ∀ w, (zeroValue 87).run Tryz.prog w = .ok (.agg #[.int .i64 0, .string ⟨#[]⟩, .int .i64 0, .bool false, .bool false]) w := fun w => by kernel_rfl
  have hnot : ∀ (x : Bool) (w : World), (Op.unary .not (.bool x)).run Tryz.prog w = .ok (.bool (!x)) w := fun _ _ => rfl
  have ht := fun W' (h' : PAt c W' na nc (i + 1) d ns) => take_no c hc h' (ByteArray.mk #[40]) [40] rfl hp
  clear hp
  have hE : ((strV (ahd c.L i).s).toList == [45]) = false := by rw [rd_beq (strV_list _)]; exact decide_eq_false hs
  have hbar := fun W' => isBare_at (ahd c.L i) W'
  rw [hba] at hbar
  have hpre := fun W' (T : Tab W') => prefix_at (strV (ahd c.L i).s) (ahd c.L i).s (strV_list _) W' T
  simp only [hpr] at hpre
  unfold preV at hpre
  have hbeg := fun W' (T : Tab W') => begins_at (ahd c.L (i + 1)) W' T
  rw [hbg] at hbeg
  have hoi : (own : Int) ≤ (most : Int) := by omega
  have hat := fun w => atom_at (strV (ahd c.L i).s) w (by rw [strV_size]; unfold maxLen; omega)
  unfold atomT
  clear hpr hba hbg hom
  generalize ahd c.L i = t0 at *
  generalize ahd c.L (i + 1) = t1 at *
  obtain ⟨kd0, sn0, nn0, qt0, tt0⟩ := t0
  obtain ⟨kd1, sn1, nn1, qt1, tt1⟩ := t1
  dsimp only at *
  subst hk
  subst hti hk1
  go_enter Tryz.func104, Tryz.ntmps104
  go_upto_region 3 with (first
    | (rw [← hW1]; go_at_call 67; refine ha0.mono ?_; rintro e W2 ⟨rfl, hb2⟩; have h2 := h1.later hc hb2)
    | (go_at_call 67; refine (ha1 _ h2).mono ?_; rintro e W3 ⟨rfl, hb3⟩; obtain ⟨S, hS, hcur, f0, s6, s7, x6, x7, hszS, q1, qf⟩ := named_state c hc h h1 (bel hb2 hb3) hi (.int .i64 1) (.string (strV sn0)) (.int .i64 nn0) (.bool qt0) (.bool tt0) (.int .i64 3) (.string (strV sn1)) (.int .i64 nn1) (.bool qt1) (.bool true)))
  rw [← hS]
  have fcur := Fr.refl c S na
  obtain ⟨m0, m1, m2, m3, m4⟩ := fcur.box5 s6 x6
  obtain ⟨p0, p1, p2, p3, p4⟩ := fcur.box5 s7 x7
  clear q1 qf hS
  go_wp2_with (first
    | (go_at_call 121; refine (ht _ hcur).mono ?_; rintro e W5 ⟨rfl, h5, f5⟩; replace fcur := fcur.trans f5; replace hcur := h5; obtain ⟨m0, m1, m2, m3, m4⟩ := fcur.box5 s6 x6; obtain ⟨p0, p1, p2, p3, p4⟩ := fcur.box5 s7 x7)
    | (go_at_call 105; refine (hbar _).mono ?_; rintro e Wr ⟨rfl, hbr⟩; replace fcur := fcur.trans (Fr.below hbr); replace hcur := hcur.later hc hbr; obtain ⟨m0, m1, m2, m3, m4⟩ := fcur.box5 s6 x6; obtain ⟨p0, p1, p2, p3, p4⟩ := fcur.box5 s7 x7)
    | (go_at_call 125; refine (hpre _ (hc.tab.later hcur.bel)).mono ?_; rintro e Wp ⟨rfl, hbp⟩; replace fcur := fcur.trans (Fr.below hbp); replace hcur := hcur.later hc hbp; obtain ⟨m0, m1, m2, m3, m4⟩ := fcur.box5 s6 x6; obtain ⟨p0, p1, p2, p3, p4⟩ := fcur.box5 s7 x7)
    | (go_at_call 126; refine (hbeg _ (hc.tab.later hcur.bel)).mono ?_; rintro e Wq ⟨rfl, hbq⟩; replace fcur := fcur.trans (Fr.below hbq); replace hcur := hcur.later hc hbq; obtain ⟨m0, m1, m2, m3, m4⟩ := fcur.box5 s6 x6; obtain ⟨p0, p1, p2, p3, p4⟩ := fcur.box5 s7 x7)
    | (go_at_call 16; refine (hat _).mono ?_; rintro e W4 h4; obtain ⟨k, n, s, a, l, cp, rfl, hT, hb4⟩ := h4.form4; have h8 := hcur.later hc hb4; have fall := f0.trans (fcur.trans (Fr.below hb4)); obtain ⟨s9, x9, z0, z1, z2, z3, zf⟩ := fall.box s1 x1))
  obtain ⟨Z, hZ, hzb, hP, hF, hkp, hsz'⟩ := h8.box4 hc h (f1.trans fall) (Nat.le_refl _) s9 x9 (.int .i64 k) (.int .i64 n) (.string s) (.slice a l cp)
  obtain ⟨y0, y1, y2, y3⟩ := tbox_cells hzb
  rw [← hZ]
  refine bodyPost_ret (v := .tuple #[.agg #[.int .i64 k, .int .i64 n, .string s, .slice a l cp], .int .i64 0]) (by simp [results, Tryz.f104, go_sem, y0, y1, y2, y3]) rfl ?_
  have e3 := Nat.lt_of_lt_of_le s1.1 (Nat.le_trans f0.size fcur.size)
  exact ⟨na, nc, k, n, s, a, l, cp, rfl, hP, hF, tm_box (new_tm c hc hcur hb4.size hT) e3 (Nat.le_of_lt e3) hkp hsz'⟩
end
end Go.Proofs.YtfencolokfghfaaGreatDoor
