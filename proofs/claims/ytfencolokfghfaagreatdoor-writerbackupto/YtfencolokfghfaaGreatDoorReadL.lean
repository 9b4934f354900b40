/-
  named: an operator ahead of its operand.
-/
import Derived.Test.YtfencolokfghfaaGreatDoorReadJ
import Derived.RegionCalls
import Derived.Deep.RegionHeld3
namespace Go.Proofs.YtfencolokfghfaaGreatDoor
open Go.RowKit Go.Maps
set_option linter.unusedVariables false
set_option linter.unusedSectionVars false
set_option linter.unusedSimpArgs false

theorem preR_le {s : List UInt8} {own right : Nat} (h : preR s = some (own, right)) : own ≤ 1200 ∧ right ≤ 1200 := by
  unfold preR at h
  repeat (first | (split at h; (first | (injection h with h; injection h with h1 h2; omega) | skip)) | cases h)
section
variable (c : Cx) (hc : c.Ok) {W : World} {na : Option Addr} {nc i d : Nat} {ns : Nms} (h : PAt c W na nc i d ns) {r : Rdr} (hr : RAt c d r)
include hc h hr
set_option maxRecDepth 100000 in
set_option maxHeartbeats 4000000 in
theorem named_op_bad_d0 (most : Nat) (hk : (ahd c.L i).kind = 1) (hti : (ahd c.L (i + 1)).tight = false) {own right : Nat} (hpr : preR (ahd c.L i).s = some (own, right)) (hom : own ≤ most) (hbg : begins (ahd c.L (i + 1)) = true) (hba : bare (ahd c.L i) = true) {i' : Nat} {code : Int} (hu : r right (i + 1) ns = .bad i' code) :
    Calls Tryz.prog 104 #[.pointer (some ⟨c.b, 0, none⟩), .int .i64 most] W fun e W' => e = faultE (i') (code) ∧ Kp c W na W' := by
  have hi : i < c.L.length := ahd_lt (by rw [hk]; decide)
  have htk : ∀ j, j < c.L.length → i64ok (ahd c.L j).n ∧ (ahd c.L j).s.length ≤ 4096 := fun j hj => hc.tok _ (by unfold ahd; rw [List.getD_eq_getElem?_getD, List.getElem?_eq_getElem hj]; exact List.getElem_mem hj)
  have hsl := (htk i hi).2
  have hlen := hc.len
  have hii : (i : Int) < 4096 := by omega
  obtain ⟨W1, hW1⟩ : ∃ W1, W1 = W.alloc (.cells #[.int .i64 0, .int .i64 0, .string (ByteArray.mk #[]), .slice none 0 0] 24) := ⟨_, rfl⟩
  obtain ⟨h1, s1, x1, f1⟩ := h.fresh hc #[.int .i64 0, .int .i64 0, .string (ByteArray.mk #[]), .slice none 0 0] 24
  rw [← hW1] at h1 s1 x1 f1
  have hw1 : W1.heap.size = W.heap.size + 1 := by rw [hW1]; simp
  have ha0 := ahead_at c hc h1 0 (by omega)
  rw [Nat.add_zero] at ha0
  have ha1 := fun W' (h' : PAt c W' na nc i d ns) => ahead_at c hc h' 1 (Nat.le_refl _)
  have hz := zeroTerm
  have hzt : ∀ w, (zeroValue 87).run Tryz.prog w = .ok (.agg #[.int .i64 0, .string ⟨#[]⟩, .int .i64 0, .bool false, .bool false]) w := fun w => by kernel_rfl
  have hnot : ∀ (x : Bool) (w : World), (Op.unary .not (.bool x)).run Tryz.prog w = .ok (.bool (!x)) w := fun _ _ => rfl
  have hri := (preR_le hpr).2
  have hbar := fun W' => isBare_at (ahd c.L i) W'
  rw [hba] at hbar
  have hpre := fun W' (T : Tab W') => prefix_at (strV (ahd c.L i).s) (ahd c.L i).s (strV_list _) W' T
  simp only [hpr] at hpre
  unfold preV at hpre
  have hbeg := fun W' (T : Tab W') => begins_at (ahd c.L (i + 1)) W' T
  rw [hbg] at hbeg
  have hoi : (own : Int) ≤ (most : Int) := by omega
  have hter := fun W' (h' : PAt c W' na nc (i + 1) d ns) => hr W' na nc (i + 1) ns right h' hri
  rw [hu] at hter
  unfold OPost at hter
  clear hpr hba hbg hom hu
  generalize ahd c.L i = t0 at *
  generalize ahd c.L (i + 1) = t1 at *
  obtain ⟨kd0, sn0, nn0, qt0, tt0⟩ := t0
  obtain ⟨kd1, sn1, nn1, qt1, tt1⟩ := t1
  dsimp only at *
  subst hk
  subst hti
  go_enter Tryz.func104, Tryz.ntmps104
  go_upto_region 3 with (first
    | (rw [← hW1]; go_at_call 67; refine ha0.mono ?_; rintro e W2 ⟨rfl, hb2⟩; have h2 := h1.later hc hb2)
    | (go_at_call 67; refine (ha1 _ h2).mono ?_; rintro e W3 ⟨rfl, hb3⟩; obtain ⟨S, hS, hcur, f0, s6, s7, x6, x7, hszS, q1, qf⟩ := named_state c hc h h1 (bel hb2 hb3) hi (.int .i64 1) (.string (strV sn0)) (.int .i64 nn0) (.bool qt0) (.bool tt0) (.int .i64 kd1) (.string (strV sn1)) (.int .i64 nn1) (.bool qt1) (.bool false)))
  rw [← hS]
  have fcur := Fr.refl c S na
  obtain ⟨m0, m1, m2, m3, m4⟩ := fcur.box5 s6 x6
  obtain ⟨p0, p1, p2, p3, p4⟩ := fcur.box5 s7 x7
  clear q1 qf hS
  go_wp2_with (first
    | (go_at_call 105; refine (hbar _).mono ?_; rintro e Wr ⟨rfl, hbr⟩; replace fcur := fcur.trans (Fr.below hbr); replace hcur := hcur.later hc hbr; obtain ⟨m0, m1, m2, m3, m4⟩ := fcur.box5 s6 x6; obtain ⟨p0, p1, p2, p3, p4⟩ := fcur.box5 s7 x7)
    | (go_at_call 125; refine (hpre _ (hc.tab.later hcur.bel)).mono ?_; rintro e Wp ⟨rfl, hbp⟩; replace fcur := fcur.trans (Fr.below hbp); replace hcur := hcur.later hc hbp; obtain ⟨m0, m1, m2, m3, m4⟩ := fcur.box5 s6 x6; obtain ⟨p0, p1, p2, p3, p4⟩ := fcur.box5 s7 x7)
    | (go_at_call 126; refine (hbeg _ (hc.tab.later hcur.bel)).mono ?_; rintro e Wq ⟨rfl, hbq⟩; replace fcur := fcur.trans (Fr.below hbq); replace hcur := hcur.later hc hbq; obtain ⟨m0, m1, m2, m3, m4⟩ := fcur.box5 s6 x6; obtain ⟨p0, p1, p2, p3, p4⟩ := fcur.box5 s7 x7))
  have hbd : Below Wq.heap.size Wq Wq.drew := (Below.refl _ _).drew
  replace hcur := hcur.later hc hbd
  replace fcur := fcur.trans (Fr.below hbd)
  have hfin : ∀ w' W6, Fr c S na w' na → Kp c w' na W6 → Kp c W na W6 := fun w' W6 hf hK => (f1.trans (f0.trans hf)).kpt hK
  have HS : (fun w' => w'.cell? ⟨W3.heap.size, 1, none⟩ = some (.string (strV sn0)) ∧ PAt c w' na nc (i + 1) d ns ∧ Fr c S na w' na) Wq.drew := ⟨(fcur.box5 s6 x6).2.1, hcur, fcur⟩
  refine wp_region_held_drew (S := fun w' => w'.cell? ⟨W3.heap.size, 1, none⟩ = some (.string (strV sn0)) ∧ PAt c w' na nc (i + 1) d ns ∧ Fr c S na w' na) (by kernel_rfl) HS (fun hHeld => ?_)
  refine wpAnyH_take (i := 0) (v := ?v0) rfl (by kernel_rfl) (by kernel_rfl) (by kernel_rfl) (by exact fun _ _ _ h => h) (Or.inl ⟨by rfl, ?hy0⟩) (by assumption) ?_
  case hy0 => (intro w hSw; (try dsimp only at hSw); go_simp; try with_reducible rfl)
  try simp only [Act.put, List.setIfInBounds_toArray, List.set_cons_zero, List.set_cons_succ]
  refine wpAnyH_take (i := 1) (v := ?v1) rfl (by kernel_rfl) (by kernel_rfl) (by kernel_rfl) (by exact fun _ _ _ h => h) (Or.inl ⟨by rfl, ?hy1⟩) (by assumption) ?_
  case hy1 => (intro w hSw; (try dsimp only at hSw); go_simp; try with_reducible rfl)
  try simp only [Act.put, List.setIfInBounds_toArray, List.set_cons_zero, List.set_cons_succ]
  refine wpAnyH_take (i := 2) (v := ?v2) rfl (by kernel_rfl) (by kernel_rfl) (by kernel_rfl) (by exact fun _ _ _ h => h) (Or.inl ⟨by rfl, ?hy2⟩) (by assumption) ?_
  case hy2 => (intro w hSw; (try dsimp only at hSw); go_simp; try with_reducible rfl)
  try simp only [Act.put, List.setIfInBounds_toArray, List.set_cons_zero, List.set_cons_succ]
  refine wpAnyH_take (i := 3) (v := ?v3) rfl (by kernel_rfl) (by kernel_rfl) (by kernel_rfl) (by exact fun _ _ _ h => h) (Or.inl ⟨by rfl, ?hy3⟩) (by assumption) ?_
  case hy3 => (intro w hSw; (try dsimp only at hSw); go_simp; try with_reducible rfl)
  try simp only [Act.put, List.setIfInBounds_toArray, List.set_cons_zero, List.set_cons_succ]
  refine wpAnyH_take (i := 4) (v := ?v4) rfl (by kernel_rfl) (by kernel_rfl) (by kernel_rfl) (by exact fun _ _ _ h => h) (Or.inl ⟨by rfl, ?hy4⟩) (by assumption) ?_
  case hy4 => (intro w hSw; (try dsimp only at hSw); go_simp; try with_reducible rfl)
  try simp only [Act.put, List.setIfInBounds_toArray, List.set_cons_zero, List.set_cons_succ]
  refine wpAnyH_take (i := 8) (v := ?v8) rfl (by kernel_rfl) (by kernel_rfl) (by kernel_rfl) (by exact fun _ _ _ h => h) (Or.inl ⟨by rfl, ?hy8⟩) (by assumption) ?_
  case hy8 => (intro w hSw; (try dsimp only at hSw); go_simp; try with_reducible rfl)
  try simp only [Act.put, List.setIfInBounds_toArray, List.set_cons_zero, List.set_cons_succ]
  refine wpAnyH_ready (rs := [5]) (by kernel_rfl) (by simp) ?_
  refine AllReadyH.cons rfl (fun K hK => ?_) ?_
  · go_simp
    refine (hter _ hcur).mono ?_
    rintro e W6 ⟨he, hK⟩
    unfold faultE at he
    subst he
    exact ⟨rfl, rfl, hfin _ _ fcur hK⟩
  · exact AllReadyH.nil
set_option maxRecDepth 100000 in
set_option maxHeartbeats 4000000 in
theorem named_op_d0 (most : Nat) (hk : (ahd c.L i).kind = 1) (hti : (ahd c.L (i + 1)).tight = false) {own right : Nat} (hpr : preR (ahd c.L i).s = some (own, right)) (hom : own ≤ most) (hbg : begins (ahd c.L (i + 1)) = true) (hba : bare (ahd c.L i) = true) {T : Tm} {i6 : Nat} {ns6 : Nms} (hu : r right (i + 1) ns = .ok T i6 ns6) :
    Calls Tryz.prog 104 #[.pointer (some ⟨c.b, 0, none⟩), .int .i64 most] W (NPost c W na d (.ok (.mk 3 0 (strV (ahd c.L i).s) [T], own) i6 ns6)) := by
  have hi : i < c.L.length := ahd_lt (by rw [hk]; decide)
  have htk : ∀ j, j < c.L.length → i64ok (ahd c.L j).n ∧ (ahd c.L j).s.length ≤ 4096 := fun j hj => hc.tok _ (by unfold ahd; rw [List.getD_eq_getElem?_getD, List.getElem?_eq_getElem hj]; exact List.getElem_mem hj)
  have hsl := (htk i hi).2
  have hlen := hc.len
  have hii : (i : Int) < 4096 := by omega
  obtain ⟨W1, hW1⟩ : ∃ W1, W1 = W.alloc (.cells #[.int .i64 0, .int .i64 0, .string (ByteArray.mk #[]), .slice none 0 0] 24) := ⟨_, rfl⟩
  obtain ⟨h1, s1, x1, f1⟩ := h.fresh hc #[.int .i64 0, .int .i64 0, .string (ByteArray.mk #[]), .slice none 0 0] 24
  rw [← hW1] at h1 s1 x1 f1
  have hw1 : W1.heap.size = W.heap.size + 1 := by rw [hW1]; simp
  have ha0 := ahead_at c hc h1 0 (by omega)
  rw [Nat.add_zero] at ha0
  have ha1 := fun W' (h' : PAt c W' na nc i d ns) => ahead_at c hc h' 1 (Nat.le_refl _)
  have hz := zeroTerm
  have hzt : ∀ w, (zeroValue 87).run Tryz.prog w = .ok (.agg #[.int .i64 0, .string ⟨#[]⟩, .int .i64 0, .bool false, .bool false]) w := fun w => by kernel_rfl
  have hnot : ∀ (x : Bool) (w : World), (Op.unary .not (.bool x)).run Tryz.prog w = .ok (.bool (!x)) w := fun _ _ => rfl
  have hri := (preR_le hpr).2
  have hbar := fun W' => isBare_at (ahd c.L i) W'
  rw [hba] at hbar
  have hpre := fun W' (T : Tab W') => prefix_at (strV (ahd c.L i).s) (ahd c.L i).s (strV_list _) W' T
  simp only [hpr] at hpre
  unfold preV at hpre
  have hbeg := fun W' (T : Tab W') => begins_at (ahd c.L (i + 1)) W' T
  rw [hbg] at hbeg
  have hoi : (own : Int) ≤ (most : Int) := by omega
  have hter := fun W' (h' : PAt c W' na nc (i + 1) d ns) => hr W' na nc (i + 1) ns right h' hri
  rw [hu] at hter
  unfold OPost at hter
  clear hpr hba hbg hom hu
  generalize ahd c.L i = t0 at *
  generalize ahd c.L (i + 1) = t1 at *
  obtain ⟨kd0, sn0, nn0, qt0, tt0⟩ := t0
  obtain ⟨kd1, sn1, nn1, qt1, tt1⟩ := t1
  dsimp only at *
  subst hk
  subst hti
  go_enter Tryz.func104, Tryz.ntmps104
  go_upto_region 3 with (first
    | (rw [← hW1]; go_at_call 67; refine ha0.mono ?_; rintro e W2 ⟨rfl, hb2⟩; have h2 := h1.later hc hb2)
    | (go_at_call 67; refine (ha1 _ h2).mono ?_; rintro e W3 ⟨rfl, hb3⟩; obtain ⟨S, hS, hcur, f0, s6, s7, x6, x7, hszS, q1, qf⟩ := named_state c hc h h1 (bel hb2 hb3) hi (.int .i64 1) (.string (strV sn0)) (.int .i64 nn0) (.bool qt0) (.bool tt0) (.int .i64 kd1) (.string (strV sn1)) (.int .i64 nn1) (.bool qt1) (.bool false)))
  rw [← hS]
  have fcur := Fr.refl c S na
  obtain ⟨m0, m1, m2, m3, m4⟩ := fcur.box5 s6 x6
  obtain ⟨p0, p1, p2, p3, p4⟩ := fcur.box5 s7 x7
  clear q1 qf hS
  go_wp2_with (first
    | (go_at_call 105; refine (hbar _).mono ?_; rintro e Wr ⟨rfl, hbr⟩; replace fcur := fcur.trans (Fr.below hbr); replace hcur := hcur.later hc hbr; obtain ⟨m0, m1, m2, m3, m4⟩ := fcur.box5 s6 x6; obtain ⟨p0, p1, p2, p3, p4⟩ := fcur.box5 s7 x7)
    | (go_at_call 125; refine (hpre _ (hc.tab.later hcur.bel)).mono ?_; rintro e Wp ⟨rfl, hbp⟩; replace fcur := fcur.trans (Fr.below hbp); replace hcur := hcur.later hc hbp; obtain ⟨m0, m1, m2, m3, m4⟩ := fcur.box5 s6 x6; obtain ⟨p0, p1, p2, p3, p4⟩ := fcur.box5 s7 x7)
    | (go_at_call 126; refine (hbeg _ (hc.tab.later hcur.bel)).mono ?_; rintro e Wq ⟨rfl, hbq⟩; replace fcur := fcur.trans (Fr.below hbq); replace hcur := hcur.later hc hbq; obtain ⟨m0, m1, m2, m3, m4⟩ := fcur.box5 s6 x6; obtain ⟨p0, p1, p2, p3, p4⟩ := fcur.box5 s7 x7))
  have hbd : Below Wq.heap.size Wq Wq.drew := (Below.refl _ _).drew
  replace hcur := hcur.later hc hbd
  replace fcur := fcur.trans (Fr.below hbd)
  have hte := hter _ hcur
  clear hter
  have hWq : W1.heap.size ≤ Wq.heap.size := Nat.le_trans f0.size fcur.size
  have H := Lib.hid (And.intro f0 (And.intro fcur (And.intro f1 hcur)))
  have hS6 := (f0.trans fcur).size
  go_region_with (first
    | (go_at_call 66; refine hte.mono ?_; rintro e W6 ⟨na6, nc6, k6, n6, s6', a6, l6, cp6, rfl, h6, f6, hT6⟩; obtain ⟨h10, s10, x10, f10⟩ := h6.fresh hc #[.int .i64 k6, .int .i64 n6, .string s6', .slice a6 l6 cp6] 24; obtain ⟨-, c61, -⟩ := (fcur.trans f6).box5 s6 x6; obtain ⟨-, c101, -⟩ := (fcur.trans (f6.trans f10)).box5 s6 x6)
    | (go_at_call 88; have hcall := (fun_plain c hc h10 sn0 hsl (p := Nw c Wq (W6.alloc (.cells #[.int .i64 k6, .int .i64 n6, .string s6', .slice a6 l6 cp6] 24)) na6) (fun j hj => hj.1) [T] _ _ (one_ts x10 ⟨s10, f6.size⟩ (hT6.carry (fun j hj => (f10.keep j hj.1).1) (fun j hj => ⟨(f10.keep j hj.1).2, hj.2⟩))) (.inr (by simp))); refine hcall.mono ?_; rintro e W8 ⟨k, n, s, a, l, cp, rfl, h8, f8, hT8⟩; have fall := f0.trans (fcur.trans (f6.trans (f10.trans f8))); obtain ⟨s9, x9, z0, z1, z2, z3, zf⟩ := fall.box s1 x1))
  all_goals
    obtain ⟨Z, hZ, hzb, hP, hF, hkp, hsz'⟩ := h8.box4 hc h (f1.trans fall) (Nat.le_refl _) s9 x9 (.int .i64 k) (.int .i64 n) (.string s) (.slice a l cp)
    obtain ⟨y0, y1, y2, y3⟩ := tbox_cells hzb
    rw [← hZ]
    have HP := Lib.hid (And.intro hP (And.intro hF (And.intro hkp hsz')))
    clear hP hF hkp hsz' z0 z1 z2 z3 zf
    go_wp2
    obtain ⟨hP, hF, hkp, hsz'⟩ := HP.out
    refine bodyPost_ret (v := .tuple #[.agg #[.int .i64 k, .int .i64 n, .string s, .slice a l cp], .int .i64 own]) (by simp [results, Tryz.f104, go_sem, y0, y1, y2, y3]) rfl ?_
    have hw68 := (f6.trans f10).size
    have hwd : Wq.drew.heap.size = Wq.heap.size := rfl
    refine ⟨na6, nc6, k, n, s, a, l, cp, rfl, hP, hF, hT8.carry (fun j hj => hkp j ?_) (fun j hj => ?_)⟩
    · rcases hj with hj | hj
      · have := hj.2; omega
      · have := hj.2; omega
    · rcases hj with hj | hj
      · have h91 := (f8.keep j hj.1).2
        have h92 := hj.2
        exact ⟨⟨by rw [hsz']; exact h91.1, h91.2⟩, by omega⟩
      · have h92 := hj.2
        exact ⟨⟨by rw [hsz']; exact hj.1.1, hj.1.2⟩, by omega⟩
set_option maxRecDepth 100000 in
set_option maxHeartbeats 4000000 in
theorem named_op_bad_d1 (most : Nat) (hk : (ahd c.L i).kind = 1) (hti : (ahd c.L (i + 1)).tight = true) (hp : isP (ahd c.L (i + 1)) [40] = false) (hk1 : ¬ (ahd c.L (i + 1)).kind = 3) {own right : Nat} (hpr : preR (ahd c.L i).s = some (own, right)) (hom : own ≤ most) (hbg : begins (ahd c.L (i + 1)) = true) (hba : bare (ahd c.L i) = true) {i' : Nat} {code : Int} (hu : r right (i + 1) ns = .bad i' code) :
    Calls Tryz.prog 104 #[.pointer (some ⟨c.b, 0, none⟩), .int .i64 most] W fun e W' => e = faultE (i') (code) ∧ Kp c W na W' := by
  have hi : i < c.L.length := ahd_lt (by rw [hk]; decide)
  have htk : ∀ j, j < c.L.length → i64ok (ahd c.L j).n ∧ (ahd c.L j).s.length ≤ 4096 := fun j hj => hc.tok _ (by unfold ahd; rw [List.getD_eq_getElem?_getD, List.getElem?_eq_getElem hj]; exact List.getElem_mem hj)
  have hsl := (htk i hi).2
  have hlen := hc.len
  have hii : (i : Int) < 4096 := by omega
  obtain ⟨W1, hW1⟩ : ∃ W1, W1 = W.alloc (.cells #[.int .i64 0, .int .i64 0, .string (ByteArray.mk #[]), .slice none 0 0] 24) := ⟨_, rfl⟩
  obtain ⟨h1, s1, x1, f1⟩ := h.fresh hc #[.int .i64 0, .int .i64 0, .string (ByteArray.mk #[]), .slice none 0 0] 24
  rw [← hW1] at h1 s1 x1 f1
  have hw1 : W1.heap.size = W.heap.size + 1 := by rw [hW1]; simp
  have ha0 := ahead_at c hc h1 0 (by omega)
  rw [Nat.add_zero] at ha0
  have ha1 := fun W' (h' : PAt c W' na nc i d ns) => ahead_at c hc h' 1 (Nat.le_refl _)
  have hz := zeroTerm
  have hzt : ∀ w, (zeroValue 87).run Tryz.prog w = .ok (.agg #[.int .i64 0, .string ⟨#[]⟩, .int .i64 0, .bool false, .bool false]) w := fun w => by kernel_rfl
  have hnot : ∀ (x : Bool) (w : World), (Op.unary .not (.bool x)).run Tryz.prog w = .ok (.bool (!x)) w := fun _ _ => rfl
  have hri := (preR_le hpr).2
  have ht := fun W' (h' : PAt c W' na nc (i + 1) d ns) => take_no c hc h' (ByteArray.mk #[40]) [40] rfl hp
  clear hp
  have hbar := fun W' => isBare_at (ahd c.L i) W'
  rw [hba] at hbar
  have hpre := fun W' (T : Tab W') => prefix_at (strV (ahd c.L i).s) (ahd c.L i).s (strV_list _) W' T
  simp only [hpr] at hpre
  unfold preV at hpre
  have hbeg := fun W' (T : Tab W') => begins_at (ahd c.L (i + 1)) W' T
  rw [hbg] at hbeg
  have hoi : (own : Int) ≤ (most : Int) := by omega
  have hter := fun W' (h' : PAt c W' na nc (i + 1) d ns) => hr W' na nc (i + 1) ns right h' hri
  rw [hu] at hter
  unfold OPost at hter
  clear hpr hba hbg hom hu
  generalize ahd c.L i = t0 at *
  generalize ahd c.L (i + 1) = t1 at *
  obtain ⟨kd0, sn0, nn0, qt0, tt0⟩ := t0
  obtain ⟨kd1, sn1, nn1, qt1, tt1⟩ := t1
  dsimp only at *
  subst hk
  subst hti
  go_enter Tryz.func104, Tryz.ntmps104
  go_upto_region 3 with (first
    | (rw [← hW1]; go_at_call 67; refine ha0.mono ?_; rintro e W2 ⟨rfl, hb2⟩; have h2 := h1.later hc hb2)
    | (go_at_call 67; refine (ha1 _ h2).mono ?_; rintro e W3 ⟨rfl, hb3⟩; obtain ⟨S, hS, hcur, f0, s6, s7, x6, x7, hszS, q1, qf⟩ := named_state c hc h h1 (bel hb2 hb3) hi (.int .i64 1) (.string (strV sn0)) (.int .i64 nn0) (.bool qt0) (.bool tt0) (.int .i64 kd1) (.string (strV sn1)) (.int .i64 nn1) (.bool qt1) (.bool true)))
  rw [← hS]
  have fcur := Fr.refl c S na
  obtain ⟨m0, m1, m2, m3, m4⟩ := fcur.box5 s6 x6
  obtain ⟨p0, p1, p2, p3, p4⟩ := fcur.box5 s7 x7
  clear q1 qf hS
  go_wp2_with (first
    | (go_at_call 121; refine (ht _ hcur).mono ?_; rintro e W5 ⟨rfl, h5, f5⟩; replace fcur := fcur.trans f5; replace hcur := h5; obtain ⟨m0, m1, m2, m3, m4⟩ := fcur.box5 s6 x6; obtain ⟨p0, p1, p2, p3, p4⟩ := fcur.box5 s7 x7)
    | (go_at_call 105; refine (hbar _).mono ?_; rintro e Wr ⟨rfl, hbr⟩; replace fcur := fcur.trans (Fr.below hbr); replace hcur := hcur.later hc hbr; obtain ⟨m0, m1, m2, m3, m4⟩ := fcur.box5 s6 x6; obtain ⟨p0, p1, p2, p3, p4⟩ := fcur.box5 s7 x7)
    | (go_at_call 125; refine (hpre _ (hc.tab.later hcur.bel)).mono ?_; rintro e Wp ⟨rfl, hbp⟩; replace fcur := fcur.trans (Fr.below hbp); replace hcur := hcur.later hc hbp; obtain ⟨m0, m1, m2, m3, m4⟩ := fcur.box5 s6 x6; obtain ⟨p0, p1, p2, p3, p4⟩ := fcur.box5 s7 x7)
    | (go_at_call 126; refine (hbeg _ (hc.tab.later hcur.bel)).mono ?_; rintro e Wq ⟨rfl, hbq⟩; replace fcur := fcur.trans (Fr.below hbq); replace hcur := hcur.later hc hbq; obtain ⟨m0, m1, m2, m3, m4⟩ := fcur.box5 s6 x6; obtain ⟨p0, p1, p2, p3, p4⟩ := fcur.box5 s7 x7))
  have hbd : Below Wq.heap.size Wq Wq.drew := (Below.refl _ _).drew
  replace hcur := hcur.later hc hbd
  replace fcur := fcur.trans (Fr.below hbd)
  have hfin : ∀ w' W6, Fr c S na w' na → Kp c w' na W6 → Kp c W na W6 := fun w' W6 hf hK => (f1.trans (f0.trans hf)).kpt hK
  have HS : (fun w' => w'.cell? ⟨W3.heap.size, 1, none⟩ = some (.string (strV sn0)) ∧ PAt c w' na nc (i + 1) d ns ∧ Fr c S na w' na) Wq.drew := ⟨(fcur.box5 s6 x6).2.1, hcur, fcur⟩
  refine wp_region_held_drew (S := fun w' => w'.cell? ⟨W3.heap.size, 1, none⟩ = some (.string (strV sn0)) ∧ PAt c w' na nc (i + 1) d ns ∧ Fr c S na w' na) (by kernel_rfl) HS (fun hHeld => ?_)
  refine wpAnyH_take (i := 0) (v := ?v0) rfl (by kernel_rfl) (by kernel_rfl) (by kernel_rfl) (by exact fun _ _ _ h => h) (Or.inl ⟨by rfl, ?hy0⟩) (by assumption) ?_
  case hy0 => (intro w hSw; (try dsimp only at hSw); go_simp; try with_reducible rfl)
  try simp only [Act.put, List.setIfInBounds_toArray, List.set_cons_zero, List.set_cons_succ]
  refine wpAnyH_take (i := 1) (v := ?v1) rfl (by kernel_rfl) (by kernel_rfl) (by kernel_rfl) (by exact fun _ _ _ h => h) (Or.inl ⟨by rfl, ?hy1⟩) (by assumption) ?_
  case hy1 => (intro w hSw; (try dsimp only at hSw); go_simp; try with_reducible rfl)
  try simp only [Act.put, List.setIfInBounds_toArray, List.set_cons_zero, List.set_cons_succ]
  refine wpAnyH_take (i := 2) (v := ?v2) rfl (by kernel_rfl) (by kernel_rfl) (by kernel_rfl) (by exact fun _ _ _ h => h) (Or.inl ⟨by rfl, ?hy2⟩) (by assumption) ?_
  case hy2 => (intro w hSw; (try dsimp only at hSw); go_simp; try with_reducible rfl)
  try simp only [Act.put, List.setIfInBounds_toArray, List.set_cons_zero, List.set_cons_succ]
  refine wpAnyH_take (i := 3) (v := ?v3) rfl (by kernel_rfl) (by kernel_rfl) (by kernel_rfl) (by exact fun _ _ _ h => h) (Or.inl ⟨by rfl, ?hy3⟩) (by assumption) ?_
  case hy3 => (intro w hSw; (try dsimp only at hSw); go_simp; try with_reducible rfl)
  try simp only [Act.put, List.setIfInBounds_toArray, List.set_cons_zero, List.set_cons_succ]
  refine wpAnyH_take (i := 4) (v := ?v4) rfl (by kernel_rfl) (by kernel_rfl) (by kernel_rfl) (by exact fun _ _ _ h => h) (Or.inl ⟨by rfl, ?hy4⟩) (by assumption) ?_
  case hy4 => (intro w hSw; (try dsimp only at hSw); go_simp; try with_reducible rfl)
  try simp only [Act.put, List.setIfInBounds_toArray, List.set_cons_zero, List.set_cons_succ]
  refine wpAnyH_take (i := 8) (v := ?v8) rfl (by kernel_rfl) (by kernel_rfl) (by kernel_rfl) (by exact fun _ _ _ h => h) (Or.inl ⟨by rfl, ?hy8⟩) (by assumption) ?_
  case hy8 => (intro w hSw; (try dsimp only at hSw); go_simp; try with_reducible rfl)
  try simp only [Act.put, List.setIfInBounds_toArray, List.set_cons_zero, List.set_cons_succ]
  refine wpAnyH_ready (rs := [5]) (by kernel_rfl) (by simp) ?_
  refine AllReadyH.cons rfl (fun K hK => ?_) ?_
  · go_simp
    refine (hter _ hcur).mono ?_
    rintro e W6 ⟨he, hK⟩
    unfold faultE at he
    subst he
    exact ⟨rfl, rfl, hfin _ _ fcur hK⟩
  · exact AllReadyH.nil
set_option maxRecDepth 100000 in
set_option maxHeartbeats 4000000 in
theorem named_op_d1 (most : Nat) (hk : (ahd c.L i).kind = 1) (hti : (ahd c.L (i + 1)).tight = true) (hp : isP (ahd c.L (i + 1)) [40] = false) (hk1 : ¬ (ahd c.L (i + 1)).kind = 3) {own right : Nat} (hpr : preR (ahd c.L i).s = some (own, right)) (hom : own ≤ most) (hbg : begins (ahd c.L (i + 1)) = true) (hba : bare (ahd c.L i) = true) {T : Tm} {i6 : Nat} {ns6 : Nms} (hu : r right (i + 1) ns = .ok T i6 ns6) :
    Calls Tryz.prog 104 #[.pointer (some ⟨c.b, 0, none⟩), .int .i64 most] W (NPost c W na d (.ok (.mk 3 0 (strV (ahd c.L i).s) [T], own) i6 ns6)) := by
  have hi : i < c.L.length := ahd_lt (by rw [hk]; decide)
  have htk : ∀ j, j < c.L.length → i64ok (ahd c.L j).n ∧ (ahd c.L j).s.length ≤ 4096 := fun j hj => hc.tok _ (by unfold ahd; rw [List.getD_eq_getElem?_getD, List.getElem?_eq_getElem hj]; exact List.getElem_mem hj)
  have hsl := (htk i hi).2
  have hlen := hc.len
  have hii : (i : Int) < 4096 := by omega
  obtain ⟨W1, hW1⟩ : ∃ W1, W1 = W.alloc (.cells #[.int .i64 0, .int .i64 0, .string (ByteArray.mk #[]), .slice none 0 0] 24) := ⟨_, rfl⟩
  obtain ⟨h1, s1, x1, f1⟩ := h.fresh hc #[.int .i64 0, .int .i64 0, .string (ByteArray.mk #[]), .slice none 0 0] 24
  rw [← hW1] at h1 s1 x1 f1
  have hw1 : W1.heap.size = W.heap.size + 1 := by rw [hW1]; simp
  have ha0 := ahead_at c hc h1 0 (by omega)
  rw [Nat.add_zero] at ha0
  have ha1 := fun W' (h' : PAt c W' na nc i d ns) => ahead_at c hc h' 1 (Nat.le_refl _)
  have hz := zeroTerm
  have hzt : ∀ w, (zeroValue 87).run Tryz.prog w = .ok (.agg #[.int .i64 0, .string ⟨#[]⟩, .int .i64 0, .bool false, .bool false]) w := fun w => by kernel_rfl
  have hnot : ∀ (x : Bool) (w : World), (Op.unary .not (.bool x)).run Tryz.prog w = .ok (.bool (!x)) w := fun _ _ => rfl
  have hri := (preR_le hpr).2
  have ht := fun W' (h' : PAt c W' na nc (i + 1) d ns) => take_no c hc h' (ByteArray.mk #[40]) [40] rfl hp
  clear hp
  have hbar := fun W' => isBare_at (ahd c.L i) W'
  rw [hba] at hbar
  have hpre := fun W' (T : Tab W') => prefix_at (strV (ahd c.L i).s) (ahd c.L i).s (strV_list _) W' T
  simp only [hpr] at hpre
  unfold preV at hpre
  have hbeg := fun W' (T : Tab W') => begins_at (ahd c.L (i + 1)) W' T
  rw [hbg] at hbeg
  have hoi : (own : Int) ≤ (most : Int) := by omega
  have hter := fun W' (h' : PAt c W' na nc (i + 1) d ns) => hr W' na nc (i + 1) ns right h' hri
  rw [hu] at hter
  unfold OPost at hter
  clear hpr hba hbg hom hu
  generalize ahd c.L i = t0 at *
  generalize ahd c.L (i + 1) = t1 at *
  obtain ⟨kd0, sn0, nn0, qt0, tt0⟩ := t0
  obtain ⟨kd1, sn1, nn1, qt1, tt1⟩ := t1
  dsimp only at *
  subst hk
  subst hti
  go_enter Tryz.func104, Tryz.ntmps104
  go_upto_region 3 with (first
    | (rw [← hW1]; go_at_call 67; refine ha0.mono ?_; rintro e W2 ⟨rfl, hb2⟩; have h2 := h1.later hc hb2)
    | (go_at_call 67; refine (ha1 _ h2).mono ?_; rintro e W3 ⟨rfl, hb3⟩; obtain ⟨S, hS, hcur, f0, s6, s7, x6, x7, hszS, q1, qf⟩ := named_state c hc h h1 (bel hb2 hb3) hi (.int .i64 1) (.string (strV sn0)) (.int .i64 nn0) (.bool qt0) (.bool tt0) (.int .i64 kd1) (.string (strV sn1)) (.int .i64 nn1) (.bool qt1) (.bool true)))
  rw [← hS]
  have fcur := Fr.refl c S na
  obtain ⟨m0, m1, m2, m3, m4⟩ := fcur.box5 s6 x6
  obtain ⟨p0, p1, p2, p3, p4⟩ := fcur.box5 s7 x7
  clear q1 qf hS
  go_wp2_with (first
    | (go_at_call 121; refine (ht _ hcur).mono ?_; rintro e W5 ⟨rfl, h5, f5⟩; replace fcur := fcur.trans f5; replace hcur := h5; obtain ⟨m0, m1, m2, m3, m4⟩ := fcur.box5 s6 x6; obtain ⟨p0, p1, p2, p3, p4⟩ := fcur.box5 s7 x7)
    | (go_at_call 105; refine (hbar _).mono ?_; rintro e Wr ⟨rfl, hbr⟩; replace fcur := fcur.trans (Fr.below hbr); replace hcur := hcur.later hc hbr; obtain ⟨m0, m1, m2, m3, m4⟩ := fcur.box5 s6 x6; obtain ⟨p0, p1, p2, p3, p4⟩ := fcur.box5 s7 x7)
    | (go_at_call 125; refine (hpre _ (hc.tab.later hcur.bel)).mono ?_; rintro e Wp ⟨rfl, hbp⟩; replace fcur := fcur.trans (Fr.below hbp); replace hcur := hcur.later hc hbp; obtain ⟨m0, m1, m2, m3, m4⟩ := fcur.box5 s6 x6; obtain ⟨p0, p1, p2, p3, p4⟩ := fcur.box5 s7 x7)
    | (go_at_call 126; refine (hbeg _ (hc.tab.later hcur.bel)).mono ?_; rintro e Wq ⟨rfl, hbq⟩; replace fcur := fcur.trans (Fr.below hbq); replace hcur := hcur.later hc hbq; obtain ⟨m0, m1, m2, m3, m4⟩ := fcur.box5 s6 x6; obtain ⟨p0, p1, p2, p3, p4⟩ := fcur.box5 s7 x7))
  have hbd : Below Wq.heap.size Wq Wq.drew := (Below.refl _ _).drew
  replace hcur := hcur.later hc hbd
  replace fcur := fcur.trans (Fr.below hbd)
  have hte := hter _ hcur
  clear hter
  have hWq : W1.heap.size ≤ Wq.heap.size := Nat.le_trans f0.size fcur.size
  have H := Lib.hid (And.intro f0 (And.intro fcur (And.intro f1 hcur)))
  have hS6 := (f0.trans fcur).size
  go_region_with (first
    | (go_at_call 66; refine hte.mono ?_; rintro e W6 ⟨na6, nc6, k6, n6, s6', a6, l6, cp6, rfl, h6, f6, hT6⟩; obtain ⟨h10, s10, x10, f10⟩ := h6.fresh hc #[.int .i64 k6, .int .i64 n6, .string s6', .slice a6 l6 cp6] 24; obtain ⟨-, c61, -⟩ := (fcur.trans f6).box5 s6 x6; obtain ⟨-, c101, -⟩ := (fcur.trans (f6.trans f10)).box5 s6 x6)
    | (go_at_call 88; have hcall := (fun_plain c hc h10 sn0 hsl (p := Nw c Wq (W6.alloc (.cells #[.int .i64 k6, .int .i64 n6, .string s6', .slice a6 l6 cp6] 24)) na6) (fun j hj => hj.1) [T] _ _ (one_ts x10 ⟨s10, f6.size⟩ (hT6.carry (fun j hj => (f10.keep j hj.1).1) (fun j hj => ⟨(f10.keep j hj.1).2, hj.2⟩))) (.inr (by simp))); refine hcall.mono ?_; rintro e W8 ⟨k, n, s, a, l, cp, rfl, h8, f8, hT8⟩; have fall := f0.trans (fcur.trans (f6.trans (f10.trans f8))); obtain ⟨s9, x9, z0, z1, z2, z3, zf⟩ := fall.box s1 x1))
  all_goals
    obtain ⟨Z, hZ, hzb, hP, hF, hkp, hsz'⟩ := h8.box4 hc h (f1.trans fall) (Nat.le_refl _) s9 x9 (.int .i64 k) (.int .i64 n) (.string s) (.slice a l cp)
    obtain ⟨y0, y1, y2, y3⟩ := tbox_cells hzb
    rw [← hZ]
    have HP := Lib.hid (And.intro hP (And.intro hF (And.intro hkp hsz')))
    clear hP hF hkp hsz' z0 z1 z2 z3 zf
    go_wp2
    obtain ⟨hP, hF, hkp, hsz'⟩ := HP.out
    refine bodyPost_ret (v := .tuple #[.agg #[.int .i64 k, .int .i64 n, .string s, .slice a l cp], .int .i64 own]) (by simp [results, Tryz.f104, go_sem, y0, y1, y2, y3]) rfl ?_
    have hw68 := (f6.trans f10).size
    have hwd : Wq.drew.heap.size = Wq.heap.size := rfl
    refine ⟨na6, nc6, k, n, s, a, l, cp, rfl, hP, hF, hT8.carry (fun j hj => hkp j ?_) (fun j hj => ?_)⟩
    · rcases hj with hj | hj
      · have := hj.2; omega
      · have := hj.2; omega
    · rcases hj with hj | hj
      · have h91 := (f8.keep j hj.1).2
        have h92 := hj.2
        exact ⟨⟨by rw [hsz']; exact h91.1, h91.2⟩, by omega⟩
      · have h92 := hj.2
        exact ⟨⟨by rw [hsz']; exact hj.1.1, hj.1.2⟩, by omega⟩
set_option maxRecDepth 100000 in
set_option maxHeartbeats 4000000 in
theorem named_op_bad_d3 (most : Nat) (hk : (ahd c.L i).kind = 1) (hti : (ahd c.L (i + 1)).tight = true) (hp : isP (ahd c.L (i + 1)) [40] = false) (hk1 : (ahd c.L (i + 1)).kind = 3) (hs : ¬ (ahd c.L i).s = [45]) {own right : Nat} (hpr : preR (ahd c.L i).s = some (own, right)) (hom : own ≤ most) (hbg : begins (ahd c.L (i + 1)) = true) (hba : bare (ahd c.L i) = true) {i' : Nat} {code : Int} (hu : r right (i + 1) ns = .bad i' code) :
    Calls Tryz.prog 104 #[.pointer (some ⟨c.b, 0, none⟩), .int .i64 most] W fun e W' => e = faultE (i') (code) ∧ Kp c W na W' := by
  have hi : i < c.L.length := ahd_lt (by rw [hk]; decide)
  have htk : ∀ j, j < c.L.length → i64ok (ahd c.L j).n ∧ (ahd c.L j).s.length ≤ 4096 := fun j hj => hc.tok _ (by unfold ahd; rw [List.getD_eq_getElem?_getD, List.getElem?_eq_getElem hj]; exact List.getElem_mem hj)
  have hsl := (htk i hi).2
  have hlen := hc.len
  have hii : (i : Int) < 4096 := by omega
  obtain ⟨W1, hW1⟩ : ∃ W1, W1 = W.alloc (.cells #[.int .i64 0, .int .i64 0, .string (ByteArray.mk #[]), .slice none 0 0] 24) := ⟨_, rfl⟩
  obtain ⟨h1, s1, x1, f1⟩ := h.fresh hc #[.int .i64 0, .int .i64 0, .string (ByteArray.mk #[]), .slice none 0 0] 24
  rw [← hW1] at h1 s1 x1 f1
  have hw1 : W1.heap.size = W.heap.size + 1 := by rw [hW1]; simp
  have ha0 := ahead_at c hc h1 0 (by omega)
  rw [Nat.add_zero] at ha0
  have ha1 := fun W' (h' : PAt c W' na nc i d ns) => ahead_at c hc h' 1 (Nat.le_refl _)
  have hz := zeroTerm
  have hzt : ∀ w, (zeroValue 87).run Tryz.prog w = .ok (.agg #[.int .i64 0, .string ⟨#[]⟩, .int .i64 0, .bool false, .bool false]) w := fun w => by kernel_rfl
  have hnot : ∀ (x : Bool) (w : World), (Op.unary .not (.bool x)).run Tryz.prog w = .ok (.bool (!x)) w := fun _ _ => rfl
  have hri := (preR_le hpr).2
  have ht := fun W' (h' : PAt c W' na nc (i + 1) d ns) => take_no c hc h' (ByteArray.mk #[40]) [40] rfl hp
  clear hp
  have hE : ((strV (ahd c.L i).s).toList == [45]) = false := by rw [rd_beq (strV_list _)]; exact decide_eq_false hs
  have hbar := fun W' => isBare_at (ahd c.L i) W'
  rw [hba] at hbar
  have hpre := fun W' (T : Tab W') => prefix_at (strV (ahd c.L i).s) (ahd c.L i).s (strV_list _) W' T
  simp only [hpr] at hpre
  unfold preV at hpre
  have hbeg := fun W' (T : Tab W') => begins_at (ahd c.L (i + 1)) W' T
  rw [hbg] at hbeg
  have hoi : (own : Int) ≤ (most : Int) := by omega
  have hter := fun W' (h' : PAt c W' na nc (i + 1) d ns) => hr W' na nc (i + 1) ns right h' hri
  rw [hu] at hter
  unfold OPost at hter
  clear hpr hba hbg hom hu
  generalize ahd c.L i = t0 at *
  generalize ahd c.L (i + 1) = t1 at *
  obtain ⟨kd0, sn0, nn0, qt0, tt0⟩ := t0
  obtain ⟨kd1, sn1, nn1, qt1, tt1⟩ := t1
  dsimp only at *
  subst hk
  subst hti hk1
  go_enter Tryz.func104, Tryz.ntmps104
  go_upto_region 3 with (first
    | (rw [← hW1]; go_at_call 67; refine ha0.mono ?_; rintro e W2 ⟨rfl, hb2⟩; have h2 := h1.later hc hb2)
    | (go_at_call 67; refine (ha1 _ h2).mono ?_; rintro e W3 ⟨rfl, hb3⟩; obtain ⟨S, hS, hcur, f0, s6, s7, x6, x7, hszS, q1, qf⟩ := named_state c hc h h1 (bel hb2 hb3) hi (.int .i64 1) (.string (strV sn0)) (.int .i64 nn0) (.bool qt0) (.bool tt0) (.int .i64 3) (.string (strV sn1)) (.int .i64 nn1) (.bool qt1) (.bool true)))
  rw [← hS]
  have fcur := Fr.refl c S na
  obtain ⟨m0, m1, m2, m3, m4⟩ := fcur.box5 s6 x6
  obtain ⟨p0, p1, p2, p3, p4⟩ := fcur.box5 s7 x7
  clear q1 qf hS
  go_wp2_with (first
    | (go_at_call 121; refine (ht _ hcur).mono ?_; rintro e W5 ⟨rfl, h5, f5⟩; replace fcur := fcur.trans f5; replace hcur := h5; obtain ⟨m0, m1, m2, m3, m4⟩ := fcur.box5 s6 x6; obtain ⟨p0, p1, p2, p3, p4⟩ := fcur.box5 s7 x7)
    | (go_at_call 105; refine (hbar _).mono ?_; rintro e Wr ⟨rfl, hbr⟩; replace fcur := fcur.trans (Fr.below hbr); replace hcur := hcur.later hc hbr; obtain ⟨m0, m1, m2, m3, m4⟩ := fcur.box5 s6 x6; obtain ⟨p0, p1, p2, p3, p4⟩ := fcur.box5 s7 x7)
    | (go_at_call 125; refine (hpre _ (hc.tab.later hcur.bel)).mono ?_; rintro e Wp ⟨rfl, hbp⟩; replace fcur := fcur.trans (Fr.below hbp); replace hcur := hcur.later hc hbp; obtain ⟨m0, m1, m2, m3, m4⟩ := fcur.box5 s6 x6; obtain ⟨p0, p1, p2, p3, p4⟩ := fcur.box5 s7 x7)
    | (go_at_call 126; refine (hbeg _ (hc.tab.later hcur.bel)).mono ?_; rintro e Wq ⟨rfl, hbq⟩; replace fcur := fcur.trans (Fr.below hbq); replace hcur := hcur.later hc hbq; obtain ⟨m0, m1, m2, m3, m4⟩ := fcur.box5 s6 x6; obtain ⟨p0, p1, p2, p3, p4⟩ := fcur.box5 s7 x7))
  have hbd : Below Wq.heap.size Wq Wq.drew := (Below.refl _ _).drew
  replace hcur := hcur.later hc hbd
  replace fcur := fcur.trans (Fr.below hbd)
  have hfin : ∀ w' W6, Fr c S na w' na → Kp c w' na W6 → Kp c W na W6 := fun w' W6 hf hK => (f1.trans (f0.trans hf)).kpt hK
  have HS : (fun w' => w'.cell? ⟨W3.heap.size, 1, none⟩ = some (.string (strV sn0)) ∧ PAt c w' na nc (i + 1) d ns ∧ Fr c S na w' na) Wq.drew := ⟨(fcur.box5 s6 x6).2.1, hcur, fcur⟩
  refine wp_region_held_drew (S := fun w' => w'.cell? ⟨W3.heap.size, 1, none⟩ = some (.string (strV sn0)) ∧ PAt c w' na nc (i + 1) d ns ∧ Fr c S na w' na) (by kernel_rfl) HS (fun hHeld => ?_)
  refine wpAnyH_take (i := 0) (v := ?v0) rfl (by kernel_rfl) (by kernel_rfl) (by kernel_rfl) (by exact fun _ _ _ h => h) (Or.inl ⟨by rfl, ?hy0⟩) (by assumption) ?_
  case hy0 => (intro w hSw; (try dsimp only at hSw); go_simp; try with_reducible rfl)
  try simp only [Act.put, List.setIfInBounds_toArray, List.set_cons_zero, List.set_cons_succ]
  refine wpAnyH_take (i := 1) (v := ?v1) rfl (by kernel_rfl) (by kernel_rfl) (by kernel_rfl) (by exact fun _ _ _ h => h) (Or.inl ⟨by rfl, ?hy1⟩) (by assumption) ?_
  case hy1 => (intro w hSw; (try dsimp only at hSw); go_simp; try with_reducible rfl)
  try simp only [Act.put, List.setIfInBounds_toArray, List.set_cons_zero, List.set_cons_succ]
  refine wpAnyH_take (i := 2) (v := ?v2) rfl (by kernel_rfl) (by kernel_rfl) (by kernel_rfl) (by exact fun _ _ _ h => h) (Or.inl ⟨by rfl, ?hy2⟩) (by assumption) ?_
  case hy2 => (intro w hSw; (try dsimp only at hSw); go_simp; try with_reducible rfl)
  try simp only [Act.put, List.setIfInBounds_toArray, List.set_cons_zero, List.set_cons_succ]
  refine wpAnyH_take (i := 3) (v := ?v3) rfl (by kernel_rfl) (by kernel_rfl) (by kernel_rfl) (by exact fun _ _ _ h => h) (Or.inl ⟨by rfl, ?hy3⟩) (by assumption) ?_
  case hy3 => (intro w hSw; (try dsimp only at hSw); go_simp; try with_reducible rfl)
  try simp only [Act.put, List.setIfInBounds_toArray, List.set_cons_zero, List.set_cons_succ]
  refine wpAnyH_take (i := 4) (v := ?v4) rfl (by kernel_rfl) (by kernel_rfl) (by kernel_rfl) (by exact fun _ _ _ h => h) (Or.inl ⟨by rfl, ?hy4⟩) (by assumption) ?_
  case hy4 => (intro w hSw; (try dsimp only at hSw); go_simp; try with_reducible rfl)
  try simp only [Act.put, List.setIfInBounds_toArray, List.set_cons_zero, List.set_cons_succ]
  refine wpAnyH_take (i := 8) (v := ?v8) rfl (by kernel_rfl) (by kernel_rfl) (by kernel_rfl) (by exact fun _ _ _ h => h) (Or.inl ⟨by rfl, ?hy8⟩) (by assumption) ?_
  case hy8 => (intro w hSw; (try dsimp only at hSw); go_simp; try with_reducible rfl)
  try simp only [Act.put, List.setIfInBounds_toArray, List.set_cons_zero, List.set_cons_succ]
  refine wpAnyH_ready (rs := [5]) (by kernel_rfl) (by simp) ?_
  refine AllReadyH.cons rfl (fun K hK => ?_) ?_
  · go_simp
    refine (hter _ hcur).mono ?_
    rintro e W6 ⟨he, hK⟩
    unfold faultE at he
    subst he
    exact ⟨rfl, rfl, hfin _ _ fcur hK⟩
  · exact AllReadyH.nil
set_option maxRecDepth 100000 in
set_option maxHeartbeats 4000000 in
theorem named_op_d3 (most : Nat) (hk : (ahd c.L i).kind = 1) (hti : (ahd c.L (i + 1)).tight = true) (hp : isP (ahd c.L (i + 1)) [40] = false) (hk1 : (ahd c.L (i + 1)).kind = 3) (hs : ¬ (ahd c.L i).s = [45]) {own right : Nat} (hpr : preR (ahd c.L i).s = some (own, right)) (hom : own ≤ most) (hbg : begins (ahd c.L (i + 1)) = true) (hba : bare (ahd c.L i) = true) {T : Tm} {i6 : Nat} {ns6 : Nms} (hu : r right (i + 1) ns = .ok T i6 ns6) :
    Calls Tryz.prog 104 #[.pointer (some ⟨c.b, 0, none⟩), .int .i64 most] W (NPost c W na d (.ok (.mk 3 0 (strV (ahd c.L i).s) [T], own) i6 ns6)) := by
  have hi : i < c.L.length := ahd_lt (by rw [hk]; decide)
  have htk : ∀ j, j < c.L.length → i64ok (ahd c.L j).n ∧ (ahd c.L j).s.length ≤ 4096 := fun j hj => hc.tok _ (by unfold ahd; rw [List.getD_eq_getElem?_getD, List.getElem?_eq_getElem hj]; exact List.getElem_mem hj)
  have hsl := (htk i hi).2
  have hlen := hc.len
  have hii : (i : Int) < 4096 := by omega
  obtain ⟨W1, hW1⟩ : ∃ W1, W1 = W.alloc (.cells #[.int .i64 0, .int .i64 0, .string (ByteArray.mk #[]), .slice none 0 0] 24) := ⟨_, rfl⟩
  obtain ⟨h1, s1, x1, f1⟩ := h.fresh hc #[.int .i64 0, .int .i64 0, .string (ByteArray.mk #[]), .slice none 0 0] 24
  rw [← hW1] at h1 s1 x1 f1
  have hw1 : W1.heap.size = W.heap.size + 1 := by rw [hW1]; simp
  have ha0 := ahead_at c hc h1 0 (by omega)
  rw [Nat.add_zero] at ha0
  have ha1 := fun W' (h' : PAt c W' na nc i d ns) => ahead_at c hc h' 1 (Nat.le_refl _)
  have hz := zeroTerm
  have hzt : ∀ w, (zeroValue 87).run Tryz.prog w = .ok (.agg #[.int .i64 0, .string ⟨#[]⟩, .int .i64 0, .bool false, .bool false]) w := fun w => by kernel_rfl
  have hnot : ∀ (x : Bool) (w : World), (Op.unary .not (.bool x)).run Tryz.prog w = .ok (.bool (!x)) w := fun _ _ => rfl
  have hri := (preR_le hpr).2
  have ht := fun W' (h' : PAt c W' na nc (i + 1) d ns) => take_no c hc h' (ByteArray.mk #[40]) [40] rfl hp
  clear hp
  have hE : ((strV (ahd c.L i).s).toList == [45]) = false := by rw [rd_beq (strV_list _)]; exact decide_eq_false hs
  have hbar := fun W' => isBare_at (ahd c.L i) W'
  rw [hba] at hbar
  have hpre := fun W' (T : Tab W') => prefix_at (strV (ahd c.L i).s) (ahd c.L i).s (strV_list _) W' T
  simp only [hpr] at hpre
  unfold preV at hpre
  have hbeg := fun W' (T : Tab W') => begins_at (ahd c.L (i + 1)) W' T
  rw [hbg] at hbeg
  have hoi : (own : Int) ≤ (most : Int) := by omega
  have hter := fun W' (h' : PAt c W' na nc (i + 1) d ns) => hr W' na nc (i + 1) ns right h' hri
  rw [hu] at hter
  unfold OPost at hter
  clear hpr hba hbg hom hu
  generalize ahd c.L i = t0 at *
  generalize ahd c.L (i + 1) = t1 at *
  obtain ⟨kd0, sn0, nn0, qt0, tt0⟩ := t0
  obtain ⟨kd1, sn1, nn1, qt1, tt1⟩ := t1
  dsimp only at *
  subst hk
  subst hti hk1
  go_enter Tryz.func104, Tryz.ntmps104
  go_upto_region 3 with (first
    | (rw [← hW1]; go_at_call 67; refine ha0.mono ?_; rintro e W2 ⟨rfl, hb2⟩; have h2 := h1.later hc hb2)
    | (go_at_call 67; refine (ha1 _ h2).mono ?_; rintro e W3 ⟨rfl, hb3⟩; obtain ⟨S, hS, hcur, f0, s6, s7, x6, x7, hszS, q1, qf⟩ := named_state c hc h h1 (bel hb2 hb3) hi (.int .i64 1) (.string (strV sn0)) (.int .i64 nn0) (.bool qt0) (.bool tt0) (.int .i64 3) (.string (strV sn1)) (.int .i64 nn1) (.bool qt1) (.bool true)))
  rw [← hS]
  have fcur := Fr.refl c S na
  obtain ⟨m0, m1, m2, m3, m4⟩ := fcur.box5 s6 x6
  obtain ⟨p0, p1, p2, p3, p4⟩ := fcur.box5 s7 x7
  clear q1 qf hS
  go_wp2_with (first
    | (go_at_call 121; refine (ht _ hcur).mono ?_; rintro e W5 ⟨rfl, h5, f5⟩; replace fcur := fcur.trans f5; replace hcur := h5; obtain ⟨m0, m1, m2, m3, m4⟩ := fcur.box5 s6 x6; obtain ⟨p0, p1, p2, p3, p4⟩ := fcur.box5 s7 x7)
    | (go_at_call 105; refine (hbar _).mono ?_; rintro e Wr ⟨rfl, hbr⟩; replace fcur := fcur.trans (Fr.below hbr); replace hcur := hcur.later hc hbr; obtain ⟨m0, m1, m2, m3, m4⟩ := fcur.box5 s6 x6; obtain ⟨p0, p1, p2, p3, p4⟩ := fcur.box5 s7 x7)
    | (go_at_call 125; refine (hpre _ (hc.tab.later hcur.bel)).mono ?_; rintro e Wp ⟨rfl, hbp⟩; replace fcur := fcur.trans (Fr.below hbp); replace hcur := hcur.later hc hbp; obtain ⟨m0, m1, m2, m3, m4⟩ := fcur.box5 s6 x6; obtain ⟨p0, p1, p2, p3, p4⟩ := fcur.box5 s7 x7)
    | (go_at_call 126; refine (hbeg _ (hc.tab.later hcur.bel)).mono ?_; rintro e Wq ⟨rfl, hbq⟩; replace fcur := fcur.trans (Fr.below hbq); replace hcur := hcur.later hc hbq; obtain ⟨m0, m1, m2, m3, m4⟩ := fcur.box5 s6 x6; obtain ⟨p0, p1, p2, p3, p4⟩ := fcur.box5 s7 x7))
  have hbd : Below Wq.heap.size Wq Wq.drew := (Below.refl _ _).drew
  replace hcur := hcur.later hc hbd
  replace fcur := fcur.trans (Fr.below hbd)
  have hte := hter _ hcur
  clear hter
  have hWq : W1.heap.size ≤ Wq.heap.size := Nat.le_trans f0.size fcur.size
  have H := Lib.hid (And.intro f0 (And.intro fcur (And.intro f1 hcur)))
  have hS6 := (f0.trans fcur).size
  go_region_with (first
    | (go_at_call 66; refine hte.mono ?_; rintro e W6 ⟨na6, nc6, k6, n6, s6', a6, l6, cp6, rfl, h6, f6, hT6⟩; obtain ⟨h10, s10, x10, f10⟩ := h6.fresh hc #[.int .i64 k6, .int .i64 n6, .string s6', .slice a6 l6 cp6] 24; obtain ⟨-, c61, -⟩ := (fcur.trans f6).box5 s6 x6; obtain ⟨-, c101, -⟩ := (fcur.trans (f6.trans f10)).box5 s6 x6)
    | (go_at_call 88; have hcall := (fun_plain c hc h10 sn0 hsl (p := Nw c Wq (W6.alloc (.cells #[.int .i64 k6, .int .i64 n6, .string s6', .slice a6 l6 cp6] 24)) na6) (fun j hj => hj.1) [T] _ _ (one_ts x10 ⟨s10, f6.size⟩ (hT6.carry (fun j hj => (f10.keep j hj.1).1) (fun j hj => ⟨(f10.keep j hj.1).2, hj.2⟩))) (.inr (by simp))); refine hcall.mono ?_; rintro e W8 ⟨k, n, s, a, l, cp, rfl, h8, f8, hT8⟩; have fall := f0.trans (fcur.trans (f6.trans (f10.trans f8))); obtain ⟨s9, x9, z0, z1, z2, z3, zf⟩ := fall.box s1 x1))
  all_goals
    obtain ⟨Z, hZ, hzb, hP, hF, hkp, hsz'⟩ := h8.box4 hc h (f1.trans fall) (Nat.le_refl _) s9 x9 (.int .i64 k) (.int .i64 n) (.string s) (.slice a l cp)
    obtain ⟨y0, y1, y2, y3⟩ := tbox_cells hzb
    rw [← hZ]
    have HP := Lib.hid (And.intro hP (And.intro hF (And.intro hkp hsz')))
    clear hP hF hkp hsz' z0 z1 z2 z3 zf
    go_wp2
    obtain ⟨hP, hF, hkp, hsz'⟩ := HP.out
    refine bodyPost_ret (v := .tuple #[.agg #[.int .i64 k, .int .i64 n, .string s, .slice a l cp], .int .i64 own]) (by simp [results, Tryz.f104, go_sem, y0, y1, y2, y3]) rfl ?_
    have hw68 := (f6.trans f10).size
    have hwd : Wq.drew.heap.size = Wq.heap.size := rfl
    refine ⟨na6, nc6, k, n, s, a, l, cp, rfl, hP, hF, hT8.carry (fun j hj => hkp j ?_) (fun j hj => ?_)⟩
    · rcases hj with hj | hj
      · have := hj.2; omega
      · have := hj.2; omega
    · rcases hj with hj | hj
      · have h91 := (f8.keep j hj.1).2
        have h92 := hj.2
        exact ⟨⟨by rw [hsz']; exact h91.1, h91.2⟩, by omega⟩
      · have h92 := hj.2
        exact ⟨⟨by rw [hsz']; exact hj.1.1, hj.1.2⟩, by omega⟩
end
end Go.Proofs.YtfencolokfghfaaGreatDoor
