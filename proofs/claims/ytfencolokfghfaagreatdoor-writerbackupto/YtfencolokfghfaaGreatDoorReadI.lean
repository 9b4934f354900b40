/-
  list: a list, from behind its opening bracket on.
-/
import Derived.Test.YtfencolokfghfaaGreatDoorReadH
import Derived.RegionCalls
namespace Go.Proofs.YtfencolokfghfaaGreatDoor
open Go.RowKit Go.Maps
set_option linter.unusedVariables false
set_option linter.unusedSectionVars false

theorem two_ts {q : Nat → Prop} {Z : World} {g : Nat} {k n : Int} {s : ByteArray} {a : Option Addr} {l c : Nat} {k' n' : Int} {s' : ByteArray} {a' : Option Addr} {l' c' : Nat} {x y : Tm} (hx : Z.heap[g]? = some (.cells #[.int .i64 k, .int .i64 n, .string s, .slice a l c, .int .i64 k', .int .i64 n', .string s', .slice a' l' c'] 24 (0, 0))) (hq : q g)
    (ht : TmIn q Z (.agg #[.int .i64 k, .int .i64 n, .string s, .slice a l c]) x) (ht' : TmIn q Z (.agg #[.int .i64 k', .int .i64 n', .string s', .slice a' l' c']) y) : TsIn q Z (.slice (some ⟨g, 0, none⟩) 2 2) [x, y] := by
  refine ⟨some ⟨g, 0, none⟩, 2, rfl, Nat.le_refl _, by unfold maxLen; omega, (fun e => by cases e), fun i hi => ?_⟩
  have e : i = 0 ∨ i = 1 := by simp at hi; omega
  rcases e with rfl | rfl
  · exact ⟨g, 0, k, n, s, a, l, c, rfl, hq, by simp [World.cell?, hx], by simp [World.cell?, hx], by simp [World.cell?, hx], by simp [World.cell?, hx], ht⟩
  · exact ⟨g, 0, k', n', s', a', l', c', rfl, hq, by simp [World.cell?, hx], by simp [World.cell?, hx], by simp [World.cell?, hx], by simp [World.cell?, hx], ht'⟩

/-- A block of a term that is no block of the parser's. -/
theorem PAt.new2 {c : Cx} (hc : c.Ok) {W : World} {na : Option Addr} {nc i d : Nat} {ns : Nms} (h : PAt c W na nc i d ns) {B : Nat} {cs : Array Value} (hx : W.heap[B]? = some (.cells cs 24 (0, 0))) (h0 : c.w0.heap.size ≤ B) : c.stays W na B := by
  refine ⟨(Array.getElem?_eq_some_iff.1 hx).1, fun e => ?_, fun e => ?_, fun a ha e => ?_⟩
  · rw [e, h.box] at hx; simp at hx
  · obtain ⟨D, ⟨es, ck, hm, -⟩, -⟩ := h.map
    rw [e, hm] at hx; cases hx
  · obtain ⟨xs, -, ⟨e1, -⟩ | ⟨g, cap, cur, e1, -, hh, -⟩⟩ := h.own
    · injection e1 with e1; rw [e1] at ha; cases ha
    · injection e1 with e1
      rw [ha] at e1
      injection e1 with e1
      rw [e1] at e
      dsimp only at e
      rw [e, hx] at hh
      simp at hh
section
variable (c : Cx) (hc : c.Ok) {W : World} {na : Option Addr} {nc i d : Nat} {ns : Nms} (h : PAt c W na nc i d ns) {r : Rdr} (hr : RAt c d r) (h7 : Reads7 c.L r)
include hc h
set_option maxRecDepth 100000 in
set_option maxHeartbeats 4000000 in
theorem list_empty (hp : isP (ahd c.L i) [93] = true) : Calls Tryz.prog 123 #[.pointer (some ⟨c.b, 0, none⟩)] W (TPost c W na d nilT (i + 1) ns) := by
  obtain ⟨W1, hW1⟩ : ∃ W1, W1 = W.alloc (.cells #[.int .i64 0, .int .i64 0, .string (ByteArray.mk #[]), .slice none 0 0] 24) := ⟨_, rfl⟩
  obtain ⟨h1, s1, x1, f1⟩ := h.fresh hc #[.int .i64 0, .int .i64 0, .string (ByteArray.mk #[]), .slice none 0 0] 24
  rw [← hW1] at h1 s1 x1 f1
  have ht := take_yes c hc h1 (ByteArray.mk #[93]) [93] rfl hp
  have hat := fun w => atom_at (ByteArray.mk #[91, 93]) w (by decide)
  have hz := zeroTerm
  go_enter Tryz.func123, Tryz.ntmps123
  go_wp2_with (first
    | (rw [← hW1]; go_at_call 121; refine ht.mono ?_; rintro e W2 ⟨rfl, h2, f2⟩)
    | (go_at_call 16; refine (hat _).mono ?_; rintro e W4 h4; obtain ⟨k, n, s, a, l, cp, rfl, hT, hb4⟩ := h4.form4; have h5 := h2.later hc hb4; have f5 := f2.trans (Fr.below hb4); obtain ⟨s5, x5, z0, z1, z2, z3, zf⟩ := f5.box s1 x1))
  obtain ⟨Z, hZ, hzb, hP, hF, hkp, hsz⟩ := h5.box4 hc h (f1.trans f5) (Nat.le_refl _) s5 x5 (.int .i64 k) (.int .i64 n) (.string s) (.slice a l cp)
  obtain ⟨y0, y1, y2, y3⟩ := tbox_cells hzb
  rw [← hZ]
  refine bodyPost_ret (v := .agg #[.int .i64 k, .int .i64 n, .string s, .slice a l cp]) (by simp [results, Tryz.f123, go_sem, y0, y1, y2, y3]) rfl ?_
  have e3 : W.heap.size < W2.heap.size := Nat.lt_of_lt_of_le s1.1 f2.size
  exact ⟨na, nc, k, n, s, a, l, cp, rfl, hP, hF, tm_box (new_tm c hc h2 hb4.size hT) e3 (Nat.le_of_lt e3) hkp hsz⟩
include hr h7
set_option maxRecDepth 100000 in
set_option maxHeartbeats 4000000 in
theorem list_bad1 (hp : isP (ahd c.L i) [93] = false) {i' : Nat} {code : Int} (ha : argsG c.L r i ns = .bad i' code) : Calls Tryz.prog 123 #[.pointer (some ⟨c.b, 0, none⟩)] W fun e W' => e = faultE i' code ∧ Kp c W na W' := by
  obtain ⟨W1, hW1⟩ : ∃ W1, W1 = W.alloc (.cells #[.int .i64 0, .int .i64 0, .string (ByteArray.mk #[]), .slice none 0 0] 24) := ⟨_, rfl⟩
  obtain ⟨h1, s1, x1, f1⟩ := h.fresh hc #[.int .i64 0, .int .i64 0, .string (ByteArray.mk #[]), .slice none 0 0] 24
  rw [← hW1] at h1 s1 x1 f1
  have ht := take_no c hc h1 (ByteArray.mk #[93]) [93] rfl hp
  have hargs := fun W' (h' : PAt c W' na nc i d ns) => arguments_at c hc h' hr h7
  rw [ha] at hargs
  unfold APost at hargs
  have hz := zeroTerm
  go_enter Tryz.func123, Tryz.ntmps123
  go_wp2_with (first
    | (rw [← hW1]; go_at_call 121; refine ht.mono ?_; rintro e W2 ⟨rfl, h2, f2⟩)
    | (go_at_call 124; refine (hargs _ h2).mono ?_; rintro e W4 ⟨he, hK⟩; unfold faultE at he; subst he))
  exact ⟨rfl, rfl, (f1.trans f2).kpt hK⟩
set_option maxRecDepth 100000 in
set_option maxHeartbeats 4000000 in
theorem list_plain (hp : isP (ahd c.L i) [93] = false) {ts : List Tm} {i1 : Nat} {ns1 : Nms} (ha : argsG c.L r i ns = .ok ts i1 ns1) (hs : isP (ahd c.L i1) [124] = false) (he : isP (ahd c.L i1) [93] = true) (hsz : Tm.sizes ts ≤ 4096) : Calls Tryz.prog 123 #[.pointer (some ⟨c.b, 0, none⟩)] W (TPost c W na d (consT ts nilT) (i1 + 1) ns1) := by
  have hlen := Tm.length_le_sizes ts
  obtain ⟨W1, hW1⟩ : ∃ W1, W1 = W.alloc (.cells #[.int .i64 0, .int .i64 0, .string (ByteArray.mk #[]), .slice none 0 0] 24) := ⟨_, rfl⟩
  obtain ⟨h1, s1, x1, f1⟩ := h.fresh hc #[.int .i64 0, .int .i64 0, .string (ByteArray.mk #[]), .slice none 0 0] 24
  rw [← hW1] at h1 s1 x1 f1
  have ht := take_no c hc h1 (ByteArray.mk #[93]) [93] rfl hp
  have hargs := fun W' (h' : PAt c W' na nc i d ns) => arguments_at c hc h' hr h7
  rw [ha] at hargs
  unfold APost at hargs
  have hat := fun w => atom_at (ByteArray.mk #[91, 93]) w (by decide)
  have ht2 := fun W' na' nc' (h' : PAt c W' na' nc' i1 d ns1) => take_no c hc h' (ByteArray.mk #[124]) [124] rfl hs
  have hne := fun W' na' nc' (h' : PAt c W' na' nc' i1 d ns1) => need_yes c hc h' (ByteArray.mk #[93]) [93] rfl he
  have hz := zeroTerm
  have e9 : wrap64 ((ts.length : Int) - 1) = (ts.length : Int) - 1 := by simp only [wrap64]; omega
  go_enter Tryz.func123, Tryz.ntmps123
  go_wp2_with (first
    | (rw [← hW1]; go_at_call 121; refine ht.mono ?_; rintro e W2 ⟨rfl, h2, f2⟩)
    | (go_at_call 124; refine (hargs _ h2).mono ?_; rintro e Wb ⟨na1, nc1, ea, ec, rfl, hb, fb, hel⟩)
    | (go_at_call 16; refine (hat _).mono ?_; rintro e Wc h4; obtain ⟨k, n, s, a, l, cp, rfl, hT, hb4⟩ := h4.form4; have hPc := hb.later hc hb4; obtain ⟨h4', s4, x4, f4⟩ := hPc.fresh hc #[.int .i64 k, .int .i64 n, .string s, .slice a l cp] 24)
    | (go_at_call 121; refine (ht2 _ _ _ h4').mono ?_; rintro e W5 ⟨rfl, h5, f5⟩)
    | (go_at_call 122; refine (hne _ _ _ h5).mono ?_; rintro e X ⟨rfl, hX, f6⟩))
  obtain ⟨eB, sB⟩ := (f5.trans f6).keep _ s4
  have bx := eB.trans x4
  have fX := f4.trans (f5.trans f6)
  have f12 := f2.trans (fb.trans (Fr.below hb4))
  have fbc : Fr c Wb na1 Wc na1 := Fr.below hb4
  have hu : TmIn (fun j => Nw c W1 X na1 j ∧ j ≠ Wc.heap.size) X (.agg #[.int .i64 k, .int .i64 n, .string s, .slice a l cp]) nilT :=
    TmIn.carry (A := Wc) (p := fun b => Wb.heap.size ≤ b ∧ b < Wc.heap.size) (fun j hj => (fX.keep j (hb.new hc hb4.size hj.1 hj.2)).1) (fun j hj => ⟨⟨(fX.keep j (hb.new hc hb4.size hj.1 hj.2)).2, Nat.le_trans (f2.trans fb).size hj.1⟩, by have := hj.2; omega⟩) hT
  clear x4 s4 eB sB hT
  have hfW : Fr c W na Wc na1 := f1.trans f12
  have hw1 : W1.heap.size = W.heap.size + 1 := by rw [hW1]; simp
  have hel' : ∀ wr, Fr c Wc na1 wr na1 → TsIn (fun j => Nw c W1 wr na1 j ∧ j < Wc.heap.size) wr (.slice ea ts.length ec) ts := fun wr fr => hel.carry (fun j hj => ((fbc.trans fr).keep j hj.1).1) (fun j hj => ⟨⟨((fbc.trans fr).keep j hj.1).2, Nat.le_trans f2.size hj.2⟩, (fbc.keep j hj.1).2.1⟩)
  have hWc1 : W1.heap.size ≤ Wc.heap.size := f12.size
  have HEL := Lib.hid hel'
  clear hel hel' hargs ht
  go_loopg [5] ts.length (fun g x wr => x = .int .i64 ((g : Int) - 1) ∧ g ≤ ts.length ∧ PAt c wr na1 nc1 (i1 + 1) d ns1 ∧ Fr c Wc na1 wr na1 ∧ ∃ k n s a l cp, wr.heap[Wc.heap.size]? = some (.cells #[.int .i64 k, .int .i64 n, .string s, .slice a l cp] 24 (0, 0)) ∧ TmIn (fun j => Nw c W1 wr na1 j ∧ j ≠ Wc.heap.size) wr (.agg #[.int .i64 k, .int .i64 n, .string s, .slice a l cp]) (consT (ts.drop g) nilT))
  case atStart => exact ⟨rfl, Nat.le_refl _, hX, fX, _, _, _, _, _, _, bx, by rw [List.drop_length]; exact hu⟩
  case round =>
    obtain ⟨rfl, hgl, hPr, hfr, k3, n3, s3, a3, l3, cp3, hbr, hur⟩ := hrel
    clear hX fX bx hu
    obtain ⟨z0, z1, z2, z3⟩ := tbox_cells hbr
    have zf : ∀ j, wr.frozen? ⟨Wc.heap.size, j, none⟩ = false := fun j => by simp [World.frozen?, hbr]
    cases gk with
    | zero =>
      have hfW' := hfW.trans hfr
      have hB2 : W1.heap.size ≤ wr.heap.size := Nat.le_trans hWc1 hfr.size
      have fB := (f12.trans hfr).box s1 x1
      obtain ⟨s5, x5, b0, b1, b2, b3, bf⟩ := fB
      obtain ⟨Z, hZ, hzb, hP, hF, hkp, hsz'⟩ := hPr.box4 hc h hfW' (Nat.le_refl _) s5 x5 (.int .i64 k3) (.int .i64 n3) (.string s3) (.slice a3 l3 cp3)
      obtain ⟨y0, y1, y2, y3⟩ := tbox_cells hzb
      have HP := Lib.hid (And.intro hP (And.intro hF (And.intro hkp hsz')))
      have e0 : ((0 : Nat) : Int) - 1 = -1 := rfl
      clear hP hF hkp hsz' hzb
      go_wp2
      rw [← hZ]
      obtain ⟨hP, hF, hkp, hsz'⟩ := HP.out
      refine bodyPost_ret (v := .agg #[.int .i64 k3, .int .i64 n3, .string s3, .slice a3 l3 cp3]) (by simp [results, Tryz.f123, go_sem, y0, y1, y2, y3]) rfl ?_
      refine ⟨na1, nc1, k3, n3, s3, a3, l3, cp3, rfl, hP, hF, hur.carry (fun j hj => hkp j (by have := hj.1.2; omega)) (fun j hj => ⟨⟨by rw [hsz']; exact hj.1.1.1, hj.1.1.2⟩, by have := hj.1.2; omega⟩)⟩
    | succ m =>
      obtain ⟨ea', ec', hev, -, -, -, hcell⟩ := HEL.out wr hfr
      obtain ⟨eb, eo, k4, n4, s4', a4, l4, cp4, heq, hpe, p0, p1, p2, p3, hTe⟩ := hcell m (by omega)
      injection hev with hv1 hv2 hv3
      subst hv1
      subst hv3
      subst heq
      have em : (((m + 1 : Nat) : Int) - 1) = (m : Int) := by omega
      have em1 : (0 : Int) ≤ (m : Int) := by omega
      have em2 : (m : Int) < (ts.length : Int) := by omega
      have em3 : wrap64 ((m : Int) - 1) = (m : Int) - 1 := by simp only [wrap64]; omega
      rw [em]
      obtain ⟨Y, hY⟩ : ∃ Y, Y = (wr.alloc (.cells #[.int .i64 k4, .int .i64 n4, .string s4', .slice a4 l4 cp4, .int .i64 k3, .int .i64 n3, .string s3, .slice a3 l3 cp3] 24)).drew := ⟨_, rfl⟩
      have hbY : Below wr.heap.size wr Y := by rw [hY]; exact (bel_al (Below.refl _ _) _).drew
      have gY : Y.heap[wr.heap.size]? = some (.cells #[.int .i64 k4, .int .i64 n4, .string s4', .slice a4 l4 cp4, .int .i64 k3, .int .i64 n3, .string s3, .slice a3 l3 cp3] 24 (0, 0)) := by rw [hY]; exact alloc_new wr _
      have hPY := hPr.later hc hbY
      have fY : Fr c wr na1 Y na1 := Fr.below hbY
      have hYl : wr.heap.size < Y.heap.size := (Array.getElem?_eq_some_iff.1 gY).1
      have hBl : Wc.heap.size < wr.heap.size := (Array.getElem?_eq_some_iff.1 hbr).1
      have kp : ∀ j, Nw c W1 wr na1 j → Nw c W1 Y na1 j := fun j hj => ⟨(fY.keep j hj.1).2, hj.2⟩
      have hts := two_ts (q := fun j => Nw c W1 Y na1 j ∧ j ≠ Wc.heap.size) gY ⟨⟨hPr.new hc hbY.size (Nat.le_refl _) hYl, by omega⟩, by omega⟩ (hTe.carry (fun j hj => (fY.keep j hj.1.1).1) (fun j hj => ⟨kp j hj.1, by have := hj.2; omega⟩)) (hur.carry (fun j hj => (fY.keep j hj.1.1).1) (fun j hj => ⟨kp j hj.1, hj.2⟩))
      have hcall := fun_plain c hc hPY [46] (by decide) (p := fun j => Nw c W1 Y na1 j ∧ j ≠ Wc.heap.size) (fun j hj => hj.1.1) [ts[m], consT (ts.drop (m + 1)) nilT] (some ⟨wr.heap.size, 0, none⟩) 2 hts (.inl (by decide))
      obtain ⟨sB, xB, -⟩ := fY.box (B := Wc.heap.size) (hPr.new2 hc hbr (by rw [hw1] at hWc1; have := h.bel.size; omega) ) hbr
      clear hts hTe
      go_wp2
      go_region_with (go_at_call 88; (try rw [← hY]); refine hcall.mono ?_; rintro e V ⟨k5, n5, s5, a5, l5, cp5, rfl, h5, f5, hT5⟩; obtain ⟨sV, xV, v0, v1, v2, v3, vf⟩ := f5.box sB xB)
      all_goals
        obtain ⟨Z, hZ, hzb, hP, hF, hkp, hsz'⟩ := h5.box4 hc hPc (hfr.trans (fY.trans f5)) (Nat.le_refl _) sV xV (.int .i64 k5) (.int .i64 n5) (.string s5) (.slice a5 l5 cp5)
        rw [← hZ]
        have HP := Lib.hid (And.intro hP (And.intro hF (And.intro hkp (And.intro hsz' hzb))))
        clear hP hF hkp hsz' hzb v0 v1 v2 v3 vf hZ
        go_wp2
        go_roundg m
        case measure => omega
        case rel =>
          obtain ⟨hP, hF, hkp, hsz', hzb⟩ := HP.out
          have hdrop : consT (ts.drop m) nilT = pairT ts[m] (consT (ts.drop (m + 1)) nilT) := by rw [List.drop_eq_getElem_cons (by omega)]; rfl
          refine ⟨rfl, by omega, hP, hF, k5, n5, s5, a5, l5, cp5, hzb, ?_⟩
          rw [hdrop]
          refine hT5.carry (fun j hj => hkp j ?_) (fun j hj => ?_)
          · rcases hj with hj | hj
            · exact hj.2
            · have := hj.2; omega
          · rcases hj with hj | hj
            · have := (f5.keep j hj.1.1).2
              exact ⟨⟨⟨by rw [hsz']; exact this.1, this.2⟩, hj.1.2⟩, hj.2⟩
            · have h91 := hj.2
              exact ⟨⟨⟨by rw [hsz']; exact hj.1.1, hj.1.2⟩, by omega⟩, by omega⟩
set_option maxRecDepth 100000 in
set_option maxHeartbeats 4000000 in
theorem list_plain_bad (hp : isP (ahd c.L i) [93] = false) {ts : List Tm} {i1 : Nat} {ns1 : Nms} (ha : argsG c.L r i ns = .ok ts i1 ns1) (hs : isP (ahd c.L i1) [124] = false) (he : isP (ahd c.L i1) [93] = false) (hsz : Tm.sizes ts ≤ 4096) : Calls Tryz.prog 123 #[.pointer (some ⟨c.b, 0, none⟩)] W fun e W' => e = faultE i1 4 ∧ Kp c W na W' := by
  have hlen := Tm.length_le_sizes ts
  obtain ⟨W1, hW1⟩ : ∃ W1, W1 = W.alloc (.cells #[.int .i64 0, .int .i64 0, .string (ByteArray.mk #[]), .slice none 0 0] 24) := ⟨_, rfl⟩
  obtain ⟨h1, s1, x1, f1⟩ := h.fresh hc #[.int .i64 0, .int .i64 0, .string (ByteArray.mk #[]), .slice none 0 0] 24
  rw [← hW1] at h1 s1 x1 f1
  have ht := take_no c hc h1 (ByteArray.mk #[93]) [93] rfl hp
  have hargs := fun W' (h' : PAt c W' na nc i d ns) => arguments_at c hc h' hr h7
  rw [ha] at hargs
  unfold APost at hargs
  have hat := fun w => atom_at (ByteArray.mk #[91, 93]) w (by decide)
  have hz := zeroTerm
  have e9 : wrap64 ((ts.length : Int) - 1) = (ts.length : Int) - 1 := by simp only [wrap64]; omega
  have ht2 := fun W' na' nc' (h' : PAt c W' na' nc' i1 d ns1) => take_no c hc h' (ByteArray.mk #[124]) [124] rfl hs
  have hne := fun W' na' nc' (h' : PAt c W' na' nc' i1 d ns1) => need_no c hc h' (ByteArray.mk #[93]) [93] rfl he
  go_enter Tryz.func123, Tryz.ntmps123
  go_wp2_with (first
    | (rw [← hW1]; go_at_call 121; refine ht.mono ?_; rintro e W2 ⟨rfl, h2, f2⟩)
    | (go_at_call 124; refine (hargs _ h2).mono ?_; rintro e Wb ⟨na1, nc1, ea, ec, rfl, hb, fb, hel⟩)
    | (go_at_call 16; refine (hat _).mono ?_; rintro e Wc h4; obtain ⟨k, n, s, a, l, cp, rfl, hT, hb4⟩ := h4.form4; have hPc := hb.later hc hb4; obtain ⟨h4', s4, x4, f4⟩ := hPc.fresh hc #[.int .i64 k, .int .i64 n, .string s, .slice a l cp] 24)
    | (go_at_call 121; refine (ht2 _ _ _ h4').mono ?_; rintro e W5 ⟨rfl, h5, f5⟩)
    | (go_at_call 122; refine (hne _ _ _ h5).mono ?_; rintro e X ⟨he', hK⟩; unfold faultE at he'; subst he'))
  exact ⟨rfl, rfl, (f1.trans (f2.trans (fb.trans ((Fr.below hb4).trans (f4.trans f5))))).kpt hK⟩
set_option maxRecDepth 100000 in
set_option maxHeartbeats 4000000 in
theorem list_stroke_bad (hp : isP (ahd c.L i) [93] = false) {ts : List Tm} {i1 : Nat} {ns1 : Nms} (ha : argsG c.L r i ns = .ok ts i1 ns1) (hs : isP (ahd c.L i1) [124] = true) {i' : Nat} {code : Int} (hu : r 999 (i1 + 1) ns1 = .bad i' code) (hsz : Tm.sizes ts ≤ 4096) : Calls Tryz.prog 123 #[.pointer (some ⟨c.b, 0, none⟩)] W fun e W' => e = faultE i' code ∧ Kp c W na W' := by
  have hlen := Tm.length_le_sizes ts
  obtain ⟨W1, hW1⟩ : ∃ W1, W1 = W.alloc (.cells #[.int .i64 0, .int .i64 0, .string (ByteArray.mk #[]), .slice none 0 0] 24) := ⟨_, rfl⟩
  obtain ⟨h1, s1, x1, f1⟩ := h.fresh hc #[.int .i64 0, .int .i64 0, .string (ByteArray.mk #[]), .slice none 0 0] 24
  rw [← hW1] at h1 s1 x1 f1
  have ht := take_no c hc h1 (ByteArray.mk #[93]) [93] rfl hp
  have hargs := fun W' (h' : PAt c W' na nc i d ns) => arguments_at c hc h' hr h7
  rw [ha] at hargs
  unfold APost at hargs
  have hat := fun w => atom_at (ByteArray.mk #[91, 93]) w (by decide)
  have hz := zeroTerm
  have e9 : wrap64 ((ts.length : Int) - 1) = (ts.length : Int) - 1 := by simp only [wrap64]; omega
  have ht2 := fun W' na' nc' (h' : PAt c W' na' nc' i1 d ns1) => take_yes c hc h' (ByteArray.mk #[124]) [124] rfl hs
  have hte := fun W' na' nc' (h' : PAt c W' na' nc' (i1 + 1) d ns1) => hr W' na' nc' (i1 + 1) ns1 999 h' (by omega)
  rw [hu] at hte
  unfold OPost at hte
  go_enter Tryz.func123, Tryz.ntmps123
  go_wp2_with (first
    | (rw [← hW1]; go_at_call 121; refine ht.mono ?_; rintro e W2 ⟨rfl, h2, f2⟩)
    | (go_at_call 124; refine (hargs _ h2).mono ?_; rintro e Wb ⟨na1, nc1, ea, ec, rfl, hb, fb, hel⟩)
    | (go_at_call 16; refine (hat _).mono ?_; rintro e Wc h4; obtain ⟨k, n, s, a, l, cp, rfl, hT, hb4⟩ := h4.form4; have hPc := hb.later hc hb4; obtain ⟨h4', s4, x4, f4⟩ := hPc.fresh hc #[.int .i64 k, .int .i64 n, .string s, .slice a l cp] 24)
    | (go_at_call 121; refine (ht2 _ _ _ h4').mono ?_; rintro e W5 ⟨rfl, h5, f5⟩)
    | (go_at_call 66; refine (hte _ _ _ h5).mono ?_; rintro e X ⟨he', hK⟩; unfold faultE at he'; subst he'))
  exact ⟨rfl, rfl, (f1.trans (f2.trans (fb.trans ((Fr.below hb4).trans (f4.trans f5))))).kpt hK⟩
set_option maxRecDepth 100000 in
set_option maxHeartbeats 4000000 in
theorem list_stroke_open (hp : isP (ahd c.L i) [93] = false) {ts : List Tm} {i1 : Nat} {ns1 : Nms} (ha : argsG c.L r i ns = .ok ts i1 ns1) (hs : isP (ahd c.L i1) [124] = true) {U : Tm} {i6 : Nat} {ns6 : Nms} (hu : r 999 (i1 + 1) ns1 = .ok U i6 ns6) (he : isP (ahd c.L i6) [93] = false) (hsz : Tm.sizes ts ≤ 4096) : Calls Tryz.prog 123 #[.pointer (some ⟨c.b, 0, none⟩)] W fun e W' => e = faultE i6 4 ∧ Kp c W na W' := by
  have hlen := Tm.length_le_sizes ts
  obtain ⟨W1, hW1⟩ : ∃ W1, W1 = W.alloc (.cells #[.int .i64 0, .int .i64 0, .string (ByteArray.mk #[]), .slice none 0 0] 24) := ⟨_, rfl⟩
  obtain ⟨h1, s1, x1, f1⟩ := h.fresh hc #[.int .i64 0, .int .i64 0, .string (ByteArray.mk #[]), .slice none 0 0] 24
  rw [← hW1] at h1 s1 x1 f1
  have ht := take_no c hc h1 (ByteArray.mk #[93]) [93] rfl hp
  have hargs := fun W' (h' : PAt c W' na nc i d ns) => arguments_at c hc h' hr h7
  rw [ha] at hargs
  unfold APost at hargs
  have hat := fun w => atom_at (ByteArray.mk #[91, 93]) w (by decide)
  have hz := zeroTerm
  have e9 : wrap64 ((ts.length : Int) - 1) = (ts.length : Int) - 1 := by simp only [wrap64]; omega
  have ht2 := fun W' na' nc' (h' : PAt c W' na' nc' i1 d ns1) => take_yes c hc h' (ByteArray.mk #[124]) [124] rfl hs
  have hte := fun W' na' nc' (h' : PAt c W' na' nc' (i1 + 1) d ns1) => hr W' na' nc' (i1 + 1) ns1 999 h' (by omega)
  rw [hu] at hte
  unfold OPost at hte
  have hne := fun W' na' nc' (h' : PAt c W' na' nc' i6 d ns6) => need_no c hc h' (ByteArray.mk #[93]) [93] rfl he
  go_enter Tryz.func123, Tryz.ntmps123
  go_wp2_with (first
    | (rw [← hW1]; go_at_call 121; refine ht.mono ?_; rintro e W2 ⟨rfl, h2, f2⟩)
    | (go_at_call 124; refine (hargs _ h2).mono ?_; rintro e Wb ⟨na1, nc1, ea, ec, rfl, hb, fb, hel⟩)
    | (go_at_call 16; refine (hat _).mono ?_; rintro e Wc h4; obtain ⟨k, n, s, a, l, cp, rfl, hT, hb4⟩ := h4.form4; have hPc := hb.later hc hb4; obtain ⟨h4', s4, x4, f4⟩ := hPc.fresh hc #[.int .i64 k, .int .i64 n, .string s, .slice a l cp] 24)
    | (go_at_call 121; refine (ht2 _ _ _ h4').mono ?_; rintro e W5 ⟨rfl, h5, f5⟩)
    | (go_at_call 66; refine (hte _ _ _ h5).mono ?_; rintro e W6 ⟨na6, nc6, k6, n6, s6, a6, l6, cp6, rfl, h6, f6, hT6⟩; obtain ⟨sV, xV, v0, v1, v2, v3, vf⟩ := (f5.trans f6).box s4 x4; obtain ⟨Z, hZ, hzb, hP, hF, hkp, hsz'⟩ := h6.box4 hc hPc (f4.trans (f5.trans f6)) (Nat.le_refl _) sV xV (.int .i64 k6) (.int .i64 n6) (.string s6) (.slice a6 l6 cp6))
    | (rw [← hZ]; go_at_call 122; refine (hne _ _ _ hP).mono ?_; rintro e X ⟨he', hK⟩; unfold faultE at he'; subst he'))
  exact ⟨rfl, rfl, (f1.trans (f2.trans (fb.trans ((Fr.below hb4).trans hF)))).kpt hK⟩
set_option maxRecDepth 100000 in
set_option maxHeartbeats 4000000 in
theorem list_stroke (hp : isP (ahd c.L i) [93] = false) {ts : List Tm} {i1 : Nat} {ns1 : Nms} (ha : argsG c.L r i ns = .ok ts i1 ns1) (hs : isP (ahd c.L i1) [124] = true) {U : Tm} {i6 : Nat} {ns6 : Nms} (hu : r 999 (i1 + 1) ns1 = .ok U i6 ns6) (he : isP (ahd c.L i6) [93] = true) (hsz : Tm.sizes ts ≤ 4096) : Calls Tryz.prog 123 #[.pointer (some ⟨c.b, 0, none⟩)] W (TPost c W na d (consT ts U) (i6 + 1) ns6) := by
  have hlen := Tm.length_le_sizes ts
  obtain ⟨W1, hW1⟩ : ∃ W1, W1 = W.alloc (.cells #[.int .i64 0, .int .i64 0, .string (ByteArray.mk #[]), .slice none 0 0] 24) := ⟨_, rfl⟩
  obtain ⟨h1, s1, x1, f1⟩ := h.fresh hc #[.int .i64 0, .int .i64 0, .string (ByteArray.mk #[]), .slice none 0 0] 24
  rw [← hW1] at h1 s1 x1 f1
  have ht := take_no c hc h1 (ByteArray.mk #[93]) [93] rfl hp
  have hargs := fun W' (h' : PAt c W' na nc i d ns) => arguments_at c hc h' hr h7
  rw [ha] at hargs
  unfold APost at hargs
  have hat := fun w => atom_at (ByteArray.mk #[91, 93]) w (by decide)
  have hz := zeroTerm
  have e9 : wrap64 ((ts.length : Int) - 1) = (ts.length : Int) - 1 := by simp only [wrap64]; omega
  have ht2 := fun W' na' nc' (h' : PAt c W' na' nc' i1 d ns1) => take_yes c hc h' (ByteArray.mk #[124]) [124] rfl hs
  have hte := fun W' na' nc' (h' : PAt c W' na' nc' (i1 + 1) d ns1) => hr W' na' nc' (i1 + 1) ns1 999 h' (by omega)
  rw [hu] at hte
  unfold OPost at hte
  have hne := fun W' na' nc' (h' : PAt c W' na' nc' i6 d ns6) => need_yes c hc h' (ByteArray.mk #[93]) [93] rfl he
  go_enter Tryz.func123, Tryz.ntmps123
  go_wp2_with (first
    | (rw [← hW1]; go_at_call 121; refine ht.mono ?_; rintro e W2 ⟨rfl, h2, f2⟩)
    | (go_at_call 124; refine (hargs _ h2).mono ?_; rintro e Wb ⟨na1, nc1, ea, ec, rfl, hb, fb, hel⟩)
    | (go_at_call 16; refine (hat _).mono ?_; rintro e Wc h4; obtain ⟨k, n, s, a, l, cp, rfl, hT, hb4⟩ := h4.form4; have hPc := hb.later hc hb4; obtain ⟨h4', s4, x4, f4⟩ := hPc.fresh hc #[.int .i64 k, .int .i64 n, .string s, .slice a l cp] 24)
    | (go_at_call 121; refine (ht2 _ _ _ h4').mono ?_; rintro e W5 ⟨rfl, h5, f5⟩)
    | (go_at_call 66; refine (hte _ _ _ h5).mono ?_; rintro e W6 ⟨na6, nc6, k6, n6, s6, a6, l6, cp6, rfl, h6, f6, hT6⟩; obtain ⟨sV, xV, v0, v1, v2, v3, vf⟩ := (f5.trans f6).box s4 x4; obtain ⟨Z, hZ, hzb, hP, hF, hkp, hsz'⟩ := h6.box4 hc hPc (f4.trans (f5.trans f6)) (Nat.le_refl _) sV xV (.int .i64 k6) (.int .i64 n6) (.string s6) (.slice a6 l6 cp6))
    | (rw [← hZ]; go_at_call 122; refine (hne _ _ _ hP).mono ?_; rintro e X ⟨rfl, hX, f9⟩))
  have hBl : Wc.heap.size < W5.heap.size := Nat.lt_of_lt_of_le s4.1 f5.size
  have f12 := f2.trans (fb.trans (Fr.below hb4))
  have hsB : c.stays Z na6 Wc.heap.size := ⟨by rw [hsz']; exact sV.1, sV.2⟩
  obtain ⟨eB, sB⟩ := f9.keep _ hsB
  have bx := eB.trans hzb
  have fX := hF.trans f9
  have fbc : Fr c Wb na1 Wc na1 := Fr.below hb4
  have hTZ : TmIn (Nw c W5 Z na6) Z (.agg #[.int .i64 k6, .int .i64 n6, .string s6, .slice a6 l6 cp6]) U := tm_box hT6 hBl (Nat.le_refl _) hkp hsz'
  have hu' : TmIn (fun j => Nw c W1 X na6 j ∧ j ≠ Wc.heap.size) X (.agg #[.int .i64 k6, .int .i64 n6, .string s6, .slice a6 l6 cp6]) U :=
    hTZ.carry (fun j hj => (f9.keep j hj.1).1) (fun j hj => ⟨⟨(f9.keep j hj.1).2, Nat.le_trans (f12.trans (f4.trans f5)).size hj.2⟩, by have := hj.2; omega⟩)
  clear x4 s4 eB sB hT hu hTZ hT6 hP hF hkp hzb hsB xV v0 v1 v2 v3 vf hZ
  have hu := hu'
  clear hu'
  have hfW : Fr c W na Wc na1 := f1.trans f12
  have hw1 : W1.heap.size = W.heap.size + 1 := by rw [hW1]; simp
  have hel' : ∀ wr, Fr c Wc na1 wr na6 → TsIn (fun j => Nw c W1 wr na6 j ∧ j < Wc.heap.size) wr (.slice ea ts.length ec) ts := fun wr fr => hel.carry (fun j hj => ((fbc.trans fr).keep j hj.1).1) (fun j hj => ⟨⟨((fbc.trans fr).keep j hj.1).2, Nat.le_trans f2.size hj.2⟩, (fbc.keep j hj.1).2.1⟩)
  have hWc1 : W1.heap.size ≤ Wc.heap.size := f12.size
  have HEL := Lib.hid hel'
  clear hel hel' hargs ht
  go_loopg [5] ts.length (fun g x wr => x = .int .i64 ((g : Int) - 1) ∧ g ≤ ts.length ∧ PAt c wr na6 nc6 (i6 + 1) d ns6 ∧ Fr c Wc na1 wr na6 ∧ ∃ k n s a l cp, wr.heap[Wc.heap.size]? = some (.cells #[.int .i64 k, .int .i64 n, .string s, .slice a l cp] 24 (0, 0)) ∧ TmIn (fun j => Nw c W1 wr na6 j ∧ j ≠ Wc.heap.size) wr (.agg #[.int .i64 k, .int .i64 n, .string s, .slice a l cp]) (consT (ts.drop g) U))
  case atStart => exact ⟨rfl, Nat.le_refl _, hX, fX, _, _, _, _, _, _, bx, by rw [List.drop_length]; exact hu⟩
  case round =>
    obtain ⟨rfl, hgl, hPr, hfr, k3, n3, s3, a3, l3, cp3, hbr, hur⟩ := hrel
    clear hX fX bx hu
    obtain ⟨z0, z1, z2, z3⟩ := tbox_cells hbr
    have zf : ∀ j, wr.frozen? ⟨Wc.heap.size, j, none⟩ = false := fun j => by simp [World.frozen?, hbr]
    cases gk with
    | zero =>
      have hfW' := hfW.trans hfr
      have hB2 : W1.heap.size ≤ wr.heap.size := Nat.le_trans hWc1 hfr.size
      have fB := (f12.trans hfr).box s1 x1
      obtain ⟨s5, x5, b0, b1, b2, b3, bf⟩ := fB
      obtain ⟨Z, hZ, hzb, hP, hF, hkp, hsz'⟩ := hPr.box4 hc h hfW' (Nat.le_refl _) s5 x5 (.int .i64 k3) (.int .i64 n3) (.string s3) (.slice a3 l3 cp3)
      obtain ⟨y0, y1, y2, y3⟩ := tbox_cells hzb
      have HP := Lib.hid (And.intro hP (And.intro hF (And.intro hkp hsz')))
      have e0 : ((0 : Nat) : Int) - 1 = -1 := rfl
      clear hP hF hkp hsz' hzb
      go_wp2
      rw [← hZ]
      obtain ⟨hP, hF, hkp, hsz'⟩ := HP.out
      refine bodyPost_ret (v := .agg #[.int .i64 k3, .int .i64 n3, .string s3, .slice a3 l3 cp3]) (by simp [results, Tryz.f123, go_sem, y0, y1, y2, y3]) rfl ?_
      refine ⟨na6, nc6, k3, n3, s3, a3, l3, cp3, rfl, hP, hF, hur.carry (fun j hj => hkp j (by have := hj.1.2; omega)) (fun j hj => ⟨⟨by rw [hsz']; exact hj.1.1.1, hj.1.1.2⟩, by have := hj.1.2; omega⟩)⟩
    | succ m =>
      obtain ⟨ea', ec', hev, -, -, -, hcell⟩ := HEL.out wr hfr
      obtain ⟨eb, eo, k4, n4, s4', a4, l4, cp4, heq, hpe, p0, p1, p2, p3, hTe⟩ := hcell m (by omega)
      injection hev with hv1 hv2 hv3
      subst hv1
      subst hv3
      subst heq
      have em : (((m + 1 : Nat) : Int) - 1) = (m : Int) := by omega
      have em1 : (0 : Int) ≤ (m : Int) := by omega
      have em2 : (m : Int) < (ts.length : Int) := by omega
      have em3 : wrap64 ((m : Int) - 1) = (m : Int) - 1 := by simp only [wrap64]; omega
      rw [em]
      obtain ⟨Y, hY⟩ : ∃ Y, Y = (wr.alloc (.cells #[.int .i64 k4, .int .i64 n4, .string s4', .slice a4 l4 cp4, .int .i64 k3, .int .i64 n3, .string s3, .slice a3 l3 cp3] 24)).drew := ⟨_, rfl⟩
      have hbY : Below wr.heap.size wr Y := by rw [hY]; exact (bel_al (Below.refl _ _) _).drew
      have gY : Y.heap[wr.heap.size]? = some (.cells #[.int .i64 k4, .int .i64 n4, .string s4', .slice a4 l4 cp4, .int .i64 k3, .int .i64 n3, .string s3, .slice a3 l3 cp3] 24 (0, 0)) := by rw [hY]; exact alloc_new wr _
      have hPY := hPr.later hc hbY
      have fY : Fr c wr na6 Y na6 := Fr.below hbY
      have hYl : wr.heap.size < Y.heap.size := (Array.getElem?_eq_some_iff.1 gY).1
      have hBl : Wc.heap.size < wr.heap.size := (Array.getElem?_eq_some_iff.1 hbr).1
      have kp : ∀ j, Nw c W1 wr na6 j → Nw c W1 Y na6 j := fun j hj => ⟨(fY.keep j hj.1).2, hj.2⟩
      have hts := two_ts (q := fun j => Nw c W1 Y na6 j ∧ j ≠ Wc.heap.size) gY ⟨⟨hPr.new hc hbY.size (Nat.le_refl _) hYl, by omega⟩, by omega⟩ (hTe.carry (fun j hj => (fY.keep j hj.1.1).1) (fun j hj => ⟨kp j hj.1, by have := hj.2; omega⟩)) (hur.carry (fun j hj => (fY.keep j hj.1.1).1) (fun j hj => ⟨kp j hj.1, hj.2⟩))
      have hcall := fun_plain c hc hPY [46] (by decide) (p := fun j => Nw c W1 Y na6 j ∧ j ≠ Wc.heap.size) (fun j hj => hj.1.1) [ts[m], consT (ts.drop (m + 1)) U] (some ⟨wr.heap.size, 0, none⟩) 2 hts (.inl (by decide))
      obtain ⟨sB, xB, -⟩ := fY.box (B := Wc.heap.size) (hPr.new2 hc hbr (by rw [hw1] at hWc1; have := h.bel.size; omega) ) hbr
      clear hts hTe
      go_wp2
      go_region_with (go_at_call 88; (try rw [← hY]); refine hcall.mono ?_; rintro e V ⟨k5, n5, s5, a5, l5, cp5, rfl, h5, f5, hT5⟩; obtain ⟨sV, xV, v0, v1, v2, v3, vf⟩ := f5.box sB xB)
      all_goals
        obtain ⟨Z, hZ, hzb, hP, hF, hkp, hsz'⟩ := h5.box4 hc hPc (hfr.trans (fY.trans f5)) (Nat.le_refl _) sV xV (.int .i64 k5) (.int .i64 n5) (.string s5) (.slice a5 l5 cp5)
        rw [← hZ]
        have HP := Lib.hid (And.intro hP (And.intro hF (And.intro hkp (And.intro hsz' hzb))))
        clear hP hF hkp hsz' hzb v0 v1 v2 v3 vf hZ
        go_wp2
        go_roundg m
        case measure => omega
        case rel =>
          obtain ⟨hP, hF, hkp, hsz', hzb⟩ := HP.out
          have hdrop : consT (ts.drop m) U = pairT ts[m] (consT (ts.drop (m + 1)) U) := by rw [List.drop_eq_getElem_cons (by omega)]; rfl
          refine ⟨rfl, by omega, hP, hF, k5, n5, s5, a5, l5, cp5, hzb, ?_⟩
          rw [hdrop]
          refine hT5.carry (fun j hj => hkp j ?_) (fun j hj => ?_)
          · rcases hj with hj | hj
            · exact hj.2
            · have := hj.2; omega
          · rcases hj with hj | hj
            · have := (f5.keep j hj.1.1).2
              exact ⟨⟨⟨by rw [hsz']; exact this.1, this.2⟩, hj.1.2⟩, hj.2⟩
            · have h91 := hj.2
              exact ⟨⟨⟨by rw [hsz']; exact hj.1.1, hj.1.2⟩, by omega⟩, by omega⟩
theorem list_at : Calls Tryz.prog 123 #[.pointer (some ⟨c.b, 0, none⟩)] W (OPost c W na d (listG c.L r i ns)) := by
  unfold listG
  cases hp : isP (ahd c.L i) [93] with
  | true => rw [if_pos rfl]; exact list_empty c hc h hp
  | false =>
    rw [if_neg (by decide)]
    cases ha : argsG c.L r i ns with
    | bad i' code => exact list_bad1 c hc h hr h7 hp ha
    | ok ts i1 ns1 =>
      have hsz : Tm.sizes ts ≤ 4096 := by
        obtain ⟨τ, g, -, -⟩ := args_seg h7 ha
        have := g.size; have := g.len; have := hc.len; omega
      dsimp only [Out.bind]
      unfold restG
      cases hs : isP (ahd c.L i1) [124] with
      | false =>
        rw [if_neg (by decide)]
        dsimp only [Out.bind]
        unfold needG
        cases he : isP (ahd c.L i1) [93] with
        | true => rw [if_pos rfl]; exact list_plain c hc h hr h7 hp ha hs he hsz
        | false => rw [if_neg (by decide)]; exact list_plain_bad c hc h hr h7 hp ha hs he hsz
      | true =>
        rw [if_pos rfl]
        cases hu : r 999 (i1 + 1) ns1 with
        | bad i' code => exact list_stroke_bad c hc h hr h7 hp ha hs hu hsz
        | ok U i6 ns6 =>
          dsimp only [Out.bind]
          unfold needG
          cases he : isP (ahd c.L i6) [93] with
          | true => rw [if_pos rfl]; exact list_stroke c hc h hr h7 hp ha hs hu he hsz
          | false => rw [if_neg (by decide)]; exact list_stroke_open c hc h hr h7 hp ha hs hu he hsz
end
end Go.Proofs.YtfencolokfghfaaGreatDoor
