/-
  The law CopytFull, walked.
-/
import Derived.Test.YtlnggaepmclbkaaZCopDn2
import Derived.BigQuiet
import Derived.Deep.DeepCutAuto
namespace Go.Proofs.Ytlnggaepmclbkaa
open Go.RowKit Go.Shelf
open Classical
set_option linter.unusedVariables false
set_option linter.unusedSimpArgs false

set_option maxRecDepth 100000 in
set_option maxHeartbeats 16000000 in
theorem copytFull_at (v1 : Value) (A : Tm) (by_ : Int) (w : World) (hA : Has w v1 A) (sA : A.size ≤ 1048576) (h0 : i64ok by_) : Calls Try.prog 7 #[v1, .int .i64 by_] w (Gets w (.bool true)) := by
  obtain ⟨k1, n1, s1, a1, l1, c1, ks1, rfl, e1, -⟩ := hA.form
  clear e1
  obtain ⟨w2, hw2⟩ : ∃ w2, w2 = w.alloc (.cells #[.int .i64 k1, .int .i64 n1, .string s1, .slice a1 l1 c1] 24) := ⟨_, rfl⟩
  have hb2 : Below w.heap.size w w2 := by rw [hw2]; exact (Below.refl _ w).alloc (by simp) _
  have x1 : w2.heap[w.heap.size]? = some (.cells #[.int .i64 k1, .int .i64 n1, .string s1, .slice a1 l1 c1] 24 (0, 0)) := by rw [hw2]; exact World.alloc_heap_new _ _
  have t1 : Has w2 (.agg #[.int .i64 k1, .int .i64 n1, .string s1, .slice a1 l1 c1]) A := Has.below hA hb2
  have H2 := Lib.hid (And.intro (hb2) (And.intro (x1) (t1)))
  have HW := Lib.hid hw2
  clear hb2 hw2 x1 t1 hA
  go_enter Try.func7, Try.ntmps7
  go_upto_region 1 with fail
  rw [← HW.out]
  go_wp2_with fail
  refine (shown13_at w2).mono ?_
  rintro e w2 ⟨rfl, hb2⟩
  have HH3 := Lib.hid (And.intro (H2.out.1.trans (hb2.mono H2.out.1.size)) (And.intro (tbox_below H2.out.2.1 hb2) (Has.below H2.out.2.2 hb2)))
  clear H2 hb2
  go_wp2_with fail
  refine (new_at10 w2 w2.heap.size (Nat.le_refl _)).mono ?_
  rintro e w4 ⟨rfl, hB4, hlt4, hS4⟩
  have HH5 := Lib.hid (And.intro (hB4) (And.intro (hS4) (Kp.mk (tbox_below HH3.out.2.1 hB4) (Mut.lo hS4 hB4.size (Array.getElem?_eq_some_iff.1 HH3.out.2.1).1) (IsTm.later hB4 (Nat.le_refl _) HH3.out.2.2 |>.carry (fun _ _ => rfl) fun c hc => Mut.lo hS4 hB4.size hc))))
  clear hB4 hS4 hlt4
  obtain ⟨y10, y11, y12, y13⟩ := tbox_cells HH5.out.2.2.box
  by_cases hfew : A.size ≤ 300
  case neg =>
    go_wp2_with fail
    refine (few13_at _ A w4 HH5.out.2.2.has (by omega)).mono ?_
    rw [decide_eq_false hfew]
    rintro e w6 ⟨rfl, hb6⟩
    have HH7 := Lib.hid (And.intro (HH5.out.1.trans (hb6.mono HH5.out.1.size)) (And.intro (HH5.out.2.1.step hb6) (HH5.out.2.2.mut (Mut.of_below hb6))))
    clear HH5 hb6
    clear y10 y11 y12 y13
    clear hfew sA
    go_wp2_with fail
    go_ret
    exact ⟨rfl, HH3.out.1.trans (HH7.out.1.mono HH3.out.1.size)⟩
  go_wp2_with fail
  refine (few13_at _ A w4 HH5.out.2.2.has (by omega)).mono ?_
  rw [decide_eq_true hfew]
  rintro e w6 ⟨rfl, hb6⟩
  have HH7 := Lib.hid (And.intro (HH5.out.1.trans (hb6.mono HH5.out.1.size)) (And.intro (HH5.out.2.1.step hb6) (HH5.out.2.2.mut (Mut.of_below hb6))))
  clear HH5 hb6
  clear y10 y11 y12 y13
  obtain ⟨y10, y11, y12, y13⟩ := tbox_cells HH7.out.2.2.box
  have HZ := Lib.hid (And.intro hfew h0)
  clear hfew sA h0
  by_cases hck : A.check 16 = 0
  case neg =>
    obtain ⟨ck, hckk⟩ : ∃ ck, A.check 16 = ck := ⟨_, rfl⟩
    rw [hckk] at hck
    have hck1 : (ck != 0) = true := by simpa using hck
    have hck2 : ¬ (ck = 0) := hck
    go_wp2_with fail
    refine (check_at _ A 16 w6 HH7.out.2.2.has (by have := HZ.out.1; omega)).mono ?_
    rw [hckk]
    rintro e w8 ⟨rfl, hb8⟩
    have HH9 := Lib.hid (And.intro (HH7.out.1.trans (hb8.mono HH7.out.1.size)) (And.intro (HH7.out.2.1.step hb8) (HH7.out.2.2.mut (Mut.of_below hb8))))
    clear HH7 hb8
    clear y10 y11 y12 y13
    clear hck hckk
    go_wp2_with fail
    go_ret
    exact ⟨rfl, HH3.out.1.trans (HH9.out.1.mono HH3.out.1.size)⟩
  go_wp2_with fail
  refine (check_at _ A 16 w6 HH7.out.2.2.has (by have := HZ.out.1; omega)).mono ?_
  rw [hck]
  rintro e w8 ⟨rfl, hb8⟩
  have HH9 := Lib.hid (And.intro (HH7.out.1.trans (hb8.mono HH7.out.1.size)) (And.intro (HH7.out.2.1.step hb8) (HH7.out.2.2.mut (Mut.of_below hb8))))
  clear HH7 hb8
  clear y10 y11 y12 y13
  by_cases hlow : A.low
  case neg =>
    clear hck
    obtain ⟨y10, y11, y12, y13⟩ := tbox_cells HH9.out.2.2.box
    go_wp2_with fail
    refine (low13_at _ A w8 HH9.out.2.2.has (by have := HZ.out.1; omega)).mono ?_
    rw [decide_eq_false hlow]
    rintro e w10 ⟨rfl, hb10⟩
    have HH11 := Lib.hid (And.intro (HH9.out.1.trans (hb10.mono HH9.out.1.size)) (And.intro (HH9.out.2.1.step hb10) (HH9.out.2.2.mut (Mut.of_below hb10))))
    clear HH9 hb10
    clear y10 y11 y12 y13
    clear hlow
    go_wp2_with fail
    go_ret
    exact ⟨rfl, HH3.out.1.trans (HH11.out.1.mono HH3.out.1.size)⟩
  obtain ⟨y10, y11, y12, y13⟩ := tbox_cells HH9.out.2.2.box
  have HCL := Lib.hid (And.intro hck hlow)
  clear hck hlow
  go_wp2_with fail
  refine (low13_at _ A w8 HH9.out.2.2.has (by have := HZ.out.1; omega)).mono ?_
  rw [decide_eq_true HCL.out.2]
  rintro e w10 ⟨rfl, hb10⟩
  have HH11 := Lib.hid (And.intro (HH9.out.1.trans (hb10.mono HH9.out.1.size)) (And.intro (HH9.out.2.1.step hb10) (HH9.out.2.2.mut (Mut.of_below hb10))))
  clear HH9 hb10
  clear y10 y11 y12 y13
  go_wp2_with fail
  refine (fresh_at10 HH11.out.2.1 HH11.out.1.size 12 (by show 0 + 12 ≤ 4096; omega)).mono ?_
  rintro e wf ⟨rfl, Vf, hSf, hMf⟩
  have HH12 := Lib.hid (And.intro (HH11.out.1.trans (Mut.below HH11.out.2.1 hMf HH11.out.1.size)) (And.intro (hSf) (HH11.out.2.2.mut hMf)))
  clear HH11 hSf hMf
  go_wp2_with fail
  go_loopw [7] (fun i wr => ∃ (c : Nat) (σ : St) (V Lv : Value), i = .int .i64 (c : Int) ∧ c ≤ 12 ∧ Hid (Below w2.heap.size w2 wr ∧ StAt (Oth wr w2.heap.size V Lv) w2.heap.size wr w2.heap.size V Lv σ ∧ Kp wr w2.heap.size V Lv w.heap.size k1 n1 s1 a1 l1 c1 A ∧ Bnd σ (numN by_) c)) (fun i _ => 12 - (intOf i).toNat)
  case atStart => exact ⟨0, _, _, _, rfl, Nat.zero_le _, Lib.hid (And.intro HH12.out.1 (And.intro HH12.out.2.1 (And.intro HH12.out.2.2 (Bnd.start _))))⟩
  case round =>
    obtain ⟨c, σ, V, Lv, rfl, hcl, HR⟩ := hrel
    clear HH12
    by_cases hlt : c < 12
    case pos =>
      have hlti : (c : Int) < 12 := by omega
      go_wp2_with fail
      refine (num_at by_ wr HZ.out.2).mono ?_
      intro e wn hn
      obtain ⟨km, nm, sm, am, lm, cm, rfl, hTm, hBm⟩ := hn.has13
      have HN := Lib.hid (show Has wn _ (numN by_) from has_new13 hTm)
      clear hn hTm
      have HH13 := Lib.hid (And.intro (HR.out.1.trans (hBm.mono HR.out.1.size)) (And.intro (HR.out.2.1.step hBm) (And.intro (HR.out.2.2.1.mut (Mut.of_below hBm)) (HR.out.2.2.2))))
      clear HR hBm
      go_wp2_with fail
      refine (bind_at10 HH13.out.2.1 HH13.out.1.size c _ (numN by_) HN.out (by rw [numN_size]; omega) (HH13.out.2.2.2.high c (Nat.le_refl _) hlt) (numN_met _ _ _)).mono ?_
      rintro e wq ⟨rfl, Lq, hSq, hMq⟩
      have HH14 := Lib.hid (And.intro (HH13.out.1.trans (Mut.below HH13.out.2.1 hMq HH13.out.1.size)) (And.intro (hSq) (And.intro (HH13.out.2.2.1.mut hMq) (HH13.out.2.2.2))))
      clear HH13 hSq hMq HN
      go_wp2_with fail
      go_roundw
      case rel => exact ⟨c + 1, _, V, Lq, by simp, by omega, Lib.hid (And.intro HH14.out.1 (And.intro HH14.out.2.1 (And.intro HH14.out.2.2.1 (HH14.out.2.2.2.next hlt))))⟩
      case measure => simp [intOf]; omega
    have hnlt : ¬ ((c : Int) < 12) := by omega
    obtain rfl : c = 12 := by omega
    clear hlt hcl
    obtain ⟨U, lf, hf, hU, hv⟩ := full_num HR.out.2.2.2 HCL.out.1 HCL.out.2
    have hcall := ccopy_at HR.out.2.1 HR.out.1.size _ A HR.out.2.2.1.has U lf hf hU (by rw [hv, HR.out.2.2.2.len]; show 12 + 0 ≤ 4096; omega)
    rw [show U.vars.length = 0 by rw [hv]; rfl, fresh_zero, no_vars_norm hv, no_vars_shift hv] at hcall
    have HU := Lib.hid (And.intro hf (And.intro hU hv))
    clear hf hU hv
    go_upto_region 10 with fail
    obtain ⟨y10, y11, y12, y13⟩ := tbox_cells HR.out.2.2.1.box
    go_wp2_with fail
    refine (hcall).mono ?_
    rintro e wm13 ⟨kd, nd, sd, ad, ld, cd, rfl, V13, hS13, hM13, hT13⟩
    replace hS13 := hS13.weak (fun c hc => (hM13.keep c hc).2) (fun c hc => hc)
    have hT13a := hT13.carry (q := Oth wm13 w2.heap.size V13 Lv) (fun _ _ => rfl) (fun c hc => hc.2)
    clear y10 y11 y12 y13
    have HH14 := Lib.hid (And.intro (HR.out.1.trans (Mut.below HR.out.2.1 hM13 HR.out.1.size)) (And.intro (hS13) (And.intro (HR.out.2.2.1.mut hM13) (And.intro (HR.out.2.2.2) (hT13a)))))
    clear HR hS13 hM13 hT13 hT13a
    obtain ⟨wb13, hwb13⟩ : ∃ wb, wb = wm13.alloc (.cells #[.int .i64 kd, .int .i64 nd, .string sd, .slice ad ld cd] 24) := ⟨_, rfl⟩
    have hC13 : Below wm13.heap.size wm13 wb13 := by rw [hwb13]; exact (Below.refl _ _).alloc (Nat.le_refl _) _
    have hX13 : wb13.heap[wm13.heap.size]? = some (.cells #[.int .i64 kd, .int .i64 nd, .string sd, .slice ad ld cd] 24 (0, 0)) := by rw [hwb13]; exact World.alloc_heap_new _ _
    have hK13 : Kp wb13 w2.heap.size V13 Lv wm13.heap.size kd nd sd ad ld cd U := ⟨hX13, HH14.out.2.1.fresh ⟨Nat.le_refl _, (Array.getElem?_eq_some_iff.1 hX13).1⟩, oth_below hC13 HH14.out.2.2.2.2⟩
    have HWB13 := Lib.hid hwb13
    have HH15 := Lib.hid (And.intro (HH14.out.1.trans (hC13.mono HH14.out.1.size)) (And.intro (HH14.out.2.1.step hC13) (And.intro (HH14.out.2.2.1.mut (Mut.of_below hC13)) (And.intro (HH14.out.2.2.2.1) (hK13)))))
    clear HH14 hC13 hwb13 hX13 hK13
    go_upto_region 11 with fail
    rw [← HWB13.out]
    generalize hbk13 : wm13.heap.size = bk13 at *
    clear HWB13 hbk13
    clear hcall
    obtain ⟨y10, y11, y12, y13⟩ := tbox_cells HH15.out.2.2.1.box
    go_wp2_with fail
    refine (full_ok13 HH15.out.2.1 _ A HH15.out.2.2.1.has HU.out.1).mono ?_
    rintro e wg ⟨kf, nf, sf, af, lf, cf, rfl, hTg, hBg⟩
    clear y10 y11 y12 y13
    have HH17 := Lib.hid (And.intro (HH15.out.1.trans (hBg.mono HH15.out.1.size)) (And.intro (HH15.out.2.1.step hBg) (And.intro (HH15.out.2.2.1.mut (Mut.of_below hBg)) (And.intro (HH15.out.2.2.2.1) (HH15.out.2.2.2.2.mut (Mut.of_below hBg))))))
    clear HH15 hBg
    obtain ⟨wb16, hwb16⟩ : ∃ wb, wb = wg.alloc (.cells #[.int .i64 kf, .int .i64 nf, .string sf, .slice af lf cf] 24) := ⟨_, rfl⟩
    have hC16 : Below wg.heap.size wg wb16 := by rw [hwb16]; exact (Below.refl _ _).alloc (Nat.le_refl _) _
    have hX16 : wb16.heap[wg.heap.size]? = some (.cells #[.int .i64 kf, .int .i64 nf, .string sf, .slice af lf cf] 24 (0, 0)) := by rw [hwb16]; exact World.alloc_heap_new _ _
    have hK16 : Kp wb16 w2.heap.size V13 Lv wg.heap.size kf nf sf af lf cf U := ⟨hX16, HH17.out.2.1.fresh ⟨Nat.le_refl _, (Array.getElem?_eq_some_iff.1 hX16).1⟩, oth_below hC16 hTg⟩
    have HWB16 := Lib.hid hwb16
    have HH18 := Lib.hid (And.intro (HH17.out.1.trans (hC16.mono HH17.out.1.size)) (And.intro (HH17.out.2.1.step hC16) (And.intro (HH17.out.2.2.1.mut (Mut.of_below hC16)) (And.intro (HH17.out.2.2.2.1) (And.intro (HH17.out.2.2.2.2.mut (Mut.of_below hC16)) (hK16))))))
    clear HH17 hC16 hwb16 hX16 hK16
    clear hTg
    go_upto_region 12 with fail
    rw [← HWB16.out]
    generalize hbk16 : wg.heap.size = bk16 at *
    clear HWB16 hbk16
    go_wp2_with fail
    refine (fresh_at10 HH18.out.2.1 HH18.out.1.size 0 (by rw [HH18.out.2.2.2.1.len]; omega)).mono ?_
    rintro e wz ⟨rfl, Vz, hSz, hMz⟩
    have HH19 := Lib.hid (And.intro (HH18.out.1.trans (Mut.below HH18.out.2.1 hMz HH18.out.1.size)) (And.intro (hSz) (And.intro (HH18.out.2.2.1.mut hMz) (And.intro (HH18.out.2.2.2.1) (And.intro (HH18.out.2.2.2.2.1.mut hMz) (HH18.out.2.2.2.2.2.mut hMz))))))
    clear HH18 hSz hMz
    have hlen : ((σ.vs.length : Nat) : Int) = 12 := by rw [HH19.out.2.2.2.1.len]; rfl
    rw [hlen]
    clear hlen
    have hvl : U.vars.length = 0 := by rw [HU.out.2.2]; rfl
    go_upto_region 13 with fail
    obtain ⟨yd0, yd1, yd2, yd3⟩ := tbox_cells HH19.out.2.2.2.2.1.box
    obtain ⟨yf0, yf1, yf2, yf3⟩ := tbox_cells HH19.out.2.2.2.2.2.box
    go_wp2_with fail
    refine (same_at U U _ _ wz HH19.out.2.2.2.2.1.has HH19.out.2.2.2.2.2.has (by have := HU.out.2.1; omega) (by have := HU.out.2.1; omega)).mono ?_
    rintro e ws ⟨he, hbs⟩
    obtain rfl : e = .returned (.bool true) := he.trans (by rw [decide_eq_true rfl])
    clear he
    have HH20 := Lib.hid (And.intro (HH19.out.1.trans (hbs.mono HH19.out.1.size)) (And.intro (HH19.out.2.1.step hbs) (And.intro (HH19.out.2.2.1.mut (Mut.of_below hbs)) (And.intro (HH19.out.2.2.2.1) (And.intro (HH19.out.2.2.2.2.1.mut (Mut.of_below hbs)) (HH19.out.2.2.2.2.2.mut (Mut.of_below hbs)))))))
    clear HH19 hbs
    clear yd0 yd1 yd2 yd3
    clear yf0 yf1 yf2 yf3
    obtain ⟨yd0, yd1, yd2, yd3⟩ := tbox_cells HH20.out.2.2.2.2.1.box
    go_wp2_with fail
    refine (vars_at _ U ws HH20.out.2.2.2.2.1.has (by have := HU.out.2.1; omega)).mono ?_
    rintro e wv ⟨rv, rfl, hI, hbv⟩
    obtain ⟨av, cv, rfl, -⟩ := hI
    rw [hvl]
    have HH21 := Lib.hid (And.intro (HH20.out.1.trans (hbv.mono HH20.out.1.size)) (And.intro (HH20.out.2.1.step hbv) (And.intro (HH20.out.2.2.1.mut (Mut.of_below hbv)) (And.intro (HH20.out.2.2.2.1) (And.intro (HH20.out.2.2.2.2.1.mut (Mut.of_below hbv)) (HH20.out.2.2.2.2.2.mut (Mut.of_below hbv)))))))
    clear HH20 hbv hvl
    clear yd0 yd1 yd2 yd3
    go_wp2_with fail
    go_ret
    exact ⟨rfl, HH3.out.1.trans (HH21.out.1.mono HH3.out.1.size)⟩
end Go.Proofs.Ytlnggaepmclbkaa
