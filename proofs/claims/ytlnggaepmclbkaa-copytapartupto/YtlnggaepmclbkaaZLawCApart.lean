/-
  The law CopytApart, walked.
-/
import Derived.Test.YtlnggaepmclbkaaZCopVn2
import Derived.BigQuiet
import Derived.Deep.DeepCutAuto
namespace Go.Proofs.Ytlnggaepmclbkaa
open Go.RowKit Go.Shelf
open Classical
set_option linter.unusedVariables false
set_option linter.unusedSimpArgs false

set_option maxRecDepth 100000 in
set_option maxHeartbeats 16000000 in
theorem copytApart_at (a0 : Option Addr) (len0 cap0 : Nat) (v1 : Value) (A : Tm) (v2 : Value) (B : Tm)  (w : World) (hl0 : len0 ≤ 9223372036854775807) (hD0 : BoundsAt w.heap.size w a0 len0) (hA : Has w v1 A) (hB : Has w v2 B) (sA : A.size ≤ 1048576) (sB : B.size ≤ 1048576)  : Calls Try.prog 4 #[.slice a0 len0 cap0, v1, v2] w (Gets w (.bool true)) := by
  have HD := Lib.hid hD0
  clear hD0
  obtain ⟨k1, n1, s1, a1, l1, c1, ks1, rfl, e1, -⟩ := hA.form
  obtain ⟨k2, n2, s2, a2, l2, c2, ks2, rfl, e2, -⟩ := hB.form
  clear e1 e2
  obtain ⟨w2, hw2⟩ : ∃ w2, w2 = (w.alloc (.cells #[.int .i64 k1, .int .i64 n1, .string s1, .slice a1 l1 c1] 24)).alloc (.cells #[.int .i64 k2, .int .i64 n2, .string s2, .slice a2 l2 c2] 24) := ⟨_, rfl⟩
  have hb2 : Below w.heap.size w w2 := by rw [hw2]; exact ((Below.refl _ w).alloc (by simp) _).alloc (by simp) _
  have x1 : w2.heap[w.heap.size]? = some (.cells #[.int .i64 k1, .int .i64 n1, .string s1, .slice a1 l1 c1] 24 (0, 0)) := by rw [hw2]; exact (Below.heap_alloc _ _ _ (by simp)).trans (World.alloc_heap_new _ _)
  have x2 : w2.heap[w.heap.size + 1]? = some (.cells #[.int .i64 k2, .int .i64 n2, .string s2, .slice a2 l2 c2] 24 (0, 0)) := by rw [hw2]; exact (by simpa using World.alloc_heap_new (w.alloc (.cells #[.int .i64 k1, .int .i64 n1, .string s1, .slice a1 l1 c1] 24)) (.cells #[.int .i64 k2, .int .i64 n2, .string s2, .slice a2 l2 c2] 24))
  have t1 : Has w2 (.agg #[.int .i64 k1, .int .i64 n1, .string s1, .slice a1 l1 c1]) A := Has.below hA hb2
  have t2 : Has w2 (.agg #[.int .i64 k2, .int .i64 n2, .string s2, .slice a2 l2 c2]) B := Has.below hB hb2
  have H2 := Lib.hid (And.intro (hb2) (And.intro (x1) (And.intro (t1) (And.intro (x2) (t2)))))
  have HW := Lib.hid hw2
  clear hb2 hw2 x1 t1 hA x2 t2 hB
  go_enter Try.func4, Try.ntmps4
  go_upto_region 1 with fail
  rw [← HW.out]
  go_wp2_with fail
  refine (shown13_at w2).mono ?_
  rintro e w2 ⟨rfl, hb2⟩
  have HH3 := Lib.hid (And.intro (H2.out.1.trans (hb2.mono H2.out.1.size)) (And.intro (tbox_below H2.out.2.1 hb2) (And.intro (Has.below H2.out.2.2.1 hb2) (And.intro (tbox_below H2.out.2.2.2.1 hb2) (Has.below H2.out.2.2.2.2 hb2)))))
  clear H2 hb2
  go_wp2_with fail
  refine (new_at10 w2 w2.heap.size (Nat.le_refl _)).mono ?_
  rintro e w4 ⟨rfl, hB4, hlt4, hS4⟩
  have HH5 := Lib.hid (And.intro (hB4) (And.intro (hS4) (And.intro (Kp.mk (tbox_below HH3.out.2.1 hB4) (Mut.lo hS4 hB4.size (Array.getElem?_eq_some_iff.1 HH3.out.2.1).1) (IsTm.later hB4 (Nat.le_refl _) HH3.out.2.2.1 |>.carry (fun _ _ => rfl) fun c hc => Mut.lo hS4 hB4.size hc)) (Kp.mk (tbox_below HH3.out.2.2.2.1 hB4) (Mut.lo hS4 hB4.size (Array.getElem?_eq_some_iff.1 HH3.out.2.2.2.1).1) (IsTm.later hB4 (Nat.le_refl _) HH3.out.2.2.2.2 |>.carry (fun _ _ => rfl) fun c hc => Mut.lo hS4 hB4.size hc)))))
  clear hB4 hS4 hlt4
  obtain ⟨y10, y11, y12, y13⟩ := tbox_cells HH5.out.2.2.1.box
  by_cases hfew : A.size ≤ 300
  case neg =>
    go_wp2_with fail
    refine (few13_at _ A w4 HH5.out.2.2.1.has (by omega)).mono ?_
    rw [decide_eq_false hfew]
    rintro e w6 ⟨rfl, hb6⟩
    have HH7 := Lib.hid (And.intro (HH5.out.1.trans (hb6.mono HH5.out.1.size)) (And.intro (HH5.out.2.1.step hb6) (And.intro (HH5.out.2.2.1.mut (Mut.of_below hb6)) (HH5.out.2.2.2.mut (Mut.of_below hb6)))))
    clear HH5 hb6
    clear y10 y11 y12 y13
    clear hfew sA
    go_wp2_with fail
    go_ret
    exact ⟨rfl, HH3.out.1.trans (HH7.out.1.mono HH3.out.1.size)⟩
  go_wp2_with fail
  refine (few13_at _ A w4 HH5.out.2.2.1.has (by omega)).mono ?_
  rw [decide_eq_true hfew]
  rintro e w6 ⟨rfl, hb6⟩
  have HH7 := Lib.hid (And.intro (HH5.out.1.trans (hb6.mono HH5.out.1.size)) (And.intro (HH5.out.2.1.step hb6) (And.intro (HH5.out.2.2.1.mut (Mut.of_below hb6)) (HH5.out.2.2.2.mut (Mut.of_below hb6)))))
  clear HH5 hb6
  clear y10 y11 y12 y13
  have HZ1 := Lib.hid hfew
  clear hfew sA
  obtain ⟨y20, y21, y22, y23⟩ := tbox_cells HH7.out.2.2.2.box
  by_cases hfew : B.size ≤ 300
  case neg =>
    go_wp2_with fail
    refine (few13_at _ B w6 HH7.out.2.2.2.has (by omega)).mono ?_
    rw [decide_eq_false hfew]
    rintro e w8 ⟨rfl, hb8⟩
    have HH9 := Lib.hid (And.intro (HH7.out.1.trans (hb8.mono HH7.out.1.size)) (And.intro (HH7.out.2.1.step hb8) (And.intro (HH7.out.2.2.1.mut (Mut.of_below hb8)) (HH7.out.2.2.2.mut (Mut.of_below hb8)))))
    clear HH7 hb8
    clear y20 y21 y22 y23
    clear hfew sB
    go_wp2_with fail
    go_ret
    exact ⟨rfl, HH3.out.1.trans (HH9.out.1.mono HH3.out.1.size)⟩
  go_wp2_with fail
  refine (few13_at _ B w6 HH7.out.2.2.2.has (by omega)).mono ?_
  rw [decide_eq_true hfew]
  rintro e w8 ⟨rfl, hb8⟩
  have HH9 := Lib.hid (And.intro (HH7.out.1.trans (hb8.mono HH7.out.1.size)) (And.intro (HH7.out.2.1.step hb8) (And.intro (HH7.out.2.2.1.mut (Mut.of_below hb8)) (HH7.out.2.2.2.mut (Mut.of_below hb8)))))
  clear HH7 hb8
  clear y20 y21 y22 y23
  have HZ2 := Lib.hid hfew
  clear hfew sB
  obtain ⟨y10, y11, y12, y13⟩ := tbox_cells HH9.out.2.2.1.box
  by_cases hck : A.check 16 = 0
  case neg =>
    obtain ⟨ck, hckk⟩ : ∃ ck, A.check 16 = ck := ⟨_, rfl⟩
    rw [hckk] at hck
    have hck1 : (ck != 0) = true := by simpa using hck
    have hck2 : ¬ (ck = 0) := hck
    go_wp2_with fail
    refine (check_at _ A 16 w8 HH9.out.2.2.1.has (by have := HZ1.out; omega)).mono ?_
    rw [hckk]
    rintro e w10 ⟨rfl, hb10⟩
    have HH11 := Lib.hid (And.intro (HH9.out.1.trans (hb10.mono HH9.out.1.size)) (And.intro (HH9.out.2.1.step hb10) (And.intro (HH9.out.2.2.1.mut (Mut.of_below hb10)) (HH9.out.2.2.2.mut (Mut.of_below hb10)))))
    clear HH9 hb10
    clear y10 y11 y12 y13
    clear hck hckk
    go_wp2_with fail
    go_ret
    exact ⟨rfl, HH3.out.1.trans (HH11.out.1.mono HH3.out.1.size)⟩
  go_wp2_with fail
  refine (check_at _ A 16 w8 HH9.out.2.2.1.has (by have := HZ1.out; omega)).mono ?_
  rw [hck]
  rintro e w10 ⟨rfl, hb10⟩
  have HH11 := Lib.hid (And.intro (HH9.out.1.trans (hb10.mono HH9.out.1.size)) (And.intro (HH9.out.2.1.step hb10) (And.intro (HH9.out.2.2.1.mut (Mut.of_below hb10)) (HH9.out.2.2.2.mut (Mut.of_below hb10)))))
  clear HH9 hb10
  clear y10 y11 y12 y13
  by_cases hlow : A.low
  case neg =>
    clear hck
    obtain ⟨y10, y11, y12, y13⟩ := tbox_cells HH11.out.2.2.1.box
    go_wp2_with fail
    refine (low13_at _ A w10 HH11.out.2.2.1.has (by have := HZ1.out; omega)).mono ?_
    rw [decide_eq_false hlow]
    rintro e w12 ⟨rfl, hb12⟩
    have HH13 := Lib.hid (And.intro (HH11.out.1.trans (hb12.mono HH11.out.1.size)) (And.intro (HH11.out.2.1.step hb12) (And.intro (HH11.out.2.2.1.mut (Mut.of_below hb12)) (HH11.out.2.2.2.mut (Mut.of_below hb12)))))
    clear HH11 hb12
    clear y10 y11 y12 y13
    clear hlow
    go_wp2_with fail
    go_ret
    exact ⟨rfl, HH3.out.1.trans (HH13.out.1.mono HH3.out.1.size)⟩
  obtain ⟨y10, y11, y12, y13⟩ := tbox_cells HH11.out.2.2.1.box
  have HCL := Lib.hid (And.intro hck hlow)
  clear hck hlow
  go_wp2_with fail
  refine (low13_at _ A w10 HH11.out.2.2.1.has (by have := HZ1.out; omega)).mono ?_
  rw [decide_eq_true HCL.out.2]
  rintro e w12 ⟨rfl, hb12⟩
  have HH13 := Lib.hid (And.intro (HH11.out.1.trans (hb12.mono HH11.out.1.size)) (And.intro (HH11.out.2.1.step hb12) (And.intro (HH11.out.2.2.1.mut (Mut.of_below hb12)) (HH11.out.2.2.2.mut (Mut.of_below hb12)))))
  clear HH11 hb12
  clear y10 y11 y12 y13
  go_wp2_with fail
  refine (fresh_at10 HH13.out.2.1 HH13.out.1.size 12 (by show 0 + 12 ≤ 4096; omega)).mono ?_
  rintro e wf ⟨rfl, Vf, hSf, hMf⟩
  have HH14 := Lib.hid (And.intro (HH13.out.1.trans (Mut.below HH13.out.2.1 hMf HH13.out.1.size)) (And.intro (hSf) (And.intro (HH13.out.2.2.1.mut hMf) (HH13.out.2.2.2.mut hMf))))
  clear HH13 hSf hMf
  have HBW := Lib.hid HH3.out.1
  go_wp2_with fail
  go_loopw [9] (fun i wr => ∃ (c : Nat) (σ : St) (Lv : Value), i = .int .i64 (c : Int) ∧ c ≤ len0 ∧ Hid (Below w2.heap.size w2 wr ∧ StAt (Oth wr w2.heap.size Vf Lv) w2.heap.size wr w2.heap.size Vf Lv σ ∧ Kp wr w2.heap.size Vf Lv w.heap.size k1 n1 s1 a1 l1 c1 A ∧ σ.vs.length = 12 ∧ Ld σ)) (fun i _ => len0 - (intOf i).toNat)
  case atStart => exact ⟨0, _, _, rfl, Nat.zero_le _, Lib.hid (And.intro HH14.out.1 (And.intro HH14.out.2.1 (And.intro HH14.out.2.2.1 (And.intro rfl (ld_zero _)))))⟩
  case round =>
    obtain ⟨c, σ, Lv, rfl, hcl, HR⟩ := hrel
    clear HH14
    go_upto_region 7 with fail
    go_cut [56] from 49 to 93 (fun v wc => ∃ bb : Bool, v = .bool bb ∧ wc = wr ∧ Hid (bb = true → c < len0 ∧ c < 20))
    case first =>
      by_cases h1 : c < len0
      · have h1i : (c : Int) < (len0 : Int) := by omega
        by_cases h2 : c < 20
        · have h2i : (c : Int) < 20 := by omega
          have HC := Lib.hid (And.intro h1 h2)
          clear h1 h2
          go_wp2_with fail
          go_meet
          case rel => exact ⟨true, rfl, rfl, fun _ => HC.out⟩
        · have h2i : ¬ ((c : Int) < 20) := by omega
          clear h1 h2
          go_wp2_with fail
          go_meet
          case rel => exact ⟨false, rfl, rfl, fun h => by cases h⟩
      · have h1i : ¬ ((c : Int) < (len0 : Int)) := by omega
        clear h1
        go_wp2_with fail
        go_meet
        case rel => exact ⟨false, rfl, rfl, fun h => by cases h⟩
    case rest =>
    obtain ⟨bb, rfl, hwc, HC⟩ := hcut
    replace hwc := hwc.symm
    subst hwc
    cases bb with
    | true =>
      obtain ⟨hlt, h20⟩ := HC.out rfl
      clear HC
      have hlti : (c : Int) < (len0 : Int) := by omega
      obtain ⟨db, do_, dN, dk, dn, ds, da, dl, dc, D, rfl, hdb, hdN, q1, q2, q3, q4, q5, hDT, hDs⟩ := HD.out c hlt
      have hbw : Below w.heap.size w wr := HBW.out.trans (HR.out.1.mono HBW.out.size)
      have hdbw : db < w2.heap.size := Nat.lt_of_lt_of_le hdb HBW.out.size
      replace q1 := (hbw.cell (p := ⟨db, _, none⟩) hdb).trans q1
      replace q2 := (hbw.cell (p := ⟨db, _, none⟩) hdb).trans q2
      replace q3 := (hbw.cell (p := ⟨db, _, none⟩) hdb).trans q3
      replace q4 := (hbw.cell (p := ⟨db, _, none⟩) hdb).trans q4
      replace q5 := (hbw.cell (p := ⟨db, _, none⟩) hdb).trans q5
      have HDT := Lib.hid (show Has wr (.agg #[.int .i64 dk, .int .i64 dn, .string ds, .slice da dl dc]) D from IsTm.later hbw hbw.size hDT)
      have HDB := Lib.hid hdbw
      clear hDT hbw hdb hdN hdbw
      go_wp2_with fail
      by_cases hfw : D.size ≤ 300
      case neg =>
        refine (few13_at _ D wr HDT.out (by omega)).mono ?_
        rw [decide_eq_false hfw]
        rintro e w5n ⟨rfl, hb_w5n⟩
        replace q1 := cell_later hb_w5n q1
        replace q2 := cell_later hb_w5n q2
        replace q3 := cell_later hb_w5n q3
        replace q4 := cell_later hb_w5n q4
        replace q5 := cell_later hb_w5n q5
        replace HDT := Lib.hid (Has.below HDT.out hb_w5n)
        have HH15 := Lib.hid (And.intro (HR.out.1.trans (hb_w5n.mono HR.out.1.size)) (And.intro (HR.out.2.1.step hb_w5n) (And.intro (HR.out.2.2.1.mut (Mut.of_below hb_w5n)) (And.intro (HR.out.2.2.2.1) (HR.out.2.2.2.2)))))
        clear HR hb_w5n
        clear hfw
        clear q1 q2 q3 q4 q5 HDT HDB
        go_wp2_with fail
        go_roundw
        case rel => exact ⟨c + 1, σ, Lv, by simp, by omega, Lib.hid (And.intro HH15.out.1 (And.intro HH15.out.2.1 (And.intro HH15.out.2.2.1 (And.intro HH15.out.2.2.2.1 HH15.out.2.2.2.2))))⟩
        case measure => simp [intOf]; omega
      refine (few13_at _ D wr HDT.out (by omega)).mono ?_
      rw [decide_eq_true hfw]
      rintro e w5 ⟨rfl, hb_w5⟩
      replace q1 := cell_later hb_w5 q1
      replace q2 := cell_later hb_w5 q2
      replace q3 := cell_later hb_w5 q3
      replace q4 := cell_later hb_w5 q4
      replace q5 := cell_later hb_w5 q5
      replace HDT := Lib.hid (Has.below HDT.out hb_w5)
      have HH15 := Lib.hid (And.intro (HR.out.1.trans (hb_w5.mono HR.out.1.size)) (And.intro (HR.out.2.1.step hb_w5) (And.intro (HR.out.2.2.1.mut (Mut.of_below hb_w5)) (And.intro (HR.out.2.2.2.1) (HR.out.2.2.2.2)))))
      clear HR hb_w5
      go_wp2_with fail
      by_cases hck : D.check 16 = 0
      case neg =>
        obtain ⟨ck, hckk⟩ : ∃ ck, D.check 16 = ck := ⟨_, rfl⟩
        rw [hckk] at hck
        have hck' : (ck == 0) = false := by simpa using hck
        have hck2 : ¬ (ck = 0) := hck
        refine (check_at _ D 16 w5 HDT.out (by omega)).mono ?_
        rw [hckk]
        rintro e w6n ⟨rfl, hb_w6n⟩
        replace q1 := cell_later hb_w6n q1
        replace q2 := cell_later hb_w6n q2
        replace q3 := cell_later hb_w6n q3
        replace q4 := cell_later hb_w6n q4
        replace q5 := cell_later hb_w6n q5
        replace HDT := Lib.hid (Has.below HDT.out hb_w6n)
        have HH16 := Lib.hid (And.intro (HH15.out.1.trans (hb_w6n.mono HH15.out.1.size)) (And.intro (HH15.out.2.1.step hb_w6n) (And.intro (HH15.out.2.2.1.mut (Mut.of_below hb_w6n)) (And.intro (HH15.out.2.2.2.1) (HH15.out.2.2.2.2)))))
        clear HH15 hb_w6n
        clear hck hckk hfw
        clear q1 q2 q3 q4 q5 HDT HDB
        go_wp2_with fail
        go_roundw
        case rel => exact ⟨c + 1, σ, Lv, by simp, by omega, Lib.hid (And.intro HH16.out.1 (And.intro HH16.out.2.1 (And.intro HH16.out.2.2.1 (And.intro HH16.out.2.2.2.1 HH16.out.2.2.2.2))))⟩
        case measure => simp [intOf]; omega
      refine (check_at _ D 16 w5 HDT.out (by omega)).mono ?_
      rw [hck]
      rintro e w6 ⟨rfl, hb_w6⟩
      replace q1 := cell_later hb_w6 q1
      replace q2 := cell_later hb_w6 q2
      replace q3 := cell_later hb_w6 q3
      replace q4 := cell_later hb_w6 q4
      replace q5 := cell_later hb_w6 q5
      replace HDT := Lib.hid (Has.below HDT.out hb_w6)
      have HH16 := Lib.hid (And.intro (HH15.out.1.trans (hb_w6.mono HH15.out.1.size)) (And.intro (HH15.out.2.1.step hb_w6) (And.intro (HH15.out.2.2.1.mut (Mut.of_below hb_w6)) (And.intro (HH15.out.2.2.2.1) (HH15.out.2.2.2.2)))))
      clear HH15 hb_w6
      go_wp2_with fail
      by_cases hlow : D.low
      case neg =>
        clear hck
        refine (low13_at _ D w6 HDT.out (by omega)).mono ?_
        rw [decide_eq_false hlow]
        rintro e w7n ⟨rfl, hb_w7n⟩
        replace q1 := cell_later hb_w7n q1
        replace q2 := cell_later hb_w7n q2
        replace q3 := cell_later hb_w7n q3
        replace q4 := cell_later hb_w7n q4
        replace q5 := cell_later hb_w7n q5
        replace HDT := Lib.hid (Has.below HDT.out hb_w7n)
        have HH17 := Lib.hid (And.intro (HH16.out.1.trans (hb_w7n.mono HH16.out.1.size)) (And.intro (HH16.out.2.1.step hb_w7n) (And.intro (HH16.out.2.2.1.mut (Mut.of_below hb_w7n)) (And.intro (HH16.out.2.2.2.1) (HH16.out.2.2.2.2)))))
        clear HH16 hb_w7n
        clear hlow hfw
        clear q1 q2 q3 q4 q5 HDT HDB
        go_wp2_with fail
        go_roundw
        case rel => exact ⟨c + 1, σ, Lv, by simp, by omega, Lib.hid (And.intro HH17.out.1 (And.intro HH17.out.2.1 (And.intro HH17.out.2.2.1 (And.intro HH17.out.2.2.2.1 HH17.out.2.2.2.2))))⟩
        case measure => simp [intOf]; omega
      refine (low13_at _ D w6 HDT.out (by omega)).mono ?_
      rw [decide_eq_true hlow]
      rintro e w7 ⟨rfl, hb_w7⟩
      replace q1 := cell_later hb_w7 q1
      replace q2 := cell_later hb_w7 q2
      replace q3 := cell_later hb_w7 q3
      replace q4 := cell_later hb_w7 q4
      replace q5 := cell_later hb_w7 q5
      replace HDT := Lib.hid (Has.below HDT.out hb_w7)
      have HH17 := Lib.hid (And.intro (HH16.out.1.trans (hb_w7.mono HH16.out.1.size)) (And.intro (HH16.out.2.1.step hb_w7) (And.intro (HH16.out.2.2.1.mut (Mut.of_below hb_w7)) (And.intro (HH16.out.2.2.2.1) (HH16.out.2.2.2.2)))))
      clear HH16 hb_w7
      have HLOW := Lib.hid (And.intro hfw (occ_low hlow))
      clear hck hlow hfw
      have HS : ∀ w', Below w2.heap.size w7 w' → w'.cell? ⟨db, do_ + c * 5, none⟩ = some (.int .i64 dN) ∧ w'.cell? ⟨db, do_ + c * 5 + 1, none⟩ = some (.int .i64 dk) ∧ w'.cell? ⟨db, do_ + c * 5 + 2, none⟩ = some (.int .i64 dn) ∧ w'.cell? ⟨db, do_ + c * 5 + 3, none⟩ = some (.string ds) ∧ w'.cell? ⟨db, do_ + c * 5 + 4, none⟩ = some (.slice da dl dc) := fun w' hb => ⟨(hb.cell (p := ⟨db, _, none⟩) HDB.out).trans q1, (hb.cell (p := ⟨db, _, none⟩) HDB.out).trans q2, (hb.cell (p := ⟨db, _, none⟩) HDB.out).trans q3, (hb.cell (p := ⟨db, _, none⟩) HDB.out).trans q4, (hb.cell (p := ⟨db, _, none⟩) HDB.out).trans q5⟩
      clear q1 q2 q3 q4 q5
      go_upto_region 10 with fail
      refine wp_region_held_drew (S := (fun w' => w'.cell? ⟨db, do_ + c * 5, none⟩ = some (.int .i64 dN) ∧ w'.cell? ⟨db, do_ + c * 5 + 1, none⟩ = some (.int .i64 dk) ∧ w'.cell? ⟨db, do_ + c * 5 + 2, none⟩ = some (.int .i64 dn) ∧ w'.cell? ⟨db, do_ + c * 5 + 3, none⟩ = some (.string ds) ∧ w'.cell? ⟨db, do_ + c * 5 + 4, none⟩ = some (.slice da dl dc))) (by kernel_rfl) (HS _ ((Below.refl _ _).drew)) (fun hHeld => ?_)
      refine wpAnyH_take (i := 0) (v := ?_) rfl (by kernel_rfl) (by kernel_rfl) (by kernel_rfl) (fun _ _ _ h => h) (Or.inl ⟨by kernel_rfl, ?_⟩) hHeld ?_
      rotate_left
      · intro w0 hSw
        (try dsimp only at hSw)
        go_simp
        try (with_reducible rfl)
      try simp only [Act.put, List.setIfInBounds_toArray, List.set_cons_zero, List.set_cons_succ]
      refine wpAnyH_take (i := 1) (v := ?_) rfl (by kernel_rfl) (by kernel_rfl) (by kernel_rfl) (fun _ _ _ h => h) (Or.inl ⟨by kernel_rfl, ?_⟩) hHeld ?_
      rotate_left
      · intro w0 hSw
        (try dsimp only at hSw)
        go_simp
        try (with_reducible rfl)
      try simp only [Act.put, List.setIfInBounds_toArray, List.set_cons_zero, List.set_cons_succ]
      refine wpAnyH_take (i := 2) (v := ?_) rfl (by kernel_rfl) (by kernel_rfl) (by kernel_rfl) (fun _ _ _ h => h) (Or.inl ⟨by kernel_rfl, ?_⟩) hHeld ?_
      rotate_left
      · intro w0 hSw
        (try dsimp only at hSw)
        go_simp
        try (with_reducible rfl)
      try simp only [Act.put, List.setIfInBounds_toArray, List.set_cons_zero, List.set_cons_succ]
      refine wpAnyH_take (i := 3) (v := ?_) rfl (by kernel_rfl) (by kernel_rfl) (by kernel_rfl) (fun _ _ _ h => h) (Or.inl ⟨by kernel_rfl, ?_⟩) hHeld ?_
      rotate_left
      · intro w0 hSw
        (try dsimp only at hSw)
        go_simp
        try (with_reducible rfl)
      try simp only [Act.put, List.setIfInBounds_toArray, List.set_cons_zero, List.set_cons_succ]
      refine wpAnyH_take (i := 4) (v := ?_) rfl (by kernel_rfl) (by kernel_rfl) (by kernel_rfl) (fun _ _ _ h => h) (Or.inl ⟨by kernel_rfl, ?_⟩) hHeld ?_
      rotate_left
      · intro w0 hSw
        (try dsimp only at hSw)
        go_simp
        try (with_reducible rfl)
      try simp only [Act.put, List.setIfInBounds_toArray, List.set_cons_zero, List.set_cons_succ]
      refine wpAnyH_take (i := 5) (v := ?_) rfl (by kernel_rfl) (by kernel_rfl) (by kernel_rfl) (fun _ _ _ h => h) (Or.inl ⟨by kernel_rfl, ?_⟩) hHeld ?_
      rotate_left
      · intro w0 hSw
        (try dsimp only at hSw)
        go_simp
        try (with_reducible rfl)
      try simp only [Act.put, List.setIfInBounds_toArray, List.set_cons_zero, List.set_cons_succ]
      refine wpAnyH_take (i := 6) (v := ?_) rfl (by kernel_rfl) (by kernel_rfl) (by kernel_rfl) (fun _ _ _ h => h) (Or.inl ⟨by kernel_rfl, ?_⟩) hHeld ?_
      rotate_left
      · intro w0 hSw
        (try dsimp only at hSw)
        go_simp
        try (with_reducible rfl)
      try simp only [Act.put, List.setIfInBounds_toArray, List.set_cons_zero, List.set_cons_succ]
      refine wpAnyH_take (i := 7) (v := ?_) rfl (by kernel_rfl) (by kernel_rfl) (by kernel_rfl) (fun _ _ _ h => h) (Or.inl ⟨by kernel_rfl, ?_⟩) hHeld ?_
      rotate_left
      · intro w0 hSw
        (try dsimp only at hSw)
        go_simp
        try (with_reducible rfl)
      try simp only [Act.put, List.setIfInBounds_toArray, List.set_cons_zero, List.set_cons_succ]
      refine wpAnyH_take (i := 8) (v := ?_) rfl (by kernel_rfl) (by kernel_rfl) (by kernel_rfl) (fun _ _ _ h => h) (Or.inl ⟨by kernel_rfl, ?_⟩) hHeld ?_
      rotate_left
      · intro w0 hSw
        (try dsimp only at hSw)
        go_simp
        try (with_reducible rfl)
      try simp only [Act.put, List.setIfInBounds_toArray, List.set_cons_zero, List.set_cons_succ]
      refine wpAnyH_take (i := 9) (v := ?_) rfl (by kernel_rfl) (by kernel_rfl) (by kernel_rfl) (fun _ _ _ h => h) (Or.inl ⟨by kernel_rfl, ?_⟩) hHeld ?_
      rotate_left
      · intro w0 hSw
        (try dsimp only at hSw)
        go_simp
        try (with_reducible rfl)
      try simp only [Act.put, List.setIfInBounds_toArray, List.set_cons_zero, List.set_cons_succ]
      refine wpAnyH_take (i := 10) (v := ?_) rfl (by kernel_rfl) (by kernel_rfl) (by kernel_rfl) (fun _ _ _ h => h) (Or.inl ⟨by kernel_rfl, ?_⟩) hHeld ?_
      rotate_left
      · intro w0 hSw
        (try dsimp only at hSw)
        go_simp
        try (with_reducible rfl)
      try simp only [Act.put, List.setIfInBounds_toArray, List.set_cons_zero, List.set_cons_succ]
      refine wpAnyH_ready (rs := [11]) (by kernel_rfl) (by simp) ?_
      refine AllReadyH.cons rfl (fun K hK => ?_) AllReadyH.nil
      go_simp
      have hdr : Below w7.heap.size w7 w7.drew := (Below.refl w7.heap.size w7).drew
      have HDd := Lib.hid (Has.below HDT.out hdr)
      have HH18 := Lib.hid (And.intro (HH17.out.1.trans (hdr.mono HH17.out.1.size)) (And.intro (HH17.out.2.1.step hdr) (And.intro (HH17.out.2.2.1.mut (Mut.of_below hdr)) (And.intro (HH17.out.2.2.2.1) (HH17.out.2.2.2.2)))))
      clear HH17 
      refine (bind_any HH18.out.2.1 HH18.out.1.size dN _ D HDd.out (by omega)).mono ?_
      rintro e w8 ⟨x8, rfl, L8, σ8, hS8, hM8, hb8⟩
      have hS8' := HS w8 ((hdr.mono HH18.out.1.size).trans (Mut.below HH18.out.2.1 hM8 HH18.out.1.size))
      have HB8 := Lib.hid (And.intro (hb8.len.trans HH18.out.2.2.2.1) (hb8.ld HH18.out.2.2.2.2 HLOW.out.2))
      clear hb8 hdr
      have HH19 := Lib.hid (And.intro (HH18.out.1.trans (Mut.below HH18.out.2.1 hM8 HH18.out.1.size)) (And.intro (hS8) (And.intro (HH18.out.2.2.1.mut hM8) (And.intro (HH18.out.2.2.2.1) (HH18.out.2.2.2.2)))))
      clear HH18 hS8 hM8 HS
      go_wp2_with fail
      refine hK.out _ _ hS8' (fun hHeld2 => ?_)
      clear hK K hHeld hS8'
      try simp only [Act.put, List.setIfInBounds_toArray, List.set_cons_zero, List.set_cons_succ]
      refine wpAnyH_done (by kernel_rfl) ?_ _
      clear hHeld2
      go_wp2_with fail
      go_roundw
      case rel => exact ⟨c + 1, σ8, L8, by simp, by omega, Lib.hid (And.intro HH19.out.1 (And.intro HH19.out.2.1 (And.intro HH19.out.2.2.1 (And.intro HB8.out.1 HB8.out.2))))⟩
      case measure => simp [intOf]; omega
    | false =>
      clear hcl HC
      obtain ⟨hocc, hsz⟩ : (∀ y, Occ y A → y < 12) ∧ A.size ≤ 300 := ⟨occ_low HCL.out.2, HZ1.out⟩
      have HO := Lib.hid (And.intro hocc hsz)
      clear hocc hsz
      have HRK := Lib.hid HR.out.2.1.ok.ranked
      go_upto_region 11 with fail
      obtain ⟨y10, y11, y12, y13⟩ := tbox_cells HR.out.2.2.1.box
      go_wp2_with fail
      cases hr : σ.fill 60 1000 A with
      | bad x =>
        have hx0 : x ≠ 0 := by rcases fill_bads σ 60 1000 A x hr with h | h <;> omega
        have hx1 : (x != 0) = true := by simpa using hx0
        have HRR := Lib.hid hr
        clear hr
        refine (full_bad13 HR.out.2.1 _ A HR.out.2.2.1.has HRR.out).mono ?_
        rintro e wg ⟨kd, nd, sd, ad, ld, cd, rfl, hTg, hBg⟩
        clear y10 y11 y12 y13
        have HH16 := Lib.hid (And.intro (HR.out.1.trans (hBg.mono HR.out.1.size)) (And.intro (HR.out.2.1.step hBg) (And.intro (HR.out.2.2.1.mut (Mut.of_below hBg)) (And.intro (HR.out.2.2.2.1) (HR.out.2.2.2.2)))))
        clear HR hBg
        obtain ⟨wb15, hwb15⟩ : ∃ wb, wb = wg.alloc (.cells #[.int .i64 kd, .int .i64 nd, .string sd, .slice ad ld cd] 24) := ⟨_, rfl⟩
        have hC15 : Below wg.heap.size wg wb15 := by rw [hwb15]; exact (Below.refl _ _).alloc (Nat.le_refl _) _
        have hX15 : wb15.heap[wg.heap.size]? = some (.cells #[.int .i64 kd, .int .i64 nd, .string sd, .slice ad ld cd] 24 (0, 0)) := by rw [hwb15]; exact World.alloc_heap_new _ _
        have hK15 : Kp wb15 w2.heap.size Vf Lv wg.heap.size kd nd sd ad ld cd (.mk 0 0 (ByteArray.mk #[]) []) := ⟨hX15, HH16.out.2.1.fresh ⟨Nat.le_refl _, (Array.getElem?_eq_some_iff.1 hX15).1⟩, oth_below hC15 hTg⟩
        have HWB15 := Lib.hid hwb15
        have HH17 := Lib.hid (And.intro (HH16.out.1.trans (hC15.mono HH16.out.1.size)) (And.intro (HH16.out.2.1.step hC15) (And.intro (HH16.out.2.2.1.mut (Mut.of_below hC15)) (And.intro (HH16.out.2.2.2.1) (And.intro (HH16.out.2.2.2.2) (hK15))))))
        clear HH16 hC15 hwb15 hX15 hK15
        clear hTg
        go_upto_region 12 with fail
        rw [← HWB15.out]
        generalize hbk15 : wg.heap.size = bk15 at *
        clear HWB15 hbk15
        obtain ⟨y10, y11, y12, y13⟩ := tbox_cells HH17.out.2.2.1.box
        go_wp2_with fail
        refine (ccopy_bad HH17.out.2.1 _ A HH17.out.2.2.1.has x HRR.out).mono ?_
        rintro e wc ⟨rfl, hBc⟩
        clear y10 y11 y12 y13
        have HH18 := Lib.hid (And.intro (HH17.out.1.trans (hBc.mono HH17.out.1.size)) (And.intro (HH17.out.2.1.step hBc) (And.intro (HH17.out.2.2.1.mut (Mut.of_below hBc)) (And.intro (HH17.out.2.2.2.1) (And.intro (HH17.out.2.2.2.2.1) (HH17.out.2.2.2.2.2.mut (Mut.of_below hBc)))))))
        clear HH17 hBc
        have HEND := Lib.hid (HBW.out.trans (HH18.out.1.mono HBW.out.size))
        go_wp2_with fail
        go_ret
        exact ⟨rfl, HEND.out.alloc HEND.out.size _⟩
      | ok U lf =>
        have hU : U.size ≤ 1000 := by have := fill_size σ 60 1000 A U lf hr; omega
        have hvl := vars_len_le U
        obtain ⟨m, hm⟩ : ∃ m, m = U.vars.length := ⟨_, rfl⟩
        rw [← hm] at hvl
        have HU := Lib.hid (And.intro hr (And.intro hU (And.intro hvl hm)))
        clear hr hU hvl hm
        refine (full_ok13 HR.out.2.1 _ A HR.out.2.2.1.has HU.out.1).mono ?_
        rintro e wg ⟨kd, nd, sd, ad, ld, cd, rfl, hTg, hBg⟩
        clear y10 y11 y12 y13
        have HH16 := Lib.hid (And.intro (HR.out.1.trans (hBg.mono HR.out.1.size)) (And.intro (HR.out.2.1.step hBg) (And.intro (HR.out.2.2.1.mut (Mut.of_below hBg)) (And.intro (HR.out.2.2.2.1) (HR.out.2.2.2.2)))))
        clear HR hBg
        obtain ⟨wb15, hwb15⟩ : ∃ wb, wb = wg.alloc (.cells #[.int .i64 kd, .int .i64 nd, .string sd, .slice ad ld cd] 24) := ⟨_, rfl⟩
        have hC15 : Below wg.heap.size wg wb15 := by rw [hwb15]; exact (Below.refl _ _).alloc (Nat.le_refl _) _
        have hX15 : wb15.heap[wg.heap.size]? = some (.cells #[.int .i64 kd, .int .i64 nd, .string sd, .slice ad ld cd] 24 (0, 0)) := by rw [hwb15]; exact World.alloc_heap_new _ _
        have hK15 : Kp wb15 w2.heap.size Vf Lv wg.heap.size kd nd sd ad ld cd U := ⟨hX15, HH16.out.2.1.fresh ⟨Nat.le_refl _, (Array.getElem?_eq_some_iff.1 hX15).1⟩, oth_below hC15 hTg⟩
        have HWB15 := Lib.hid hwb15
        have HH17 := Lib.hid (And.intro (HH16.out.1.trans (hC15.mono HH16.out.1.size)) (And.intro (HH16.out.2.1.step hC15) (And.intro (HH16.out.2.2.1.mut (Mut.of_below hC15)) (And.intro (HH16.out.2.2.2.1) (And.intro (HH16.out.2.2.2.2) (hK15))))))
        clear HH16 hC15 hwb15 hX15 hK15
        clear hTg
        go_upto_region 12 with fail
        rw [← HWB15.out]
        generalize hbk15 : wg.heap.size = bk15 at *
        clear HWB15 hbk15
        have hcall := ccopy_at HH17.out.2.1 HH17.out.1.size _ A HH17.out.2.2.1.has U lf HU.out.1 HU.out.2.1 (by rw [HH17.out.2.2.2.1, ← HU.out.2.2.2]; have := HU.out.2.2.1; have := HU.out.2.1; omega)
        obtain ⟨C, hC⟩ : ∃ C, C = U.norm.shift ((12 : Nat) : Int) := ⟨_, rfl⟩
        rw [HH17.out.2.2.2.1, ← hC, ← HU.out.2.2.2] at hcall
        have HC := Lib.hid (show CopyOf U C from by rw [hC]; exact copy_of HU.out.2.1)
        clear hC
        obtain ⟨y10, y11, y12, y13⟩ := tbox_cells HH17.out.2.2.1.box
        go_wp2_with fail
        refine (hcall).mono ?_
        rintro e wm18 ⟨ke, ne, se, ae, le, ce, rfl, V18, hS18, hM18, hT18⟩
        replace hS18 := hS18.weak (fun c hc => (hM18.keep c hc).2) (fun c hc => hc)
        have hT18a := hT18.carry (q := Oth wm18 w2.heap.size V18 Lv) (fun _ _ => rfl) (fun c hc => hc.2)
        clear y10 y11 y12 y13
        have HH19 := Lib.hid (And.intro (HH17.out.1.trans (Mut.below HH17.out.2.1 hM18 HH17.out.1.size)) (And.intro (hS18) (And.intro (HH17.out.2.2.1.mut hM18) (And.intro (HH17.out.2.2.2.1) (And.intro (HH17.out.2.2.2.2.1) (And.intro (HH17.out.2.2.2.2.2.mut hM18) (hT18a)))))))
        clear HH17 hS18 hM18 hT18 hT18a
        obtain ⟨wb18, hwb18⟩ : ∃ wb, wb = wm18.alloc (.cells #[.int .i64 ke, .int .i64 ne, .string se, .slice ae le ce] 24) := ⟨_, rfl⟩
        have hC18 : Below wm18.heap.size wm18 wb18 := by rw [hwb18]; exact (Below.refl _ _).alloc (Nat.le_refl _) _
        have hX18 : wb18.heap[wm18.heap.size]? = some (.cells #[.int .i64 ke, .int .i64 ne, .string se, .slice ae le ce] 24 (0, 0)) := by rw [hwb18]; exact World.alloc_heap_new _ _
        have hK18 : Kp wb18 w2.heap.size V18 Lv wm18.heap.size ke ne se ae le ce C := ⟨hX18, HH19.out.2.1.fresh ⟨Nat.le_refl _, (Array.getElem?_eq_some_iff.1 hX18).1⟩, oth_below hC18 HH19.out.2.2.2.2.2.2⟩
        have HWB18 := Lib.hid hwb18
        have HH20 := Lib.hid (And.intro (HH19.out.1.trans (hC18.mono HH19.out.1.size)) (And.intro (HH19.out.2.1.step hC18) (And.intro (HH19.out.2.2.1.mut (Mut.of_below hC18)) (And.intro (HH19.out.2.2.2.1) (And.intro (HH19.out.2.2.2.2.1) (And.intro (HH19.out.2.2.2.2.2.1.mut (Mut.of_below hC18)) (hK18)))))))
        clear HH19 hC18 hwb18 hX18 hK18
        go_upto_region 13 with fail
        rw [← HWB18.out]
        generalize hbk18 : wm18.heap.size = bk18 at *
        clear HWB18 hbk18
        clear hcall
        obtain ⟨ye0, ye1, ye2, ye3⟩ := tbox_cells HH20.out.2.2.2.2.2.2.box
        go_wp2_with fail
        refine (vars_own_at _ C wb18 HH20.out.2.2.2.2.2.2.has (by have := HC.out.size; have := HU.out.2.1; omega)).mono ?_
        rintro e wv ⟨rv, rfl, hrow, hbv⟩
        obtain ⟨av, cv, rfl, hVR⟩ := VarsRow.new HH20.out.2.1 hrow
        clear hrow
        clear ye0 ye1 ye2 ye3
        have HH21 := Lib.hid (And.intro (HH20.out.1.trans (hbv.mono HH20.out.1.size)) (And.intro (HH20.out.2.1.step hbv) (And.intro (HH20.out.2.2.1.mut (Mut.of_below hbv)) (And.intro (HH20.out.2.2.2.1) (And.intro (HH20.out.2.2.2.2.1) (And.intro (HH20.out.2.2.2.2.2.1.mut (Mut.of_below hbv)) (HH20.out.2.2.2.2.2.2.mut (Mut.of_below hbv))))))))
        clear HH20 hbv
        have hml : C.vars.length = m := HC.out.len.trans HU.out.2.2.2.symm
        rw [hml]
        have HML := Lib.hid hml
        have HNX := Lib.hid (Nx.start HH21.out.2.2.2.1 m)
        clear hml
        have HSG := Lib.hid (And.intro HH21.out.2.2.2.2.1 HRK.out)
        go_wp2_with fail
        go_loopw [15] (fun i wr => ∃ (c : Nat) (τ : St) (Lv : Value), i = .int .i64 (c : Int) ∧ c ≤ m ∧ Hid (Below w2.heap.size w2 wr ∧ StAt (Oth wr w2.heap.size V18 Lv) w2.heap.size wr w2.heap.size V18 Lv τ ∧ Kp wr w2.heap.size V18 Lv w.heap.size k1 n1 s1 a1 l1 c1 A ∧ Kp wr w2.heap.size V18 Lv bk15 kd nd sd ad ld cd U ∧ Kp wr w2.heap.size V18 Lv bk18 ke ne se ae le ce C ∧ VarsRow wr w2.heap.size V18 Lv av C.vars ∧ Nx σ τ m c)) (fun i _ => m - (intOf i).toNat)
        case atStart => exact ⟨0, _, _, rfl, Nat.zero_le _, Lib.hid (And.intro HH21.out.1 (And.intro HH21.out.2.1 (And.intro HH21.out.2.2.1 (And.intro HH21.out.2.2.2.2.2.1 (And.intro HH21.out.2.2.2.2.2.2 (And.intro hVR HNX.out))))))⟩
        case round =>
          obtain ⟨c, τ, Lv2, rfl, hcl, HR2⟩ := hrel
          clear hVR HNX HH21
          by_cases hlt : c < m
          case pos =>
            have hlti : (c : Int) < (m : Int) := by omega
            have hm64 : (m : Int) ≤ 9223372036854775807 := by have := HU.out.2.2.1; have := HU.out.2.1; omega
            have hltc : c < C.vars.length := by rw [HML.out]; exact hlt
            obtain ⟨vb, vo, rfl, hvo, hvc⟩ := HR2.out.2.2.2.2.2.1 c hltc
            rw [HC.out.get c hltc] at hvc
            have hwr12 : IntKind.i64.wrap (12 + (c : Int)) = 12 + (c : Int) := by rw [IntKind.wrap_i64]; have := HU.out.2.2.1; have := HU.out.2.1; omega
            have HVO := Lib.hid (And.intro hvo hvc)
            clear hltc hvo
            go_upto_region 21 with fail
            refine wp_region_held_drew (S := (fun w' => w'.cell? ⟨vb, vo + c, none⟩ = some (.int .i64 (12 + (c : Int))))) (by kernel_rfl) ((((Below.refl wr.heap.size wr).drew).cell (p := ⟨vb, vo + c, none⟩) HVO.out.1.1).trans HVO.out.2) (fun hHeld => ?_)
            clear hvc
            refine wpAnyH_take (i := 0) (v := ?_) rfl (by kernel_rfl) (by kernel_rfl) (by kernel_rfl) (fun _ _ _ h => h) (Or.inl ⟨by kernel_rfl, ?_⟩) hHeld ?_
            rotate_left
            · intro w0 hSw
              (try dsimp only at hSw)
              go_simp
              try (with_reducible rfl)
            try simp only [Act.put, List.setIfInBounds_toArray, List.set_cons_zero, List.set_cons_succ]
            refine wpAnyH_take (i := 1) (v := ?_) rfl (by kernel_rfl) (by kernel_rfl) (by kernel_rfl) (fun _ _ _ h => h) (Or.inl ⟨by kernel_rfl, ?_⟩) hHeld ?_
            rotate_left
            · intro w0 hSw
              (try dsimp only at hSw)
              go_simp
              try (with_reducible rfl)
            try simp only [Act.put, List.setIfInBounds_toArray, List.set_cons_zero, List.set_cons_succ]
            refine wpAnyH_take (i := 2) (v := ?_) rfl (by kernel_rfl) (by kernel_rfl) (by kernel_rfl) (fun _ _ _ h => h) (Or.inl ⟨by kernel_rfl, ?_⟩) hHeld ?_
            rotate_left
            · intro w0 hSw
              (try dsimp only at hSw)
              go_simp
              try (with_reducible rfl)
            try simp only [Act.put, List.setIfInBounds_toArray, List.set_cons_zero, List.set_cons_succ]
            refine wpAnyH_take (i := 3) (v := ?_) rfl (by kernel_rfl) (by kernel_rfl) (by kernel_rfl) (fun _ _ _ h => h) (Or.inl ⟨by kernel_rfl, ?_⟩) hHeld ?_
            rotate_left
            · intro w0 hSw
              (try dsimp only at hSw)
              go_simp
              try (with_reducible rfl)
            try simp only [Act.put, List.setIfInBounds_toArray, List.set_cons_zero, List.set_cons_succ]
            refine wpAnyH_take (i := 4) (v := ?_) rfl (by kernel_rfl) (by kernel_rfl) (by kernel_rfl) (fun _ _ _ h => h) (Or.inl ⟨by kernel_rfl, ?_⟩) hHeld ?_
            rotate_left
            · intro w0 hSw
              (try dsimp only at hSw)
              go_simp
              try (with_reducible rfl)
            try simp only [Act.put, List.setIfInBounds_toArray, List.set_cons_zero, List.set_cons_succ]
            refine wpAnyH_ready (rs := [5]) (by kernel_rfl) (by simp) ?_
            refine AllReadyH.cons rfl (fun K hK => ?_) AllReadyH.nil
            go_simp
            have hdr : Below wr.heap.size wr wr.drew := (Below.refl wr.heap.size wr).drew
            have HH22 := Lib.hid (And.intro (HR2.out.1.trans (hdr.mono HR2.out.1.size)) (And.intro (HR2.out.2.1.step hdr) (And.intro (HR2.out.2.2.1.mut (Mut.of_below hdr)) (And.intro (HR2.out.2.2.2.1.mut (Mut.of_below hdr)) (And.intro (HR2.out.2.2.2.2.1.mut (Mut.of_below hdr)) (And.intro (HR2.out.2.2.2.2.2.1.mut (Mut.of_below hdr)) (HR2.out.2.2.2.2.2.2)))))))
            clear HR2 
            refine (atom_at (ByteArray.mk #[97]) wr.drew (by decide)).mono ?_
            intro e wa ha
            obtain ⟨ka, na, sa, aa, la, ca, rfl, hTa, hBa⟩ := ha.has13
            have HTA := Lib.hid (show Has wa _ atomA from has_new13 hTa)
            have hdw := hdr.trans (hBa.mono hdr.size)
            have hVa := Lib.hid ((hdw.cell (p := ⟨vb, vo + c, none⟩) HVO.out.1.1).trans HVO.out.2)
            have HVO2 := Lib.hid (HVO.out.1.below hdw)
            clear ha hTa hdr hdw
            have HH23 := Lib.hid (And.intro (HH22.out.1.trans (hBa.mono HH22.out.1.size)) (And.intro (HH22.out.2.1.step hBa) (And.intro (HH22.out.2.2.1.mut (Mut.of_below hBa)) (And.intro (HH22.out.2.2.2.1.mut (Mut.of_below hBa)) (And.intro (HH22.out.2.2.2.2.1.mut (Mut.of_below hBa)) (And.intro (HH22.out.2.2.2.2.2.1.mut (Mut.of_below hBa)) (HH22.out.2.2.2.2.2.2)))))))
            clear HH22 hBa
            go_wp2_with fail
            refine hK.out _ _ hVa.out (fun hHeld2 => ?_)
            clear hK K hHeld
            try simp only [Act.put, List.setIfInBounds_toArray, List.set_cons_zero, List.set_cons_succ]
            refine wpAnyH_ready (rs := [6]) (by kernel_rfl) (by simp) ?_
            refine AllReadyH.cons rfl (fun K hK => ?_) AllReadyH.nil
            go_simp
            have e12 : (12 + (c : Int)) = ((12 + c : Nat) : Int) := by omega
            rw [e12]
            refine (bind_at10 HH23.out.2.1 HH23.out.1.size (12 + c) _ atomA HTA.out (by rw [atomA_size]; omega) (HH23.out.2.2.2.2.2.2.free c (Nat.le_refl _) hlt) (atomA_met _ _)).mono ?_
            rintro e wq ⟨rfl, Lq, hSq, hMq⟩
            have hVq := (World.cell?_of_block (a := ⟨vb, vo + c, none⟩) (hMq.keep vb HVO2.out).1).trans hVa.out
            have HH24 := Lib.hid (And.intro (HH23.out.1.trans (Mut.below HH23.out.2.1 hMq HH23.out.1.size)) (And.intro (hSq) (And.intro (HH23.out.2.2.1.mut hMq) (And.intro (HH23.out.2.2.2.1.mut hMq) (And.intro (HH23.out.2.2.2.2.1.mut hMq) (And.intro (HH23.out.2.2.2.2.2.1.mut hMq) (HH23.out.2.2.2.2.2.2)))))))
            clear HH23 hSq hMq HTA hVa
            rw [e12] at hVq
            go_wp2_with fail
            refine hK.out _ _ hVq (fun hHeld3 => ?_)
            clear hK K hHeld2 hVq
            try simp only [Act.put, List.setIfInBounds_toArray, List.set_cons_zero, List.set_cons_succ]
            refine wpAnyH_done (by kernel_rfl) ?_ _
            clear hHeld3
            go_wp2_with fail
            go_roundw
            case rel => exact ⟨c + 1, _, Lq, by simp, by omega, Lib.hid (And.intro HH24.out.1 (And.intro HH24.out.2.1 (And.intro HH24.out.2.2.1 (And.intro HH24.out.2.2.2.1 (And.intro HH24.out.2.2.2.2.1 (And.intro HH24.out.2.2.2.2.2.1 (HH24.out.2.2.2.2.2.2.next hlt atomA)))))))⟩
            case measure => simp [intOf]; omega
          have hnlt : ¬ ((c : Int) < (m : Int)) := by omega
          clear hlt hcl
          have hfull : τ.fill 60 1000 A = .ok U lf := (far_fill HR2.out.2.2.2.2.2.2.far HSG.out.1 HSG.out.2 60 1000 A HO.out.1).trans HU.out.1
          have HFU := Lib.hid hfull
          clear hfull
          go_upto_region 22 with fail
          obtain ⟨y10, y11, y12, y13⟩ := tbox_cells HR2.out.2.2.1.box
          go_wp2_with fail
          refine (full_ok13 HR2.out.2.1 _ A HR2.out.2.2.1.has HFU.out).mono ?_
          rintro e wh ⟨kf, nf, sf, af, lf, cf, rfl, hTg, hBg⟩
          clear y10 y11 y12 y13
          have HH23 := Lib.hid (And.intro (HR2.out.1.trans (hBg.mono HR2.out.1.size)) (And.intro (HR2.out.2.1.step hBg) (And.intro (HR2.out.2.2.1.mut (Mut.of_below hBg)) (And.intro (HR2.out.2.2.2.1.mut (Mut.of_below hBg)) (And.intro (HR2.out.2.2.2.2.1.mut (Mut.of_below hBg)) (And.intro (HR2.out.2.2.2.2.2.1.mut (Mut.of_below hBg)) (HR2.out.2.2.2.2.2.2)))))))
          clear HR2 hBg
          obtain ⟨wb22, hwb22⟩ : ∃ wb, wb = wh.alloc (.cells #[.int .i64 kf, .int .i64 nf, .string sf, .slice af lf cf] 24) := ⟨_, rfl⟩
          have hC22 : Below wh.heap.size wh wb22 := by rw [hwb22]; exact (Below.refl _ _).alloc (Nat.le_refl _) _
          have hX22 : wb22.heap[wh.heap.size]? = some (.cells #[.int .i64 kf, .int .i64 nf, .string sf, .slice af lf cf] 24 (0, 0)) := by rw [hwb22]; exact World.alloc_heap_new _ _
          have hK22 : Kp wb22 w2.heap.size V18 Lv2 wh.heap.size kf nf sf af lf cf U := ⟨hX22, HH23.out.2.1.fresh ⟨Nat.le_refl _, (Array.getElem?_eq_some_iff.1 hX22).1⟩, oth_below hC22 hTg⟩
          have HWB22 := Lib.hid hwb22
          have HH24 := Lib.hid (And.intro (HH23.out.1.trans (hC22.mono HH23.out.1.size)) (And.intro (HH23.out.2.1.step hC22) (And.intro (HH23.out.2.2.1.mut (Mut.of_below hC22)) (And.intro (HH23.out.2.2.2.1.mut (Mut.of_below hC22)) (And.intro (HH23.out.2.2.2.2.1.mut (Mut.of_below hC22)) (And.intro (HH23.out.2.2.2.2.2.1.mut (Mut.of_below hC22)) (And.intro (HH23.out.2.2.2.2.2.2) (hK22))))))))
          clear HH23 hC22 hwb22 hX22 hK22
          clear hTg
          go_upto_region 23 with fail
          rw [← HWB22.out]
          generalize hbk22 : wh.heap.size = bk22 at *
          clear HWB22 hbk22
          obtain ⟨ye0, ye1, ye2, ye3⟩ := tbox_cells HH24.out.2.2.2.2.1.box
          obtain ⟨yd0, yd1, yd2, yd3⟩ := tbox_cells HH24.out.2.2.2.1.box
          go_wp2_with fail
          refine (cvariant_at _ _ C U wb22 HH24.out.2.2.2.2.1.has HH24.out.2.2.2.1.has (by have := HC.out.size; have := HU.out.2.1; omega) (by have := HU.out.2.1; omega)).mono ?_
          rintro e wx ⟨he, hbx⟩
          obtain rfl : e = .returned (.bool true) := he.trans (by rw [decide_eq_true HC.out.norm])
          clear he
          have HH25 := Lib.hid (And.intro (HH24.out.1.trans (hbx.mono HH24.out.1.size)) (And.intro (HH24.out.2.1.step hbx) (And.intro (HH24.out.2.2.1.mut (Mut.of_below hbx)) (And.intro (HH24.out.2.2.2.1.mut (Mut.of_below hbx)) (And.intro (HH24.out.2.2.2.2.1.mut (Mut.of_below hbx)) (And.intro (HH24.out.2.2.2.2.2.1.mut (Mut.of_below hbx)) (And.intro (HH24.out.2.2.2.2.2.2.1) (HH24.out.2.2.2.2.2.2.2.mut (Mut.of_below hbx)))))))))
          clear HH24 hbx
          clear ye0 ye1 ye2 ye3
          clear yd0 yd1 yd2 yd3
          obtain ⟨yd0, yd1, yd2, yd3⟩ := tbox_cells HH25.out.2.2.2.1.box
          obtain ⟨yf0, yf1, yf2, yf3⟩ := tbox_cells HH25.out.2.2.2.2.2.2.2.box
          go_wp2_with fail
          refine (same_at U U _ _ wx HH25.out.2.2.2.1.has HH25.out.2.2.2.2.2.2.2.has (by have := HU.out.2.1; omega) (by have := HU.out.2.1; omega)).mono ?_
          rintro e ws ⟨he, hbs⟩
          obtain rfl : e = .returned (.bool true) := he.trans (by rw [decide_eq_true rfl])
          clear he
          have HH26 := Lib.hid (And.intro (HH25.out.1.trans (hbs.mono HH25.out.1.size)) (And.intro (HH25.out.2.1.step hbs) (And.intro (HH25.out.2.2.1.mut (Mut.of_below hbs)) (And.intro (HH25.out.2.2.2.1.mut (Mut.of_below hbs)) (And.intro (HH25.out.2.2.2.2.1.mut (Mut.of_below hbs)) (And.intro (HH25.out.2.2.2.2.2.1.mut (Mut.of_below hbs)) (And.intro (HH25.out.2.2.2.2.2.2.1) (HH25.out.2.2.2.2.2.2.2.mut (Mut.of_below hbs)))))))))
          clear HH25 hbs
          clear yd0 yd1 yd2 yd3
          clear yf0 yf1 yf2 yf3
          go_wp2_with fail
          go_ret
          exact ⟨rfl, HBW.out.trans (HH26.out.1.mono HBW.out.size)⟩
end Go.Proofs.Ytlnggaepmclbkaa
