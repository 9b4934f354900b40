/-
  The law SealOpened: its walk.
-/
import Derived.Test.YtllggpmmcamkmaaSLaw1
namespace Go.Proofs.Ytllggpmmcamkmaa
open Go.RowKit Go.Shelf
open Classical
set_option linter.unusedVariables false

theorem over_parts (T : Tm) (l : Int) : (T.over' l).kind = T.kind ∧ (T.over' l).name = T.name ∧ (T.over' l).kids.length = T.kids.length := ⟨rfl, rfl, List.length_map _⟩
/-- What a term is opened, behind one seal more and not. -/
theorem open_parts {N x : Nat} (hx : x < N) (T : Tm) : ((putT T x).openC N).1.kind = (T.openC N).1.kind ∧ ((putT T x).openC N).1.name = (T.openC N).1.name ∧ ((putT T x).openC N).1.kids.length = (T.openC N).1.kids.length ∧ ((putT T x).openC N).2 = max (T.openC N).2 x := by
  rw [open_put hx]
  cases h : T.wrapsT with
  | true =>
    rw [openC_pos h]
    refine ⟨rfl, rfl, ?_, ?_⟩
    · simp only; rw [(over_parts _ _).2.2, (over_parts _ _).2.2]
    · simp only; omega
  | false =>
    rw [openC_neg h]
    obtain ⟨k, n, s, ks⟩ := T
    rw [Tm.strip_else (of_decide_eq_false h)]
    refine ⟨rfl, rfl, ?_, ?_⟩
    · simp only; rw [(over_parts _ _).2.2]
    · simp only; omega
theorem open_two {N x y : Nat} (hx : x < N) (hy : y < N) (T : Tm) : (putT (putT T x) y).openC N = (putT T (max x y : Nat)).openC N := by
  rw [open_put hy, open_put (show max x y < N by omega), strip_put hx]
  simp only
  rw [show max y (max x (T.strip Nat.max (lvC N) 0).2) = max (max x y) (T.strip Nat.max (lvC N) 0).2 by omega]
theorem open_other {N : Nat} {T : Tm} (h : T.kind ≠ 4) : T.openC N = (T, 0) := openC_neg (by obtain ⟨k, n, s, ks⟩ := T; exact decide_eq_false (fun e => h e.1))

theorem cutp {P G : Prop} (h : P) (k : P → G) : G := k h
theorem below_sc {A X Y : World} {o : Nat} {v : Value} (k : Below A.heap.size A Y) (h : Below A.heap.size A X) : Below A.heap.size A (X.setCell ⟨Y.heap.size, o, none⟩ v) := h.setCell (p := ⟨Y.heap.size, o, none⟩) k.size v
theorem fin_box {wz w12 W Y : World} {v0 v1 v2 v3 : Value} {R : Tm} (kz : Below wz.heap.size wz Y) (k : Below (Y.alloc (.cells #[.int .i64 0, .int .i64 0, .string (ByteArray.mk #[]), .slice none 0 0] 24)).heap.size (Y.alloc (.cells #[.int .i64 0, .int .i64 0, .string (ByteArray.mk #[]), .slice none 0 0] 24)) W) (b12 : Below W.heap.size W w12)
    (hT : TmIn (fun b => W.heap.size ≤ b ∧ b < w12.heap.size) w12 (.agg #[v0, v1, v2, v3]) R) :
    ((((w12.setCell ⟨Y.heap.size, 0, none⟩ (v0)).setCell ⟨Y.heap.size, 1, none⟩ (v1)).setCell ⟨Y.heap.size, 2, none⟩ (v2)).setCell ⟨Y.heap.size, 3, none⟩ (v3)).heap[Y.heap.size]? = some (.cells #[v0, v1, v2, v3] 24 (0, 0)) ∧ Has ((((w12.setCell ⟨Y.heap.size, 0, none⟩ (v0)).setCell ⟨Y.heap.size, 1, none⟩ (v1)).setCell ⟨Y.heap.size, 2, none⟩ (v2)).setCell ⟨Y.heap.size, 3, none⟩ (v3)) (.agg #[v0, v1, v2, v3]) R ∧ Below wz.heap.size wz ((((w12.setCell ⟨Y.heap.size, 0, none⟩ (v0)).setCell ⟨Y.heap.size, 1, none⟩ (v1)).setCell ⟨Y.heap.size, 2, none⟩ (v2)).setCell ⟨Y.heap.size, 3, none⟩ (v3)) := by
  have hbw : Y.heap.size < W.heap.size := by have := k.size; simp at this; omega
  have y := tbox_below (tbox_below (World.alloc_heap_new Y (.cells #[.int .i64 0, .int .i64 0, .string (ByteArray.mk #[]), .slice none 0 0] 24)) k) b12
  have hY : Below wz.heap.size wz (Y.alloc (.cells #[.int .i64 0, .int .i64 0, .string (ByteArray.mk #[]), .slice none 0 0] 24)) := kz.alloc kz.size _
  have hz : Below wz.heap.size wz w12 := (hY.trans (k.mono hY.size)).trans (b12.mono (Nat.le_trans hY.size k.size))
  refine ⟨four_block y v0 v1 v2 v3, hT.carry (fun b hb => ?_) (fun b hb => ?_), below_sc kz (below_sc kz (below_sc kz (below_sc kz hz)))⟩
  · have := hb.1
    rw [Below.heap_setCell _ _ _ _ (by simp; omega), Below.heap_setCell _ _ _ _ (by simp; omega), Below.heap_setCell _ _ _ _ (by simp; omega), Below.heap_setCell _ _ _ _ (by simp; omega)]
  · have := hb.2
    simp
    omega
theorem box_free {W : World} {B : Nat} {c : Array Value} {t : TypeId} (h : W.heap[B]? = some (.cells c t (0, 0))) (j : Nat) : W.frozen? ⟨B, j, none⟩ = false := by simp [World.frozen?, h]
theorem fin_alloc {wz w12 : World} {v0 v1 v2 v3 : Value} {R : Tm} (hz : Below wz.heap.size wz w12) (hT : Has w12 (.agg #[v0, v1, v2, v3]) R) :
    (w12.alloc (.cells #[v0, v1, v2, v3] 24)).heap[w12.heap.size]? = some (.cells #[v0, v1, v2, v3] 24 (0, 0)) ∧ Has (w12.alloc (.cells #[v0, v1, v2, v3] 24)) (.agg #[v0, v1, v2, v3]) R ∧ Below wz.heap.size wz (w12.alloc (.cells #[v0, v1, v2, v3] 24)) :=
  ⟨World.alloc_heap_new _ _, Has.below hT ((Below.refl _ _).alloc (Nat.le_refl _) _), hz.alloc hz.size _⟩

set_option maxRecDepth 100000 in
set_option maxHeartbeats 8000000 in
theorem sealOpened_at (x ya yb : Int) (u : Value) (A : Tm) (w : World) (hu : Has w u A) (hs : A.size ≤ 1000000000000) (hx0 : 0 ≤ x) (hx1 : x ≤ 255) (ha0 : 0 ≤ ya) (ha1 : ya ≤ 255) (hb0 : 0 ≤ yb) (hb1 : yb ≤ 255) :
    Calls Try.prog 9 #[.int .u8 x, u, .int .u8 ya, .int .u8 yb] w fun r w' => r = .returned (.bool true) ∧ Below w.heap.size w w' := by
  obtain ⟨k1, n1, s1, a1, l1, c1, ks1, rfl, e', -⟩ := hu.form
  clear e'
  obtain ⟨kk, hk, hk1⟩ : ∃ kk : Nat, 1 + x % 16 = (kk : Int) + 1 ∧ kk < 16 := ⟨(x % 16).toNat, by omega, by omega⟩
  have Hk := Lib.hid (And.intro hk hk1)
  clear hk hk1
  obtain ⟨NN, hNN⟩ : ∃ NN : Nat, kk + 1 = NN := ⟨_, rfl⟩
  have HN := Lib.hid (And.intro hNN (show 1 ≤ NN ∧ NN ≤ 16 by have := Hk.out.2; omega))
  clear hNN
  obtain ⟨qa, hqa⟩ : ∃ qa, decide (A.size ≤ 2000) = qa := ⟨_, rfl⟩
  obtain ⟨ck, hck⟩ : ∃ ck, A.check (NN : Int) = ck := ⟨_, rfl⟩
  have Hqa := Lib.hid hqa
  have Hck := Lib.hid hck
  have Hs := Lib.hid hs
  have fa : ∀ w', Has w' (.agg #[.int .i64 k1, .int .i64 n1, .string s1, .slice a1 l1 c1]) A → Calls Try.prog 27 #[.agg #[.int .i64 k1, .int .i64 n1, .string s1, .slice a1 l1 c1]] w' (Gets w' (.bool qa)) := fun w' h => by rw [← Hqa.out]; exact sfew_at _ A w' h Hs.out
  have fc : ∀ w', Has w' (.agg #[.int .i64 k1, .int .i64 n1, .string s1, .slice a1 l1 c1]) A → Calls Try.prog 12 #[.agg #[.int .i64 k1, .int .i64 n1, .string s1, .slice a1 l1 c1], .int .i64 (NN : Int)] w' (Gets w' (.int .i64 ck)) := fun w' h => by rw [← Hck.out]; exact check_at _ A NN w' h (by have := Hs.out; omega)
  clear hqa hck hs
  have HB1 := Lib.hid (show Below w.heap.size w (w.alloc (.cells #[.int .i64 k1, .int .i64 n1, .string s1, .slice a1 l1 c1] 24)) from ((Below.refl _ w).alloc (Nat.le_refl _) _))
  have HX2 := Lib.hid (show (w.alloc (.cells #[.int .i64 k1, .int .i64 n1, .string s1, .slice a1 l1 c1] 24)).heap[w.heap.size]? = some (.cells #[.int .i64 k1, .int .i64 n1, .string s1, .slice a1 l1 c1] 24 (0, 0)) from (by simpa using World.alloc_heap_new w (.cells #[.int .i64 k1, .int .i64 n1, .string s1, .slice a1 l1 c1] 24)))
  have HT3 := Lib.hid (Has.below hu HB1.out)
  obtain ⟨p4_0, p4_1, p4_2, p4_3⟩ := tbox_cells HX2.out
  clear hu
  go_enter Try.func9, Try.ntmps9
  go_wp2_with fail
  refine Calls.mono (sshown_at _) ?_
  rintro r w5 ⟨rfl, bw5⟩
  have st6 : Below (w.alloc (.cells #[.int .i64 k1, .int .i64 n1, .string s1, .slice a1 l1 c1] 24)).heap.size (w.alloc (.cells #[.int .i64 k1, .int .i64 n1, .string s1, .slice a1 l1 c1] 24)) w5 := bw5
  have HB7 := Lib.hid (HB1.out.trans (st6.mono HB1.out.size))
  have HX8 := Lib.hid (tbox_below HX2.out st6)
  have HT9 := Lib.hid (Has.below HT3.out st6)
  clear p4_0 p4_1 p4_2 p4_3
  obtain ⟨p10_0, p10_1, p10_2, p10_3⟩ := tbox_cells HX8.out
  clear st6 HB1 HX2 HT3
  clear bw5
  go_wp2_with fail
  rw [Hk.out.1]
  refine Calls.mono (chain_at kk _ Hk.out.2) ?_
  rintro r w11 ⟨lb, rfl, hL0, bw11⟩
  rw [HN.out.1] at hL0
  have st12 : Below w5.heap.size w5 w11 := bw11
  have HB13 := Lib.hid (HB7.out.trans (st12.mono HB7.out.size))
  have HX14 := Lib.hid (tbox_below HX8.out st12)
  have HT15 := Lib.hid (Has.below HT9.out st12)
  clear p10_0 p10_1 p10_2 p10_3
  obtain ⟨p16_0, p16_1, p16_2, p16_3⟩ := tbox_cells HX14.out
  clear st12 HB7 HX8 HT9
  clear bw11
  have HL17 := Lib.hid hL0
  clear hL0
  obtain ⟨I, inst, F, n0, hF0, hFb, hFc⟩ := later_family w11
  have K0 := fun i => (tbox_cells (tbox_below HX14.out (hFb i))).1
  have K1 := fun i => (tbox_cells (tbox_below HX14.out (hFb i))).2.1
  have K2 := fun i => (tbox_cells (tbox_below HX14.out (hFb i))).2.2.1
  have K3 := fun i => (tbox_cells (tbox_below HX14.out (hFb i))).2.2.2
  have C1 := Lib.hid (fun i => calls_fam hFc i (fa _ (Has.below HT15.out (hFb i))))
  have C2 := Lib.hid (fun i => calls_fam hFc i ((ch_len (HL17.out.below (hFb i))).mono fun _ _ h => gets_of_reads h))
  have C3 := Lib.hid (fun i => calls_fam hFc i (fc _ (Has.below HT15.out (hFb i))))
  have HF := Lib.hid hFb
  clear hFb hFc fa fc
  cases qa with
  | false =>
    go_wp2_with fail
    refine wp_region_fam F n0 hF0 (by kernel_rfl) (by kernel_rfl) ?_
    clear hF0
    repeat (go_big_quiet_step (first | (go_at_call 27; (with_reducible exact C1.out _)) | (go_at_call 28; (with_reducible exact C2.out _)) | (go_at_call 12; (with_reducible exact C3.out _))))
    refine wpQuiet_nil ?_
    intro _ hw'
    obtain ⟨nq, hw''⟩ := hw'
    subst hw'' 
    go_wp2_with fail
    go_ret
    exact ⟨rfl, HB13.out.trans ((HF.out nq).mono HB13.out.size)⟩
  | true =>
    by_cases hc : ck = 0
    case neg =>
      have hc1 : (ck == 0) = false := by simpa using hc
      have hc2 : (ck != 0) = true := by simpa using hc
      go_wp2_with fail
      refine wp_region_fam F n0 hF0 (by kernel_rfl) (by kernel_rfl) ?_
      clear hF0
      repeat (go_big_quiet_step (first | (go_at_call 27; (with_reducible exact C1.out _)) | (go_at_call 28; (with_reducible exact C2.out _)) | (go_at_call 12; (with_reducible exact C3.out _))))
      refine wpQuiet_nil ?_
      intro _ hw'
      obtain ⟨nq, hw''⟩ := hw'
      subst hw'' 
      go_wp2_with fail
      go_ret
      exact ⟨rfl, HB13.out.trans ((HF.out nq).mono HB13.out.size)⟩
    subst hc
    go_wp2_with fail
    refine wp_region_fam F n0 hF0 (by kernel_rfl) (by kernel_rfl) ?_
    clear hF0
    repeat (go_big_quiet_step (first | (go_at_call 27; (with_reducible exact C1.out _)) | (go_at_call 28; (with_reducible exact C2.out _)) | (go_at_call 12; (with_reducible exact C3.out _))))
    refine wpQuiet_nil ?_
    intro _ hw'
    obtain ⟨nq, hw''⟩ := hw'
    subst hw'' 
    clear K0 K1 K2 K3 C1 C2 C3
    have st18 : Below w11.heap.size w11 (F nq) := HF.out nq
    have HB19 := Lib.hid (HB13.out.trans (st18.mono HB13.out.size))
    have HX20 := Lib.hid (tbox_below HX14.out st18)
    have HT21 := Lib.hid (Has.below HT15.out st18)
    have HL22 := Lib.hid (ChainAt.below HL17.out st18)
    clear p16_0 p16_1 p16_2 p16_3
    obtain ⟨p23_0, p23_1, p23_2, p23_3⟩ := tbox_cells HX20.out
    clear st18 HB13 HX14 HT15 HL17
    clear HF
    have hA := Lib.hid (of_decide_eq_true Hqa.out)
    have hVal := Lib.hid (check_zero Hck.out).2.2
    have hN1 := HN.out.2.1
    have hN2 := HN.out.2.2
    obtain ⟨X, hX, hXN⟩ : ∃ X : Nat, ya % (NN : Int) = X ∧ X < NN := mod_level ya NN hN1
    obtain ⟨Y, hY, hYN⟩ : ∃ Y : Nat, yb % (NN : Int) = Y ∧ Y < NN := mod_level yb NN hN1
    have lX := Lib.hid hXN
    have lY := Lib.hid hYN
    have iX := Lib.hid (show i64ok (X : Int) by unfold i64ok; omega)
    have iY := Lib.hid (show i64ok (Y : Int) by unfold i64ok; omega)
    have oA := Lib.hid (show A.size ≤ 1000000000000 by have := hA.out; omega)
    obtain ⟨jj, hjj⟩ : ∃ jj, max X Y = jj := ⟨_, rfl⟩
    have lJ := Lib.hid (show jj < NN by omega)
    have iJ := Lib.hid (show i64ok (jj : Int) by unfold i64ok; omega)
    obtain ⟨P1, hP1⟩ : ∃ P, putT A (X : Int) = P := ⟨_, rfl⟩
    obtain ⟨P2, hP2⟩ : ∃ P, putT P1 (Y : Int) = P := ⟨_, rfl⟩
    obtain ⟨P3, hP3⟩ : ∃ P, putT A (jj : Int) = P := ⟨_, rfl⟩
    obtain ⟨O, m, hO⟩ : ∃ O m, A.openC NN = (O, m) := ⟨_, _, rfl⟩
    obtain ⟨R, kq, hR⟩ : ∃ R kq, P3.openC NN = (R, kq) := ⟨_, _, rfl⟩
    have f1 : P2.openC NN = (R, kq) := by rw [← hR, ← hP2, ← hP1, ← hP3, ← hjj]; exact open_two hXN hYN A
    have f2 := open_parts lJ.out A
    rw [hP3, hR, hO] at f2
    simp only at f2
    have f3 : P1.size = A.size + 1 ∧ P2.size = A.size + 2 ∧ P3.size = A.size + 1 := ⟨by rw [← hP1, put_size], by rw [← hP2, put_size, ← hP1, put_size], by rw [← hP3, put_size]⟩
    have f4 : O.size ≤ 2 * A.size := by have := openC_size NN A; rw [hO] at this; exact this
    have f5 : R.size ≤ 2 * P3.size := by have := openC_size NN P3; rw [hR] at this; exact this
    have f6 : m < NN := by have := openC_lt hN1 A; rw [hO] at this; exact this
    have HQ := Lib.hid (And.intro hP1 (And.intro hP2 (And.intro hP3 (And.intro hO (And.intro hR (And.intro f1 (And.intro f2 (And.intro f3 (And.intro f4 (And.intro f5 (And.intro f6 hjj)))))))))))
    have hA0 := hA.out
    have o1 := Lib.hid (show P1.size ≤ 1000000000000 by omega)
    have o2 := Lib.hid (show P2.size ≤ 1000000000000 by omega)
    have o3 := Lib.hid (show P3.size ≤ 1000000000000 by omega)
    have oO := Lib.hid (show O.size ≤ 1000000000000 by omega)
    have oR := Lib.hid (show R.size ≤ 1000000000000 by omega)
    clear hXN hYN hjj hP1 hP2 hP3 hO hR f1 f2 f3 f4 f5 f6 hA0
    have op : ∀ (w' : World), ChainAt w' lb NN → Has w' (.agg #[.int .i64 k1, .int .i64 n1, .string s1, .slice a1 l1 c1]) A → Calls Try.prog 29 #[.pointer (some ⟨lb, 0, none⟩), .agg #[.int .i64 k1, .int .i64 n1, .string s1, .slice a1 l1 c1]] w' (NewOpen w' O m) := fun w' hL h => by
      have := open_at _ A w' lb NN hL h oA.out
      rwa [HQ.out.2.2.2.1] at this
    have p1 : ∀ (w' : World), Has w' (.agg #[.int .i64 k1, .int .i64 n1, .string s1, .slice a1 l1 c1]) A → Calls Try.prog 38 #[.agg #[.int .i64 k1, .int .i64 n1, .string s1, .slice a1 l1 c1], .int .i64 (X : Int)] w' (NewTm w' P1) := fun w' h => by
      have := put_at _ A X w' iX.out h oA.out
      rwa [HQ.out.1] at this
    have p2 : ∀ (v : Value) (w' : World), Has w' v P1 → Calls Try.prog 38 #[v, .int .i64 (Y : Int)] w' (NewTm w' P2) := fun v w' h => by
      have := put_at v P1 Y w' iY.out h o1.out
      rwa [HQ.out.2.1] at this
    have p3 : ∀ (w' : World), Has w' (.agg #[.int .i64 k1, .int .i64 n1, .string s1, .slice a1 l1 c1]) A → Calls Try.prog 38 #[.agg #[.int .i64 k1, .int .i64 n1, .string s1, .slice a1 l1 c1], .int .i64 (jj : Int)] w' (NewTm w' P3) := fun w' h => by
      have := put_at _ A jj w' iJ.out h oA.out
      rwa [HQ.out.2.2.1] at this
    have q2 : ∀ (v : Value) (w' : World), ChainAt w' lb NN → Has w' v P2 → Calls Try.prog 29 #[.pointer (some ⟨lb, 0, none⟩), v] w' (NewOpen w' R kq) := fun v w' hL h => by
      have := open_at v P2 w' lb NN hL h o2.out
      rwa [HQ.out.2.2.2.2.2.1] at this
    have q3 : ∀ (v : Value) (w' : World), ChainAt w' lb NN → Has w' v P3 → Calls Try.prog 29 #[.pointer (some ⟨lb, 0, none⟩), v] w' (NewOpen w' R kq) := fun v w' hL h => by
      have := open_at v P3 w' lb NN hL h o3.out
      rwa [HQ.out.2.2.2.2.1] at this
    have jx : ∀ (w' : World), ChainAt w' lb NN → Calls Try.prog 33 #[.pointer (some ⟨lb, 0, none⟩), .int .i64 (X : Int), .int .i64 (Y : Int)] w' (Gets w' (.int .i64 (jj : Int))) := fun w' hL => by
      have := (ch_join hL lX.out lY.out).mono fun _ _ h => gets_of_reads h
      rwa [HQ.out.2.2.2.2.2.2.2.2.2.2.2] at this
    have jm : ∀ (w' : World), ChainAt w' lb NN → Calls Try.prog 33 #[.pointer (some ⟨lb, 0, none⟩), .int .i64 (m : Int), .int .i64 (jj : Int)] w' (Gets w' (.int .i64 (kq : Int))) := fun w' hL => by
      have := (ch_join hL HQ.out.2.2.2.2.2.2.2.2.2.2.1 lJ.out).mono fun _ _ h => gets_of_reads h
      rwa [← HQ.out.2.2.2.2.2.2.1.2.2.2] at this
    go_wp2_with fail
    refine Calls.mono ((ch_len HL22.out).mono fun _ _ h => gets_of_reads h) ?_
    rintro r w24 ⟨rfl, bw24⟩
    have st25 : Below (F nq).heap.size (F nq) w24 := bw24
    have HB26 := Lib.hid (HB19.out.trans (st25.mono HB19.out.size))
    have HX27 := Lib.hid (tbox_below HX20.out st25)
    have HT28 := Lib.hid (Has.below HT21.out st25)
    have HL29 := Lib.hid (ChainAt.below HL22.out st25)
    clear p23_0 p23_1 p23_2 p23_3
    obtain ⟨p30_0, p30_1, p30_2, p30_3⟩ := tbox_cells HX27.out
    clear st25 HB19 HX20 HT21 HL22
    clear bw24
    go_wp2_with fail
    refine Calls.mono ((ch_len HL29.out).mono fun _ _ h => gets_of_reads h) ?_
    rintro r w31 ⟨rfl, bw31⟩
    have st32 : Below w24.heap.size w24 w31 := bw31
    have HB33 := Lib.hid (HB26.out.trans (st32.mono HB26.out.size))
    have HX34 := Lib.hid (tbox_below HX27.out st32)
    have HT35 := Lib.hid (Has.below HT28.out st32)
    have HL36 := Lib.hid (ChainAt.below HL29.out st32)
    clear p30_0 p30_1 p30_2 p30_3
    obtain ⟨p37_0, p37_1, p37_2, p37_3⟩ := tbox_cells HX34.out
    clear st32 HB26 HX27 HT28 HL29
    clear bw31
    go_wp2_with fail
    refine Calls.mono (op _ HL36.out HT35.out) ?_
    intro r w38 h2
    obtain ⟨k2, n2, s2, a2, l2, c2, rfl, hh2, b2⟩ := h2.has
    clear h2
    have HT39 := Lib.hid hh2
    clear hh2
    have st40 : Below w31.heap.size w31 w38 := b2
    have HB41 := Lib.hid (HB33.out.trans (st40.mono HB33.out.size))
    have HX42 := Lib.hid (tbox_below HX34.out st40)
    have HT43 := Lib.hid (Has.below HT35.out st40)
    have HL44 := Lib.hid (ChainAt.below HL36.out st40)
    clear p37_0 p37_1 p37_2 p37_3
    obtain ⟨p45_0, p45_1, p45_2, p45_3⟩ := tbox_cells HX42.out
    clear st40 HB33 HX34 HT35 HL36
    clear b2
    have st46 : Below w38.heap.size w38 (w38.alloc (.cells #[.int .i64 k2, .int .i64 n2, .string s2, .slice a2 l2 c2] 24)) := (Below.refl _ _).alloc (Nat.le_refl _) _
    have HB47 := Lib.hid (HB41.out.trans (st46.mono HB41.out.size))
    have HX48 := Lib.hid (tbox_below HX42.out st46)
    have HT49 := Lib.hid (Has.below HT43.out st46)
    have HT50 := Lib.hid (Has.below HT39.out st46)
    have HL51 := Lib.hid (ChainAt.below HL44.out st46)
    clear p45_0 p45_1 p45_2 p45_3
    obtain ⟨p52_0, p52_1, p52_2, p52_3⟩ := tbox_cells HX48.out
    clear st46 HB41 HX42 HT43 HT39 HL44
    have HX53 := Lib.hid (World.alloc_heap_new w38 (.cells #[.int .i64 k2, .int .i64 n2, .string s2, .slice a2 l2 c2] 24))
    obtain ⟨p54_0, p54_1, p54_2, p54_3⟩ := tbox_cells HX53.out
    go_wp2_with fail
    try rw [hX]
    refine Calls.mono (p1 _ HT49.out) ?_
    intro r w55 h3
    obtain ⟨k3, n3, s3, a3, l3, c3, rfl, hh3, b3⟩ := h3.has
    clear h3
    have HT56 := Lib.hid hh3
    clear hh3
    have st57 : Below (w38.alloc (.cells #[.int .i64 k2, .int .i64 n2, .string s2, .slice a2 l2 c2] 24)).heap.size (w38.alloc (.cells #[.int .i64 k2, .int .i64 n2, .string s2, .slice a2 l2 c2] 24)) w55 := b3
    have HB58 := Lib.hid (HB47.out.trans (st57.mono HB47.out.size))
    have HX59 := Lib.hid (tbox_below HX48.out st57)
    have HX60 := Lib.hid (tbox_below HX53.out st57)
    have HT61 := Lib.hid (Has.below HT49.out st57)
    have HT62 := Lib.hid (Has.below HT50.out st57)
    have HL63 := Lib.hid (ChainAt.below HL51.out st57)
    clear p52_0 p52_1 p52_2 p52_3
    obtain ⟨p64_0, p64_1, p64_2, p64_3⟩ := tbox_cells HX59.out
    clear p54_0 p54_1 p54_2 p54_3
    obtain ⟨p65_0, p65_1, p65_2, p65_3⟩ := tbox_cells HX60.out
    clear st57 HB47 HX48 HX53 HT49 HT50 HL51
    clear b3
    go_wp2_with fail
    try rw [hY]
    refine Calls.mono (p2 _ _ HT56.out) ?_
    intro r w66 h4
    obtain ⟨k4, n4, s4, a4, l4, c4, rfl, hh4, b4⟩ := h4.has
    clear h4
    have HT67 := Lib.hid hh4
    clear hh4
    have st68 : Below w55.heap.size w55 w66 := b4
    have HB69 := Lib.hid (HB58.out.trans (st68.mono HB58.out.size))
    have HX70 := Lib.hid (tbox_below HX59.out st68)
    have HX71 := Lib.hid (tbox_below HX60.out st68)
    have HT72 := Lib.hid (Has.below HT61.out st68)
    have HT73 := Lib.hid (Has.below HT62.out st68)
    have HT74 := Lib.hid (Has.below HT56.out st68)
    have HL75 := Lib.hid (ChainAt.below HL63.out st68)
    clear p64_0 p64_1 p64_2 p64_3
    obtain ⟨p76_0, p76_1, p76_2, p76_3⟩ := tbox_cells HX70.out
    clear p65_0 p65_1 p65_2 p65_3
    obtain ⟨p77_0, p77_1, p77_2, p77_3⟩ := tbox_cells HX71.out
    clear st68 HB58 HX59 HX60 HT61 HT62 HT56 HL63
    clear b4
    go_wp2_with fail
    refine Calls.mono (q2 _ _ HL75.out HT67.out) ?_
    intro r w78 h5
    obtain ⟨k5, n5, s5, a5, l5, c5, rfl, hh5, b5⟩ := h5.has
    clear h5
    have HT79 := Lib.hid hh5
    clear hh5
    have st80 : Below w66.heap.size w66 w78 := b5
    have HB81 := Lib.hid (HB69.out.trans (st80.mono HB69.out.size))
    have HX82 := Lib.hid (tbox_below HX70.out st80)
    have HX83 := Lib.hid (tbox_below HX71.out st80)
    have HT84 := Lib.hid (Has.below HT72.out st80)
    have HT85 := Lib.hid (Has.below HT73.out st80)
    have HT86 := Lib.hid (Has.below HT74.out st80)
    have HT87 := Lib.hid (Has.below HT67.out st80)
    have HL88 := Lib.hid (ChainAt.below HL75.out st80)
    clear p76_0 p76_1 p76_2 p76_3
    obtain ⟨p89_0, p89_1, p89_2, p89_3⟩ := tbox_cells HX82.out
    clear p77_0 p77_1 p77_2 p77_3
    obtain ⟨p90_0, p90_1, p90_2, p90_3⟩ := tbox_cells HX83.out
    clear st80 HB69 HX70 HX71 HT72 HT73 HT74 HT67 HL75
    clear b5
    have st91 : Below w78.heap.size w78 (w78.alloc (.cells #[.int .i64 k5, .int .i64 n5, .string s5, .slice a5 l5 c5] 24)) := (Below.refl _ _).alloc (Nat.le_refl _) _
    have HB92 := Lib.hid (HB81.out.trans (st91.mono HB81.out.size))
    have HX93 := Lib.hid (tbox_below HX82.out st91)
    have HX94 := Lib.hid (tbox_below HX83.out st91)
    have HT95 := Lib.hid (Has.below HT84.out st91)
    have HT96 := Lib.hid (Has.below HT85.out st91)
    have HT97 := Lib.hid (Has.below HT86.out st91)
    have HT98 := Lib.hid (Has.below HT87.out st91)
    have HT99 := Lib.hid (Has.below HT79.out st91)
    have HL100 := Lib.hid (ChainAt.below HL88.out st91)
    clear p89_0 p89_1 p89_2 p89_3
    obtain ⟨p101_0, p101_1, p101_2, p101_3⟩ := tbox_cells HX93.out
    clear p90_0 p90_1 p90_2 p90_3
    obtain ⟨p102_0, p102_1, p102_2, p102_3⟩ := tbox_cells HX94.out
    clear st91 HB81 HX82 HX83 HT84 HT85 HT86 HT87 HT79 HL88
    have HX103 := Lib.hid (World.alloc_heap_new w78 (.cells #[.int .i64 k5, .int .i64 n5, .string s5, .slice a5 l5 c5] 24))
    obtain ⟨p104_0, p104_1, p104_2, p104_3⟩ := tbox_cells HX103.out
    have hk5 : k2 = k5 := by rw [← (has_kind HT96.out).1, ← (has_kind HT99.out).1]; exact HQ.out.2.2.2.2.2.2.1.1.symm
    have hs5 : s2 = s5 := by rw [← (has_kind HT96.out).2, ← (has_kind HT99.out).2]; exact HQ.out.2.2.2.2.2.2.1.2.1.symm
    have hl5 : l2 = l5 := by rw [← has_len HT96.out, ← has_len HT99.out]; exact HQ.out.2.2.2.2.2.2.1.2.2.1.symm
    subst hk5
    subst hs5
    subst hl5
    obtain ⟨wz, hwz0⟩ : ∃ wz, wz = (w78.alloc (.cells #[.int .i64 k2, .int .i64 n5, .string s2, .slice a5 l2 c5] 24)) := ⟨_, rfl⟩
    have hwz := Lib.hid hwz0
    clear hwz0
    have y0 : wz.heap[w.heap.size]? = some (.cells #[.int .i64 k1, .int .i64 n1, .string s1, .slice a1 l1 c1] 24 (0, 0)) := by rw [hwz.out]; exact HX93.out
    have lt0 := (Array.getElem?_eq_some_iff.1 y0).1
    obtain ⟨g0_0, g0_1, g0_2, g0_3⟩ := tbox_cells y0
    have y1 : wz.heap[w38.heap.size]? = some (.cells #[.int .i64 k2, .int .i64 n2, .string s2, .slice a2 l2 c2] 24 (0, 0)) := by rw [hwz.out]; exact HX94.out
    have lt1 := (Array.getElem?_eq_some_iff.1 y1).1
    obtain ⟨g1_0, g1_1, g1_2, g1_3⟩ := tbox_cells y1
    have y2 : wz.heap[w78.heap.size]? = some (.cells #[.int .i64 k2, .int .i64 n5, .string s2, .slice a5 l2 c5] 24 (0, 0)) := by rw [hwz.out]; exact HX103.out
    have lt2 := (Array.getElem?_eq_some_iff.1 y2).1
    obtain ⟨g2_0, g2_1, g2_2, g2_3⟩ := tbox_cells y2
    have z1 : Has wz (.agg #[.int .i64 k1, .int .i64 n1, .string s1, .slice a1 l1 c1]) A := by rw [hwz.out]; exact HT95.out
    have z2 : Has wz (.agg #[.int .i64 k2, .int .i64 n2, .string s2, .slice a2 l2 c2]) O := by rw [hwz.out]; exact HT96.out
    have z5 : Has wz (.agg #[.int .i64 k2, .int .i64 n5, .string s2, .slice a5 l2 c5]) R := by rw [hwz.out]; exact HT99.out
    have zL := hwz.out ▸ HL100.out
    have HZ := Lib.hid (show Below w.heap.size w wz by rw [hwz.out]; exact HB92.out)
    have HS : ∀ w', Below wz.heap.size wz w' → (w'.cell? ⟨w.heap.size, 0, none⟩ = some (.int .i64 k1) ∧ w'.cell? ⟨w.heap.size, 1, none⟩ = some (.int .i64 n1) ∧ w'.cell? ⟨w.heap.size, 2, none⟩ = some (.string s1) ∧ w'.cell? ⟨w.heap.size, 3, none⟩ = some (.slice a1 l1 c1) ∧ w'.cell? ⟨w38.heap.size, 0, none⟩ = some (.int .i64 k2) ∧ w'.cell? ⟨w38.heap.size, 1, none⟩ = some (.int .i64 n2) ∧ w'.cell? ⟨w38.heap.size, 2, none⟩ = some (.string s2) ∧ w'.cell? ⟨w38.heap.size, 3, none⟩ = some (.slice a2 l2 c2) ∧ w'.cell? ⟨w78.heap.size, 0, none⟩ = some (.int .i64 k2) ∧ w'.cell? ⟨w78.heap.size, 1, none⟩ = some (.int .i64 n5) ∧ w'.cell? ⟨w78.heap.size, 2, none⟩ = some (.string s2) ∧ w'.cell? ⟨w78.heap.size, 3, none⟩ = some (.slice a5 l2 c5) ∧ Below wz.heap.size wz w') := fun w' hb =>
      ⟨(hb.cell (p := ⟨_, _, none⟩) lt0).trans g0_0, (hb.cell (p := ⟨_, _, none⟩) lt0).trans g0_1, (hb.cell (p := ⟨_, _, none⟩) lt0).trans g0_2, (hb.cell (p := ⟨_, _, none⟩) lt0).trans g0_3, (hb.cell (p := ⟨_, _, none⟩) lt1).trans g1_0, (hb.cell (p := ⟨_, _, none⟩) lt1).trans g1_1, (hb.cell (p := ⟨_, _, none⟩) lt1).trans g1_2, (hb.cell (p := ⟨_, _, none⟩) lt1).trans g1_3, (hb.cell (p := ⟨_, _, none⟩) lt2).trans g2_0, (hb.cell (p := ⟨_, _, none⟩) lt2).trans g2_1, (hb.cell (p := ⟨_, _, none⟩) lt2).trans g2_2, (hb.cell (p := ⟨_, _, none⟩) lt2).trans g2_3, hb⟩
    clear y0 lt0 g0_0 g0_1 g0_2 g0_3 y1 lt1 g1_0 g1_1 g1_2 g1_3 y2 lt2 g2_0 g2_1 g2_2 g2_3 op p1 p2 q2
    go_wp2_with fail
    try rw [hX]
    try rw [hY]
    rw [← hwz.out]
    clear hX hY
    have hz := zeroTerm
    go_region_held3 (fun w' => w'.cell? ⟨w.heap.size, 0, none⟩ = some (.int .i64 k1) ∧ w'.cell? ⟨w.heap.size, 1, none⟩ = some (.int .i64 n1) ∧ w'.cell? ⟨w.heap.size, 2, none⟩ = some (.string s1) ∧ w'.cell? ⟨w.heap.size, 3, none⟩ = some (.slice a1 l1 c1) ∧ w'.cell? ⟨w38.heap.size, 0, none⟩ = some (.int .i64 k2) ∧ w'.cell? ⟨w38.heap.size, 1, none⟩ = some (.int .i64 n2) ∧ w'.cell? ⟨w38.heap.size, 2, none⟩ = some (.string s2) ∧ w'.cell? ⟨w38.heap.size, 3, none⟩ = some (.slice a2 l2 c2) ∧ w'.cell? ⟨w78.heap.size, 0, none⟩ = some (.int .i64 k2) ∧ w'.cell? ⟨w78.heap.size, 1, none⟩ = some (.int .i64 n5) ∧ w'.cell? ⟨w78.heap.size, 2, none⟩ = some (.string s2) ∧ w'.cell? ⟨w78.heap.size, 3, none⟩ = some (.slice a5 l2 c5) ∧ Below wz.heap.size wz w')
      (exact HS _ (by (repeat (first | with_reducible exact Below.refl _ _ | with_reducible apply below_al | with_reducible apply below_sc | with_reducible apply below_dr | ((with_reducible apply below_tr); (with_reducible assumption))))))
      (first
            | (go_at_call 29; (with_reducible refine Calls.mono (q3 _ _ ?_ ?_) ?_); ((with_reducible refine ChainAt.below zL ?_); (repeat (first | with_reducible exact Below.refl _ _ | with_reducible apply below_al | with_reducible apply below_dr | ((with_reducible apply below_tr); (with_reducible assumption))))); ((with_reducible refine Has.below h11 ?_); (repeat (first | with_reducible exact Below.refl _ _ | with_reducible apply below_al | with_reducible apply below_dr | ((with_reducible apply below_tr); (with_reducible assumption))))); intro r w12 h12; obtain ⟨r12, rfl, hr12, b12⟩ := h12; obtain ⟨k12, n12, s12, a12, l12, c12, ks12, rfl, -⟩ := hr12.form; (try (refine cutp (P := w12.heap[wz.heap.size]? = some (.cells #[.int .i64 0, .int .i64 0, .string (ByteArray.mk #[]), .slice none 0 0] 24 (0, 0))) ?_ ?_; (refine tbox_below (World.alloc_heap_new wz (.cells #[.int .i64 0, .int .i64 0, .string (ByteArray.mk #[]), .slice none 0 0] 24)) ?_; (repeat (first | with_reducible exact Below.refl _ _ | with_reducible apply below_al | with_reducible apply below_dr | ((with_reducible apply below_tr); (with_reducible assumption))))); intro y17; obtain ⟨y17_0, y17_1, y17_2, y17_3⟩ := tbox_cells y17; have f17 := box_free y17)); (try (refine cutp (P := w12.heap[w10.heap.size]? = some (.cells #[.int .i64 0, .int .i64 0, .string (ByteArray.mk #[]), .slice none 0 0] 24 (0, 0))) ?_ ?_; (refine tbox_below (World.alloc_heap_new w10 (.cells #[.int .i64 0, .int .i64 0, .string (ByteArray.mk #[]), .slice none 0 0] 24)) ?_; (repeat (first | with_reducible exact Below.refl _ _ | with_reducible apply below_al | with_reducible apply below_dr | ((with_reducible apply below_tr); (with_reducible assumption))))); intro y17; obtain ⟨y17_0, y17_1, y17_2, y17_3⟩ := tbox_cells y17; have f17 := box_free y17)); (try (refine cutp (P := w12.heap[w11.heap.size]? = some (.cells #[.int .i64 0, .int .i64 0, .string (ByteArray.mk #[]), .slice none 0 0] 24 (0, 0))) ?_ ?_; (refine tbox_below (World.alloc_heap_new w11 (.cells #[.int .i64 0, .int .i64 0, .string (ByteArray.mk #[]), .slice none 0 0] 24)) ?_; (repeat (first | with_reducible exact Below.refl _ _ | with_reducible apply below_al | with_reducible apply below_dr | ((with_reducible apply below_tr); (with_reducible assumption))))); intro y17; obtain ⟨y17_0, y17_1, y17_2, y17_3⟩ := tbox_cells y17; have f17 := box_free y17)))
            | (go_at_call 38; (with_reducible refine Calls.mono (p3 _ ?_) ?_); ((with_reducible refine Has.below z1 ?_); (repeat (first | with_reducible exact Below.refl _ _ | with_reducible apply below_al | with_reducible apply below_dr | ((with_reducible apply below_tr); (with_reducible assumption))))); intro r w11 h11; obtain ⟨k11, n11, s11, a11, l11, c11, rfl, h11, b11⟩ := h11.has)
            | (go_at_call 33; (with_reducible refine Calls.mono (jx _ ?_) ?_); ((with_reducible refine ChainAt.below zL ?_); (repeat (first | with_reducible exact Below.refl _ _ | with_reducible apply below_al | with_reducible apply below_dr | ((with_reducible apply below_tr); (with_reducible assumption))))); rintro r w10 ⟨rfl, b10⟩))
    all_goals
      have hZ := HS
      first
        | (refine cutp (fin_box (Y := wz) (wz := wz) ?_ ?_ b12 hr12) ?_; ((repeat (first | with_reducible exact Below.refl _ _ | with_reducible apply below_al | with_reducible apply below_dr | ((with_reducible apply below_tr); (with_reducible assumption))))); rintro ⟨hx, hHas, hBel⟩; generalize ((((w12.setCell ⟨wz.heap.size, 0, none⟩ (.int .i64 k12)).setCell ⟨wz.heap.size, 1, none⟩ (.int .i64 n12)).setCell ⟨wz.heap.size, 2, none⟩ (.string s12)).setCell ⟨wz.heap.size, 3, none⟩ (.slice a12 l12 c12)) = Wf at hx hHas hBel ⊢; generalize wz.heap.size = B17 at hx ⊢)
        | (refine cutp (fin_box (Y := w10) (wz := wz) ?_ ?_ b12 hr12) ?_; ((repeat (first | with_reducible exact Below.refl _ _ | with_reducible apply below_al | with_reducible apply below_dr | ((with_reducible apply below_tr); (with_reducible assumption))))); rintro ⟨hx, hHas, hBel⟩; generalize ((((w12.setCell ⟨w10.heap.size, 0, none⟩ (.int .i64 k12)).setCell ⟨w10.heap.size, 1, none⟩ (.int .i64 n12)).setCell ⟨w10.heap.size, 2, none⟩ (.string s12)).setCell ⟨w10.heap.size, 3, none⟩ (.slice a12 l12 c12)) = Wf at hx hHas hBel ⊢; generalize w10.heap.size = B17 at hx ⊢)
        | (refine cutp (fin_box (Y := w11) (wz := wz) ?_ ?_ b12 hr12) ?_; ((repeat (first | with_reducible exact Below.refl _ _ | with_reducible apply below_al | with_reducible apply below_dr | ((with_reducible apply below_tr); (with_reducible assumption))))); rintro ⟨hx, hHas, hBel⟩; generalize ((((w12.setCell ⟨w11.heap.size, 0, none⟩ (.int .i64 k12)).setCell ⟨w11.heap.size, 1, none⟩ (.int .i64 n12)).setCell ⟨w11.heap.size, 2, none⟩ (.string s12)).setCell ⟨w11.heap.size, 3, none⟩ (.slice a12 l12 c12)) = Wf at hx hHas hBel ⊢; generalize w11.heap.size = B17 at hx ⊢)
        | (refine cutp (fin_alloc (wz := wz) (w12 := w12) (R := R) ?_ (hr12.carry (fun _ _ => rfl) (fun b hb => hb.2))) ?_; ((repeat (first | with_reducible exact Below.refl _ _ | with_reducible apply below_al | with_reducible apply below_dr | ((with_reducible apply below_tr); (with_reducible assumption))))); rintro ⟨hx, hHas, hBel⟩; generalize (w12.alloc (.cells #[.int .i64 k12, .int .i64 n12, .string s12, .slice a12 l12 c12] 24)) = Wf at hx hHas hBel ⊢; generalize w12.heap.size = B17 at hx ⊢)
    all_goals
      clear HS
      have HS2 : ∀ w', Below Wf.heap.size Wf w' → (w'.cell? ⟨w.heap.size, 0, none⟩ = some (.int .i64 k1) ∧ w'.cell? ⟨w.heap.size, 1, none⟩ = some (.int .i64 n1) ∧ w'.cell? ⟨w.heap.size, 2, none⟩ = some (.string s1) ∧ w'.cell? ⟨w.heap.size, 3, none⟩ = some (.slice a1 l1 c1) ∧ w'.cell? ⟨w38.heap.size, 0, none⟩ = some (.int .i64 k2) ∧ w'.cell? ⟨w38.heap.size, 1, none⟩ = some (.int .i64 n2) ∧ w'.cell? ⟨w38.heap.size, 2, none⟩ = some (.string s2) ∧ w'.cell? ⟨w38.heap.size, 3, none⟩ = some (.slice a2 l2 c2) ∧ w'.cell? ⟨w78.heap.size, 0, none⟩ = some (.int .i64 k2) ∧ w'.cell? ⟨w78.heap.size, 1, none⟩ = some (.int .i64 n5) ∧ w'.cell? ⟨w78.heap.size, 2, none⟩ = some (.string s2) ∧ w'.cell? ⟨w78.heap.size, 3, none⟩ = some (.slice a5 l2 c5) ∧ w'.cell? ⟨B17, 0, none⟩ = some (.int .i64 k12) ∧ w'.cell? ⟨B17, 1, none⟩ = some (.int .i64 n12) ∧ w'.cell? ⟨B17, 2, none⟩ = some (.string s12) ∧ w'.cell? ⟨B17, 3, none⟩ = some (.slice a12 l12 c12)) := fun w' hb => by
        have h1 := hZ w' (hBel.trans (hb.mono hBel.size))
        obtain ⟨u0, u1, u2, u3⟩ := tbox_cells hx
        have lt := (Array.getElem?_eq_some_iff.1 hx).1
        exact ⟨h1.1, h1.2.1, h1.2.2.1, h1.2.2.2.1, h1.2.2.2.2.1, h1.2.2.2.2.2.1, h1.2.2.2.2.2.2.1, h1.2.2.2.2.2.2.2.1, h1.2.2.2.2.2.2.2.2.1, h1.2.2.2.2.2.2.2.2.2.1, h1.2.2.2.2.2.2.2.2.2.2.1, h1.2.2.2.2.2.2.2.2.2.2.2.1, (hb.cell (p := ⟨_, _, none⟩) lt).trans u0, (hb.cell (p := ⟨_, _, none⟩) lt).trans u1, (hb.cell (p := ⟨_, _, none⟩) lt).trans u2, (hb.cell (p := ⟨_, _, none⟩) lt).trans u3⟩
      have HF2 := Lib.hid (And.intro hBel hx)
      have yL := zL.below hBel
      have y1 := Has.below z1 hBel
      have y2 := Has.below z2 hBel
      have y5 := Has.below z5 hBel
      obtain ⟨e0_f, e1_f, e2_f, e3_f, e4_f, e5_f, e6_f, e7_f, e8_f, e9_f, e10_f, e11_f, e12_f, e13_f, e14_f, e15_f⟩ := HS2 Wf (Below.refl _ _)
      clear hBel hx z1 z2 z5 zL hZ
      have bt : ∀ (w' : World), ChainAt w' lb NN → Calls Try.prog 34 #[.pointer (some ⟨lb, 0, none⟩)] w' (Gets w' (.int .i64 0)) := fun w' hL => (ch_bottom hL).mono fun _ _ h => gets_of_reads h
      by_cases h4 : k1 = 4
      case pos =>
        have h4' : (k1 != 4) = false := by simp [h4]
        have h4'' : (k1 == 4) = true := by simp [h4]
        go_wp2_with (first
              | (go_at_call 33; (with_reducible refine Calls.mono (jm w22 ?_) ?_); ((with_reducible refine ChainAt.below yL ?_); (repeat (first | with_reducible exact Below.refl _ _ | with_reducible apply below_al | with_reducible apply below_dr | ((with_reducible apply below_tr); (with_reducible assumption))))); rintro r w23 ⟨rfl, b23⟩; obtain ⟨e0_w23, e1_w23, e2_w23, e3_w23, e4_w23, e5_w23, e6_w23, e7_w23, e8_w23, e9_w23, e10_w23, e11_w23, e12_w23, e13_w23, e14_w23, e15_w23⟩ := HS2 w23 (by (repeat (first | with_reducible exact Below.refl _ _ | with_reducible apply below_al | with_reducible apply below_dr | ((with_reducible apply below_tr); (with_reducible assumption))))))
              | (go_at_call 33; (with_reducible refine Calls.mono (jx w21 ?_) ?_); ((with_reducible refine ChainAt.below yL ?_); (repeat (first | with_reducible exact Below.refl _ _ | with_reducible apply below_al | with_reducible apply below_dr | ((with_reducible apply below_tr); (with_reducible assumption))))); rintro r w22 ⟨rfl, b22⟩; obtain ⟨e0_w22, e1_w22, e2_w22, e3_w22, e4_w22, e5_w22, e6_w22, e7_w22, e8_w22, e9_w22, e10_w22, e11_w22, e12_w22, e13_w22, e14_w22, e15_w22⟩ := HS2 w22 (by (repeat (first | with_reducible exact Below.refl _ _ | with_reducible apply below_al | with_reducible apply below_dr | ((with_reducible apply below_tr); (with_reducible assumption))))))
              | (go_at_call 21; (with_reducible refine Calls.mono (same_yes (rfl : R = R) _ _ _ ?_ ?_ oR.out) ?_); ((with_reducible refine Has.below y5 ?_); (repeat (first | with_reducible exact Below.refl _ _ | with_reducible apply below_al | with_reducible apply below_dr | ((with_reducible apply below_tr); (with_reducible assumption))))); ((with_reducible refine Has.below hHas ?_); (repeat (first | with_reducible exact Below.refl _ _ | with_reducible apply below_al | with_reducible apply below_dr | ((with_reducible apply below_tr); (with_reducible assumption))))); rintro r w21 ⟨rfl, b21⟩; obtain ⟨e0_w21, e1_w21, e2_w21, e3_w21, e4_w21, e5_w21, e6_w21, e7_w21, e8_w21, e9_w21, e10_w21, e11_w21, e12_w21, e13_w21, e14_w21, e15_w21⟩ := HS2 w21 (by (repeat (first | with_reducible exact Below.refl _ _ | with_reducible apply below_al | with_reducible apply below_dr | ((with_reducible apply below_tr); (with_reducible assumption)))))))
        go_ret
        exact ⟨rfl, below_tr (by (repeat (first | with_reducible exact Below.refl _ _ | with_reducible apply below_al | with_reducible apply below_dr | ((with_reducible apply below_tr); (with_reducible assumption))))) (HZ.out.trans (HF2.out.1.mono HZ.out.size))⟩
      have h4' : (k1 != 4) = true := by simpa using h4
      have h4'' : (k1 == 4) = false := by simpa using h4
      have hOA : (O, m) = (A, 0) := HQ.out.2.2.2.1.symm.trans (open_other (by rw [(has_kind y1).1]; exact h4))
      have hO1 := Lib.hid (congrArg Prod.fst hOA)
      have hm0 : m = 0 := congrArg Prod.snd hOA
      clear hOA
      subst hm0
      go_wp2_with (first
              | (go_at_call 21; (with_reducible refine Calls.mono (same_yes hO1.out _ _ _ ?_ ?_ oO.out) ?_); (skip; (with_reducible refine Has.below y2 ?_); (repeat (first | with_reducible exact Below.refl _ _ | with_reducible apply below_al | with_reducible apply below_dr | ((with_reducible apply below_tr); (with_reducible assumption))))); ((with_reducible refine Has.below y1 ?_); (repeat (first | with_reducible exact Below.refl _ _ | with_reducible apply below_al | with_reducible apply below_dr | ((with_reducible apply below_tr); (with_reducible assumption))))); rintro r w25 ⟨rfl, b25⟩; obtain ⟨e0_w25, e1_w25, e2_w25, e3_w25, e4_w25, e5_w25, e6_w25, e7_w25, e8_w25, e9_w25, e10_w25, e11_w25, e12_w25, e13_w25, e14_w25, e15_w25⟩ := HS2 w25 (by (repeat (first | with_reducible exact Below.refl _ _ | with_reducible apply below_al | with_reducible apply below_dr | ((with_reducible apply below_tr); (with_reducible assumption))))))
              | (go_at_call 34; (with_reducible refine Calls.mono (bt _ ?_) ?_); ((with_reducible refine ChainAt.below yL ?_); (repeat (first | with_reducible exact Below.refl _ _ | with_reducible apply below_al | with_reducible apply below_dr | ((with_reducible apply below_tr); (with_reducible assumption))))); rintro r w24 ⟨rfl, b24⟩; obtain ⟨e0_w24, e1_w24, e2_w24, e3_w24, e4_w24, e5_w24, e6_w24, e7_w24, e8_w24, e9_w24, e10_w24, e11_w24, e12_w24, e13_w24, e14_w24, e15_w24⟩ := HS2 w24 (by (repeat (first | with_reducible exact Below.refl _ _ | with_reducible apply below_al | with_reducible apply below_dr | ((with_reducible apply below_tr); (with_reducible assumption))))))
              | (go_at_call 33; (with_reducible refine Calls.mono (jm w22 ?_) ?_); ((with_reducible refine ChainAt.below yL ?_); (repeat (first | with_reducible exact Below.refl _ _ | with_reducible apply below_al | with_reducible apply below_dr | ((with_reducible apply below_tr); (with_reducible assumption))))); rintro r w23 ⟨rfl, b23⟩; obtain ⟨e0_w23, e1_w23, e2_w23, e3_w23, e4_w23, e5_w23, e6_w23, e7_w23, e8_w23, e9_w23, e10_w23, e11_w23, e12_w23, e13_w23, e14_w23, e15_w23⟩ := HS2 w23 (by (repeat (first | with_reducible exact Below.refl _ _ | with_reducible apply below_al | with_reducible apply below_dr | ((with_reducible apply below_tr); (with_reducible assumption))))))
              | (go_at_call 33; (with_reducible refine Calls.mono (jx w21 ?_) ?_); ((with_reducible refine ChainAt.below yL ?_); (repeat (first | with_reducible exact Below.refl _ _ | with_reducible apply below_al | with_reducible apply below_dr | ((with_reducible apply below_tr); (with_reducible assumption))))); rintro r w22 ⟨rfl, b22⟩; obtain ⟨e0_w22, e1_w22, e2_w22, e3_w22, e4_w22, e5_w22, e6_w22, e7_w22, e8_w22, e9_w22, e10_w22, e11_w22, e12_w22, e13_w22, e14_w22, e15_w22⟩ := HS2 w22 (by (repeat (first | with_reducible exact Below.refl _ _ | with_reducible apply below_al | with_reducible apply below_dr | ((with_reducible apply below_tr); (with_reducible assumption))))))
              | (go_at_call 21; (with_reducible refine Calls.mono (same_yes (rfl : R = R) _ _ _ ?_ ?_ oR.out) ?_); ((with_reducible refine Has.below y5 ?_); (repeat (first | with_reducible exact Below.refl _ _ | with_reducible apply below_al | with_reducible apply below_dr | ((with_reducible apply below_tr); (with_reducible assumption))))); ((with_reducible refine Has.below hHas ?_); (repeat (first | with_reducible exact Below.refl _ _ | with_reducible apply below_al | with_reducible apply below_dr | ((with_reducible apply below_tr); (with_reducible assumption))))); rintro r w21 ⟨rfl, b21⟩; obtain ⟨e0_w21, e1_w21, e2_w21, e3_w21, e4_w21, e5_w21, e6_w21, e7_w21, e8_w21, e9_w21, e10_w21, e11_w21, e12_w21, e13_w21, e14_w21, e15_w21⟩ := HS2 w21 (by (repeat (first | with_reducible exact Below.refl _ _ | with_reducible apply below_al | with_reducible apply below_dr | ((with_reducible apply below_tr); (with_reducible assumption)))))))
      go_ret
      exact ⟨rfl, below_tr (by (repeat (first | with_reducible exact Below.refl _ _ | with_reducible apply below_al | with_reducible apply below_dr | ((with_reducible apply below_tr); (with_reducible assumption))))) (HZ.out.trans (HF2.out.1.mono HZ.out.size))⟩

end Go.Proofs.Ytllggpmmcamkmaa
