/-
  order.Touch; the law OrderTouches: its walk.
-/
import Derived.Test.YtcicggpcmmnohaaOShow
import Derived.Test.YtcicggpcmmnohaaChain
import Derived.Test.YtcicggpcmmnohaaSeal5
import Derived.Deep.Cut
import Derived.Deep.DeepCutAuto
namespace Go.Proofs.Ytcicggpcmmnohaa
open Go.RowKit Go.Shelf
open Classical
set_option linter.unusedVariables false

theorem valid_er_low {N : Nat} {L : Int} (T : Tm) : T.valid L = true → T.er.jC N 0 = 0 := by
  induction T using Tm.ind with
  | h k n s ks ih =>
    intro h
    have hkid : ∀ t ∈ ks, t.valid L = true := fun t ht => by
      rw [valid_mk] at h
      simp only [Bool.and_eq_true, List.all_eq_true] at h
      exact h.2 t ht
    by_cases hw : k = 4 ∧ ks.length = 1
    · obtain ⟨t, rfl, rfl⟩ := wraps_form (n := n) (s := s) hw
      rw [Tm.er_wraps]
      exact ih t (by simp) (hkid t (by simp))
    · have hk : k ≠ 4 := fun e => hw ⟨e, by
        subst e
        rw [valid_mk, Tm.formed_eq L 4 n s ks ks.length rfl] at h
        simp only [Bool.and_eq_true] at h
        have h1 := h.1
        rw [if_neg (by decide), if_neg (by decide), if_neg (by decide), if_pos trivial] at h1
        simp only [Bool.and_eq_true, decide_eq_true_eq] at h1
        exact h1.1.2⟩
      rw [Tm.er_else hw, jC_mk, if_neg hk]
      have := jns_le (N := N) (M := 0) (ks := ks.map Tm.er) (fun t ht => by
        obtain ⟨u, hu, rfl⟩ := List.mem_map.1 ht
        rw [ih u hu (hkid u hu)]
        exact Nat.le_refl _)
      omega

set_option maxRecDepth 100000 in
set_option maxHeartbeats 4000000 in
theorem touch_at (u v : Value) (A B : Tm) (w : World) (b N : Nat) (hL : ChainAt w b N) (hN : 1 ≤ N) (hu : Has w u A) (hv : Has w v B) (hs : A.size ≤ 1000000000000) (ht : B.size ≤ 1000000000000) :
    Calls Try.prog 21 #[.pointer (some ⟨b, 0, none⟩), u, v] w (Gets w (.int .i64 ((max (A.jC N 0) (B.jC N 0) : Nat) : Int))) := by
  obtain ⟨k1, n1, s1, a1, l1, c1, ks1, rfl, e_1, -⟩ := hu.form
  obtain ⟨k2, n2, s2, a2, l2, c2, ks2, rfl, e_2, -⟩ := hv.form
  clear e_1 e_2
  have hb2 : Below w.heap.size w ((w.alloc (.cells #[.int .i64 k1, .int .i64 n1, .string s1, .slice a1 l1 c1] 24)).alloc (.cells #[.int .i64 k2, .int .i64 n2, .string s2, .slice a2 l2 c2] 24)) := ((Below.refl _ w).alloc (Nat.le_refl _) _).alloc (by simp) _
  obtain ⟨W, hW⟩ : ∃ W, W = (w.alloc (.cells #[.int .i64 k1, .int .i64 n1, .string s1, .slice a1 l1 c1] 24)).alloc (.cells #[.int .i64 k2, .int .i64 n2, .string s2, .slice a2 l2 c2] 24) := ⟨_, rfl⟩
  have x1 : W.heap[w.heap.size]? = some (.cells #[.int .i64 k1, .int .i64 n1, .string s1, .slice a1 l1 c1] 24 (0, 0)) := by rw [hW]; exact (Below.heap_alloc _ _ _ (by simp)).trans (World.alloc_heap_new _ _)
  have x2 : W.heap[w.heap.size + 1]? = some (.cells #[.int .i64 k2, .int .i64 n2, .string s2, .slice a2 l2 c2] 24 (0, 0)) := by rw [hW]; simpa using World.alloc_heap_new (w.alloc (.cells #[.int .i64 k1, .int .i64 n1, .string s1, .slice a1 l1 c1] 24)) (.cells #[.int .i64 k2, .int .i64 n2, .string s2, .slice a2 l2 c2] 24)
  rw [← hW] at hb2
  have HW := Lib.hid hW
  clear hW
  obtain ⟨I, inst, F, n0, hF0, hFb, hFc⟩ := later_family W
  have p1 := fun i => tbox_cells (tbox_below x1 (hFb i))
  have p2 := fun i => tbox_cells (tbox_below x2 (hFb i))
  have K0 := fun i => (p1 i).1
  have K1 := fun i => (p1 i).2.1
  have K2 := fun i => (p1 i).2.2.1
  have K3 := fun i => (p1 i).2.2.2
  have K4 := fun i => (p2 i).1
  have K5 := fun i => (p2 i).2.1
  have K6 := fun i => (p2 i).2.2.1
  have K7 := fun i => (p2 i).2.2.2
  have C1 := Lib.hid (fun i => calls_fam hFc i (sjoin_at _ A _ b N ((hL.below hb2).below (hFb i)) (Has.below (Has.below hu hb2) (hFb i)) hs))
  have C2 := Lib.hid (fun i => calls_fam hFc i (sjoin_at _ B _ b N ((hL.below hb2).below (hFb i)) (Has.below (Has.below hv hb2) (hFb i)) ht))
  have C3 := Lib.hid (fun i => calls_fam hFc i ((ch_join ((hL.below hb2).below (hFb i)) (x := A.jC N 0) (y := B.jC N 0) (by have := jC_le hN A; omega) (by have := jC_le hN B; omega)).mono fun _ _ h => gets_of_reads h))
  have HF := Lib.hid (And.intro hFb hb2)
  clear hFb hFc p1 p2 x1 x2 hu hv hL hb2
  go_enter Try.func21, Try.ntmps21
  go_wp2_with fail
  rw [← HW.out]
  refine wp_region_fam F n0 hF0 (by kernel_rfl) (by kernel_rfl) ?_
  clear hF0
  repeat (go_big_quiet_step (first | (go_at_call 52; (with_reducible exact C3.out _)) | (go_at_call 23; (with_reducible exact C1.out _)) | (go_at_call 23; (with_reducible exact C2.out _))))
  refine wpQuiet_nil ?_
  intro _ hw'
  obtain ⟨nq, hw''⟩ := hw'
  subst hw''
  go_wp2_with fail
  go_ret
  exact ⟨rfl, HF.out.2.trans ((HF.out.1 nq).mono HF.out.2.size)⟩

set_option maxRecDepth 100000 in
set_option maxHeartbeats 8000000 in
theorem orderTouches_at (x : Int) (u v : Value) (A B : Tm) (w : World) (hu : Has w u A) (hv : Has w v B) (hs : A.size ≤ 1000000000000) (ht : B.size ≤ 1000000000000) (hx0 : 0 ≤ x) (hx1 : x ≤ 255) :
    Calls Try.prog 5 #[.int .u8 x, u, v] w fun r w' => r = .returned (.bool true) ∧ Below w.heap.size w w' := by
  obtain ⟨k1, n1, s1, a1, l1, c1, ks1, rfl, e_1, -⟩ := hu.form
  obtain ⟨k2, n2, s2, a2, l2, c2, ks2, rfl, e_2, -⟩ := hv.form
  clear e_1 e_2
  obtain ⟨kk, hk, hk1⟩ : ∃ kk : Nat, 1 + x % 16 = (kk : Int) + 1 ∧ kk < 16 := ⟨(x % 16).toNat, by omega, by omega⟩
  have Hk := Lib.hid (And.intro hk hk1)
  clear hk hk1
  obtain ⟨qa, hqa⟩ : ∃ qa, decide (A.size ≤ 500) = qa := ⟨_, rfl⟩
  obtain ⟨qb, hqb⟩ : ∃ qb, decide (B.size ≤ 500) = qb := ⟨_, rfl⟩
  obtain ⟨ck1, hck1⟩ : ∃ ck, A.check ((kk : Int) + 1) = ck := ⟨_, rfl⟩
  obtain ⟨ck2, hck2⟩ : ∃ ck, B.check ((kk : Int) + 1) = ck := ⟨_, rfl⟩
  obtain ⟨ja, hja⟩ : ∃ j, A.jC (kk + 1) 0 = j := ⟨_, rfl⟩
  obtain ⟨jb, hjb⟩ : ∃ j, B.jC (kk + 1) 0 = j := ⟨_, rfl⟩
  obtain ⟨tt, htt⟩ : ∃ j, max ja jb = j := ⟨_, rfl⟩
  have hjl : ja < kk + 1 ∧ jb < kk + 1 := ⟨by have := jC_le (N := kk + 1) (by omega) A; omega, by have := jC_le (N := kk + 1) (by omega) B; omega⟩
  have Hj := Lib.hid (show A.jC (kk + 1) 0 = ja ∧ B.jC (kk + 1) 0 = jb ∧ max ja jb = tt ∧ ja ≤ tt ∧ jb ≤ tt ∧ ja < kk + 1 ∧ jb < kk + 1 ∧ tt < kk + 1 from ⟨hja, hjb, htt, by omega, by omega, hjl.1, hjl.2, by omega⟩)
  have Hqa := Lib.hid hqa
  have Hqb := Lib.hid hqb
  have Hck1 := Lib.hid hck1
  have Hck2 := Lib.hid hck2
  have Hs := Lib.hid (And.intro hs ht)
  have fa : ∀ w', Has w' (.agg #[.int .i64 k1, .int .i64 n1, .string s1, .slice a1 l1 c1]) A → Calls Try.prog 11 #[.agg #[.int .i64 k1, .int .i64 n1, .string s1, .slice a1 l1 c1]] w' (Gets w' (.bool qa)) := fun w' h => by rw [← Hqa.out]; exact ofew_at _ A w' h Hs.out.1
  have fb : ∀ w', Has w' (.agg #[.int .i64 k2, .int .i64 n2, .string s2, .slice a2 l2 c2]) B → Calls Try.prog 11 #[.agg #[.int .i64 k2, .int .i64 n2, .string s2, .slice a2 l2 c2]] w' (Gets w' (.bool qb)) := fun w' h => by rw [← Hqb.out]; exact ofew_at _ B w' h Hs.out.2
  clear hqa hqb hck1 hck2 hja hjb htt hjl hs ht
  have HB1 := Lib.hid (show Below w.heap.size w ((w.alloc (.cells #[.int .i64 k1, .int .i64 n1, .string s1, .slice a1 l1 c1] 24)).alloc (.cells #[.int .i64 k2, .int .i64 n2, .string s2, .slice a2 l2 c2] 24)) from (((Below.refl _ w).alloc (Nat.le_refl _) _).alloc (by first | (simp; done) | (simp; omega)) _))
  have HX2 := Lib.hid (show ((w.alloc (.cells #[.int .i64 k1, .int .i64 n1, .string s1, .slice a1 l1 c1] 24)).alloc (.cells #[.int .i64 k2, .int .i64 n2, .string s2, .slice a2 l2 c2] 24)).heap[w.heap.size]? = some (.cells #[.int .i64 k1, .int .i64 n1, .string s1, .slice a1 l1 c1] 24 (0, 0)) from ((Below.heap_alloc _ _ _ (by first | (simp; done) | (simp; omega) | omega)).trans (by simpa using World.alloc_heap_new w (.cells #[.int .i64 k1, .int .i64 n1, .string s1, .slice a1 l1 c1] 24))))
  have HT3 := Lib.hid (Has.below hu HB1.out)
  obtain ⟨p4_0, p4_1, p4_2, p4_3⟩ := tbox_cells HX2.out
  have HX5 := Lib.hid (show ((w.alloc (.cells #[.int .i64 k1, .int .i64 n1, .string s1, .slice a1 l1 c1] 24)).alloc (.cells #[.int .i64 k2, .int .i64 n2, .string s2, .slice a2 l2 c2] 24)).heap[w.heap.size + 1]? = some (.cells #[.int .i64 k2, .int .i64 n2, .string s2, .slice a2 l2 c2] 24 (0, 0)) from (by simpa using World.alloc_heap_new (w.alloc (.cells #[.int .i64 k1, .int .i64 n1, .string s1, .slice a1 l1 c1] 24)) (.cells #[.int .i64 k2, .int .i64 n2, .string s2, .slice a2 l2 c2] 24)))
  have HT6 := Lib.hid (Has.below hv HB1.out)
  obtain ⟨p7_0, p7_1, p7_2, p7_3⟩ := tbox_cells HX5.out
  clear hu hv
  go_enter Try.func5, Try.ntmps5
  go_wp2_with fail
  refine Calls.mono (oshown_at _) ?_
  rintro r w8 ⟨rfl, bw8⟩
  have st9 : Below ((w.alloc (.cells #[.int .i64 k1, .int .i64 n1, .string s1, .slice a1 l1 c1] 24)).alloc (.cells #[.int .i64 k2, .int .i64 n2, .string s2, .slice a2 l2 c2] 24)).heap.size ((w.alloc (.cells #[.int .i64 k1, .int .i64 n1, .string s1, .slice a1 l1 c1] 24)).alloc (.cells #[.int .i64 k2, .int .i64 n2, .string s2, .slice a2 l2 c2] 24)) w8 := bw8
  have HB10 := Lib.hid (HB1.out.trans (st9.mono HB1.out.size))
  have HX11 := Lib.hid (tbox_below HX2.out st9)
  have HX12 := Lib.hid (tbox_below HX5.out st9)
  have HT13 := Lib.hid (Has.below HT3.out st9)
  have HT14 := Lib.hid (Has.below HT6.out st9)
  clear p4_0 p4_1 p4_2 p4_3
  obtain ⟨p15_0, p15_1, p15_2, p15_3⟩ := tbox_cells HX11.out
  clear p7_0 p7_1 p7_2 p7_3
  obtain ⟨p16_0, p16_1, p16_2, p16_3⟩ := tbox_cells HX12.out
  clear st9 HB1 HX2 HX5 HT3 HT6
  clear bw8
  go_wp2_with fail
  rw [Hk.out.1]
  go_loopw [9, 10] (fun v i wr => ∃ j : Nat, j ≤ kk ∧ i = .int .i64 ((j : Int) + 1) ∧ OwnPairs wr w8.heap.size v (chain j) ∧ Below w8.heap.size w8 wr) (fun _ i _ => kk + 1 - (intOf i).toNat)
  case atStart => exact ⟨0, Nat.zero_le _, rfl, OwnPairs.nil _ _, Below.refl _ _⟩
  case round =>
    obtain ⟨j, hj, rfl, hown, hbr⟩ := hrel
    have hk16 := Hk.out.2
    have hl : (chain j).length ≤ 16 := by rw [chain_length]; omega
    by_cases hlt : j < kk
    · go_wp2_with (first | (at_builtin; refine wpList_append_pairs rfl _ _ rfl w8.heap.size _ (chain j) rfl (hown.alloc _) (some ⟨wr.heap.size, 0, none⟩) 1 [((j : Int), (j : Int) + 1)] 1 rfl rfl ?c1 ?c2 ?c3 ?c4 ?_))
      case c1 => exact PairsAt.lit1 wr _ _
      case c2 => intro h; cases h
      case c3 => simp; omega
      case c4 => have := hbr.size; simp; omega
      · intro v' w3 hown' hgrow
        have HO : Hid (OwnPairs w3 w8.heap.size v' (chain (j + 1))) := hown'
        have HB3 : Hid (Below w8.heap.size w8 w3) := (hbr.alloc hbr.size _).grown hgrow (by simp; have := hbr.size; omega) (OwnPairs.lt hown)
        clear hown' hgrow hown hbr
        go_wp2
        go_roundw
        case rel => exact ⟨j + 1, by omega, by go_num, HO.out, HB3.out⟩
        case measure => simp [intOf]; omega
    · obtain rfl : kk = j := by omega
      obtain ⟨sa, cap, rfl, hc1, hc2, hc3, hp⟩ := hown.pairs
      have hl2 : (chain kk).length ≤ maxLen := by unfold maxLen; omega
      have HB := Lib.hid hbr
      clear hown hbr
      go_wp2_with fail
      refine (new_at ((kk + 1 : Nat) : Int) sa cap (chain kk) wr hl2 hp).mono ?_
      rintro e w3 hpost
      obtain ⟨hb3, lb, U, D, hlb, rfl, M⟩ := NewPost.ok hpost (by have := good_chain (kk + 1) kk (by omega); simp [okArgs]; exact ⟨by omega, this⟩) (fun U D h => chain_lat hk16 h)
      have HM := Lib.hid (chain_made hk16 M)
      have bw3 : Below w8.heap.size w8 w3 := HB.out.trans (hb3.mono HB.out.size)
      clear hpost hb3 hp HB M hl hl2 hc1 hc2 hc3
      have st17 : Below w8.heap.size w8 w3 := bw3
      have HB18 := Lib.hid (HB10.out.trans (st17.mono HB10.out.size))
      have HX19 := Lib.hid (tbox_below HX11.out st17)
      have HX20 := Lib.hid (tbox_below HX12.out st17)
      have HT21 := Lib.hid (Has.below HT13.out st17)
      have HT22 := Lib.hid (Has.below HT14.out st17)
      clear p15_0 p15_1 p15_2 p15_3
      obtain ⟨p23_0, p23_1, p23_2, p23_3⟩ := tbox_cells HX19.out
      clear p16_0 p16_1 p16_2 p16_3
      obtain ⟨p24_0, p24_1, p24_2, p24_3⟩ := tbox_cells HX20.out
      clear st17 HB10 HX11 HX12 HT13 HT14
      clear bw3
      go_wp2_with fail
      refine Calls.mono (fa _ HT21.out) ?_
      rintro r w25 ⟨rfl, bw25⟩
      have st26 : Below w3.heap.size w3 w25 := bw25
      have HB27 := Lib.hid (HB18.out.trans (st26.mono HB18.out.size))
      have HX28 := Lib.hid (tbox_below HX19.out st26)
      have HX29 := Lib.hid (tbox_below HX20.out st26)
      have HT30 := Lib.hid (Has.below HT21.out st26)
      have HT31 := Lib.hid (Has.below HT22.out st26)
      have HL32 := Lib.hid (ChainAt.below HM.out st26)
      clear p23_0 p23_1 p23_2 p23_3
      obtain ⟨p33_0, p33_1, p33_2, p33_3⟩ := tbox_cells HX28.out
      clear p24_0 p24_1 p24_2 p24_3
      obtain ⟨p34_0, p34_1, p34_2, p34_3⟩ := tbox_cells HX29.out
      clear st26 HB18 HX19 HX20 HT21 HT22 HM
      clear bw25
      cases qa with
      | false =>
        go_wp2_with fail
        go_ret
        exact ⟨rfl, HB27.out⟩
      | true =>
        go_wp2_with fail
        refine Calls.mono (fb _ HT31.out) ?_
        rintro r w35 ⟨rfl, bw35⟩
        have st36 : Below w25.heap.size w25 w35 := bw35
        have HB37 := Lib.hid (HB27.out.trans (st36.mono HB27.out.size))
        have HX38 := Lib.hid (tbox_below HX28.out st36)
        have HX39 := Lib.hid (tbox_below HX29.out st36)
        have HT40 := Lib.hid (Has.below HT30.out st36)
        have HT41 := Lib.hid (Has.below HT31.out st36)
        have HL42 := Lib.hid (ChainAt.below HL32.out st36)
        clear p33_0 p33_1 p33_2 p33_3
        obtain ⟨p43_0, p43_1, p43_2, p43_3⟩ := tbox_cells HX38.out
        clear p34_0 p34_1 p34_2 p34_3
        obtain ⟨p44_0, p44_1, p44_2, p44_3⟩ := tbox_cells HX39.out
        clear st36 HB27 HX28 HX29 HT30 HT31 HL32
        clear bw35
        cases qb with
        | false =>
          go_wp2_with fail
          go_ret
          exact ⟨rfl, HB37.out⟩
        | true =>
          have hA := Lib.hid (And.intro (of_decide_eq_true Hqa.out) (of_decide_eq_true Hqb.out))
          have tAB : ∀ (u v : Value) (w' : World), ChainAt w' lb (kk + 1) → Has w' u A → Has w' v B → Calls Try.prog 21 #[.pointer (some ⟨lb, 0, none⟩), u, v] w' (Gets w' (.int .i64 (tt : Int))) := fun u v w' hL h1 h2 => by
            have h := touch_at u v A B w' lb (kk + 1) hL (by omega) h1 h2 Hs.out.1 Hs.out.2
            rwa [Hj.out.1, Hj.out.2.1, Hj.out.2.2.1] at h
          have tBA : ∀ (u v : Value) (w' : World), ChainAt w' lb (kk + 1) → Has w' u B → Has w' v A → Calls Try.prog 21 #[.pointer (some ⟨lb, 0, none⟩), u, v] w' (Gets w' (.int .i64 (tt : Int))) := fun u v w' hL h1 h2 => by
            have h := touch_at u v B A w' lb (kk + 1) hL (by omega) h1 h2 Hs.out.2 Hs.out.1
            rwa [Hj.out.1, Hj.out.2.1, Nat.max_comm, Hj.out.2.2.1] at h
          have jA : ∀ (u : Value) (w' : World), ChainAt w' lb (kk + 1) → Has w' u A → Calls Try.prog 23 #[.pointer (some ⟨lb, 0, none⟩), u] w' (Gets w' (.int .i64 (ja : Int))) := fun u w' hL h1 => by
            have h := sjoin_at u A w' lb (kk + 1) hL h1 Hs.out.1
            rwa [Hj.out.1] at h
          have jB : ∀ (u : Value) (w' : World), ChainAt w' lb (kk + 1) → Has w' u B → Calls Try.prog 23 #[.pointer (some ⟨lb, 0, none⟩), u] w' (Gets w' (.int .i64 (jb : Int))) := fun u w' hL h1 => by
            have h := sjoin_at u B w' lb (kk + 1) hL h1 Hs.out.2
            rwa [Hj.out.2.1] at h
          have qA : ∀ (w' : World), ChainAt w' lb (kk + 1) → Calls Try.prog 22 #[.pointer (some ⟨lb, 0, none⟩), .int .i64 (ja : Int), .int .i64 (tt : Int)] w' (Gets w' (.bool true)) := fun w' hL => by
            have h := (ch_leq hL (x := ja) (y := tt) Hj.out.2.2.2.2.2.1 Hj.out.2.2.2.2.2.2.2).mono fun _ _ h => gets_of_reads h
            rwa [decide_eq_true Hj.out.2.2.2.1] at h
          have qB : ∀ (w' : World), ChainAt w' lb (kk + 1) → Calls Try.prog 22 #[.pointer (some ⟨lb, 0, none⟩), .int .i64 (jb : Int), .int .i64 (tt : Int)] w' (Gets w' (.bool true)) := fun w' hL => by
            have h := (ch_leq hL (x := jb) (y := tt) Hj.out.2.2.2.2.2.2.1 Hj.out.2.2.2.2.2.2.2).mono fun _ _ h => gets_of_reads h
            rwa [decide_eq_true Hj.out.2.2.2.2.1] at h
          have kA : ∀ (u : Value) (w' : World), Has w' u A → Calls Try.prog 17 #[u, .int .i64 ((kk : Int) + 1)] w' (Gets w' (.int .i64 ck1)) := fun u w' h => by rw [← Hck1.out]; exact check_at u A ((kk : Int) + 1) w' h (by have := Hs.out.1; omega)
          have kB : ∀ (u : Value) (w' : World), Has w' u B → Calls Try.prog 17 #[u, .int .i64 ((kk : Int) + 1)] w' (Gets w' (.int .i64 ck2)) := fun u w' h => by rw [← Hck2.out]; exact check_at u B ((kk : Int) + 1) w' h (by have := Hs.out.2; omega)
          have bB : ∀ (w' : World), ChainAt w' lb (kk + 1) → Calls Try.prog 24 #[.pointer (some ⟨lb, 0, none⟩)] w' (Gets w' (.int .i64 0)) := fun w' hL => (ch_bottom hL).mono fun _ _ h => gets_of_reads h
          go_wp2_with fail
          refine Calls.mono (tAB _ _ _ HL42.out HT40.out HT41.out) ?_
          rintro r w77 ⟨rfl, bw77⟩
          have st45 : Below w35.heap.size w35 w77 := bw77
          have HB46 := Lib.hid (HB37.out.trans (st45.mono HB37.out.size))
          have HX47 := Lib.hid (tbox_below HX38.out st45)
          have HX48 := Lib.hid (tbox_below HX39.out st45)
          have HT49 := Lib.hid (Has.below HT40.out st45)
          have HT50 := Lib.hid (Has.below HT41.out st45)
          have HL51 := Lib.hid (ChainAt.below HL42.out st45)
          clear p43_0 p43_1 p43_2 p43_3
          obtain ⟨p52_0, p52_1, p52_2, p52_3⟩ := tbox_cells HX47.out
          clear p44_0 p44_1 p44_2 p44_3
          obtain ⟨p53_0, p53_1, p53_2, p53_3⟩ := tbox_cells HX48.out
          clear st45 HB37 HX38 HX39 HT40 HT41 HL42
          clear bw77
          obtain ⟨wz, hwz0⟩ : ∃ wz, wz = w77 := ⟨_, rfl⟩
          have hwz := Lib.hid hwz0
          clear hwz0
          have y0 : wz.heap[w.heap.size]? = some (.cells #[.int .i64 k1, .int .i64 n1, .string s1, .slice a1 l1 c1] 24 (0, 0)) := by rw [hwz.out]; exact HX47.out
          have lt0 := (Array.getElem?_eq_some_iff.1 y0).1
          obtain ⟨g0_0, g0_1, g0_2, g0_3⟩ := tbox_cells y0
          have y1 : wz.heap[w.heap.size + 1]? = some (.cells #[.int .i64 k2, .int .i64 n2, .string s2, .slice a2 l2 c2] 24 (0, 0)) := by rw [hwz.out]; exact HX48.out
          have lt1 := (Array.getElem?_eq_some_iff.1 y1).1
          obtain ⟨g1_0, g1_1, g1_2, g1_3⟩ := tbox_cells y1
          have z1 : Has wz (.agg #[.int .i64 k1, .int .i64 n1, .string s1, .slice a1 l1 c1]) A := by rw [hwz.out]; exact HT49.out
          have z2 : Has wz (.agg #[.int .i64 k2, .int .i64 n2, .string s2, .slice a2 l2 c2]) B := by rw [hwz.out]; exact HT50.out
          have zL := hwz.out ▸ HL51.out
          have HZ := Lib.hid (show Below w.heap.size w wz by rw [hwz.out]; exact HB46.out)
          have HS : ∀ w', Below wz.heap.size wz w' → (w'.cell? ⟨w.heap.size, 0, none⟩ = some (.int .i64 k1) ∧ w'.cell? ⟨w.heap.size, 1, none⟩ = some (.int .i64 n1) ∧ w'.cell? ⟨w.heap.size, 2, none⟩ = some (.string s1) ∧ w'.cell? ⟨w.heap.size, 3, none⟩ = some (.slice a1 l1 c1) ∧ w'.cell? ⟨w.heap.size + 1, 0, none⟩ = some (.int .i64 k2) ∧ w'.cell? ⟨w.heap.size + 1, 1, none⟩ = some (.int .i64 n2) ∧ w'.cell? ⟨w.heap.size + 1, 2, none⟩ = some (.string s2) ∧ w'.cell? ⟨w.heap.size + 1, 3, none⟩ = some (.slice a2 l2 c2) ∧ Below wz.heap.size wz w') := fun w' hb =>
            ⟨(hb.cell (p := ⟨_, _, none⟩) lt0).trans g0_0, (hb.cell (p := ⟨_, _, none⟩) lt0).trans g0_1, (hb.cell (p := ⟨_, _, none⟩) lt0).trans g0_2, (hb.cell (p := ⟨_, _, none⟩) lt0).trans g0_3, (hb.cell (p := ⟨_, _, none⟩) lt1).trans g1_0, (hb.cell (p := ⟨_, _, none⟩) lt1).trans g1_1, (hb.cell (p := ⟨_, _, none⟩) lt1).trans g1_2, (hb.cell (p := ⟨_, _, none⟩) lt1).trans g1_3, hb⟩
          clear y0 lt0 g0_0 g0_1 g0_2 g0_3 y1 lt1 g1_0 g1_1 g1_2 g1_3 fa fb tAB
          rw [← hwz.out]
          by_cases h1 : ck1 = 0
          case neg =>
            have h1c : (ck1 == 0) = false := by simpa using h1
            have h1d : (ck1 != 0) = true := by simpa using h1
            clear h1
            obtain ⟨I, inst, F, n0, hF0, hFb, hFc⟩ := later_family wz
            have K0 := fun i => (HS _ (hFb i)).1
            have K1 := fun i => (HS _ (hFb i)).2.1
            have K2 := fun i => (HS _ (hFb i)).2.2.1
            have K3 := fun i => (HS _ (hFb i)).2.2.2.1
            have K4 := fun i => (HS _ (hFb i)).2.2.2.2.1
            have K5 := fun i => (HS _ (hFb i)).2.2.2.2.2.1
            have K6 := fun i => (HS _ (hFb i)).2.2.2.2.2.2.1
            have K7 := fun i => (HS _ (hFb i)).2.2.2.2.2.2.2.1
            have C1 := Lib.hid (fun i => calls_fam hFc i (tBA _ _ _ (zL.below (hFb i)) (Has.below z2 (hFb i)) (Has.below z1 (hFb i))))
            have C2 := Lib.hid (fun i => calls_fam hFc i (jA _ _ (zL.below (hFb i)) (Has.below z1 (hFb i))))
            have C3 := Lib.hid (fun i => calls_fam hFc i (jB _ _ (zL.below (hFb i)) (Has.below z2 (hFb i))))
            have C4 := Lib.hid (fun i => calls_fam hFc i (qA _ (zL.below (hFb i))))
            have C5 := Lib.hid (fun i => calls_fam hFc i (qB _ (zL.below (hFb i))))
            have C6 := Lib.hid (fun i => calls_fam hFc i (kA _ _ (Has.below z1 (hFb i))))
            have C7 := Lib.hid (fun i => calls_fam hFc i (kB _ _ (Has.below z2 (hFb i))))
            have HF := Lib.hid hFb
            clear hFb hFc HS tBA jA jB qA qB kA kB bB z1 z2 zL
            go_wp2_with fail
            refine wp_region_fam F n0 hF0 (by kernel_rfl) (by kernel_rfl) ?_
            clear hF0
            repeat (go_big_quiet_step (first | (go_at_call 21; (with_reducible exact C1.out _)) | (go_at_call 23; (with_reducible exact C2.out _)) | (go_at_call 23; (with_reducible exact C3.out _)) | (go_at_call 22; (with_reducible exact C4.out _)) | (go_at_call 22; (with_reducible exact C5.out _)) | (go_at_call 17; (with_reducible exact C6.out _)) | (go_at_call 17; (with_reducible exact C7.out _))))
            refine wpQuiet_nil ?_
            intro _ hw'
            obtain ⟨nq, hw''⟩ := hw'
            subst hw''
            go_wp2_with fail
            go_ret
            exact ⟨rfl, HZ.out.trans ((HF.out nq).mono HZ.out.size)⟩
          have h1d : (ck1 != 0) = false := by simpa using h1
          by_cases h2 : ck2 = 0
          case neg =>
            have h2d : (ck2 != 0) = true := by simpa using h2
            clear h1 h2
            obtain ⟨I, inst, F, n0, hF0, hFb, hFc⟩ := later_family wz
            have K0 := fun i => (HS _ (hFb i)).1
            have K1 := fun i => (HS _ (hFb i)).2.1
            have K2 := fun i => (HS _ (hFb i)).2.2.1
            have K3 := fun i => (HS _ (hFb i)).2.2.2.1
            have K4 := fun i => (HS _ (hFb i)).2.2.2.2.1
            have K5 := fun i => (HS _ (hFb i)).2.2.2.2.2.1
            have K6 := fun i => (HS _ (hFb i)).2.2.2.2.2.2.1
            have K7 := fun i => (HS _ (hFb i)).2.2.2.2.2.2.2.1
            have C1 := Lib.hid (fun i => calls_fam hFc i (tBA _ _ _ (zL.below (hFb i)) (Has.below z2 (hFb i)) (Has.below z1 (hFb i))))
            have C2 := Lib.hid (fun i => calls_fam hFc i (jA _ _ (zL.below (hFb i)) (Has.below z1 (hFb i))))
            have C3 := Lib.hid (fun i => calls_fam hFc i (jB _ _ (zL.below (hFb i)) (Has.below z2 (hFb i))))
            have C4 := Lib.hid (fun i => calls_fam hFc i (qA _ (zL.below (hFb i))))
            have C5 := Lib.hid (fun i => calls_fam hFc i (qB _ (zL.below (hFb i))))
            have C6 := Lib.hid (fun i => calls_fam hFc i (kA _ _ (Has.below z1 (hFb i))))
            have C7 := Lib.hid (fun i => calls_fam hFc i (kB _ _ (Has.below z2 (hFb i))))
            have HF := Lib.hid hFb
            clear hFb hFc HS tBA jA jB qA qB kA kB bB z1 z2 zL
            go_wp2_with fail
            refine wp_region_fam F n0 hF0 (by kernel_rfl) (by kernel_rfl) ?_
            clear hF0
            repeat (go_big_quiet_step (first | (go_at_call 21; (with_reducible exact C1.out _)) | (go_at_call 23; (with_reducible exact C2.out _)) | (go_at_call 23; (with_reducible exact C3.out _)) | (go_at_call 22; (with_reducible exact C4.out _)) | (go_at_call 22; (with_reducible exact C5.out _)) | (go_at_call 17; (with_reducible exact C6.out _)) | (go_at_call 17; (with_reducible exact C7.out _))))
            refine wpQuiet_nil ?_
            intro _ hw'
            obtain ⟨nq, hw''⟩ := hw'
            subst hw''
            go_wp2_with fail
            go_ret
            exact ⟨rfl, HZ.out.trans ((HF.out nq).mono HZ.out.size)⟩
          have h2d : (ck2 != 0) = false := by simpa using h2
          have HV1 := Lib.hid (check_zero (Hck1.out.trans h1)).2.2
          have HV2 := Lib.hid (check_zero (Hck2.out.trans h2)).2.2
          clear h1 h2
          have tE : ∀ (u v : Value) (w' : World), ChainAt w' lb (kk + 1) → Has w' u A.er → Has w' v B.er → Calls Try.prog 21 #[.pointer (some ⟨lb, 0, none⟩), u, v] w' (Gets w' (.int .i64 0)) := fun u v w' hL h1 h2 => by
            have h := touch_at u v A.er B.er w' lb (kk + 1) hL (by omega) h1 h2 (Nat.le_trans A.er_size Hs.out.1) (Nat.le_trans B.er_size Hs.out.2)
            rwa [valid_er_low A HV1.out, valid_er_low B HV2.out] at h
          go_wp2_with fail
          go_region_held3 (fun w' => w'.cell? ⟨w.heap.size, 0, none⟩ = some (.int .i64 k1) ∧ w'.cell? ⟨w.heap.size, 1, none⟩ = some (.int .i64 n1) ∧ w'.cell? ⟨w.heap.size, 2, none⟩ = some (.string s1) ∧ w'.cell? ⟨w.heap.size, 3, none⟩ = some (.slice a1 l1 c1) ∧ w'.cell? ⟨w.heap.size + 1, 0, none⟩ = some (.int .i64 k2) ∧ w'.cell? ⟨w.heap.size + 1, 1, none⟩ = some (.int .i64 n2) ∧ w'.cell? ⟨w.heap.size + 1, 2, none⟩ = some (.string s2) ∧ w'.cell? ⟨w.heap.size + 1, 3, none⟩ = some (.slice a2 l2 c2) ∧ Below wz.heap.size wz w')
            (exact HS _ (by (repeat (first | with_reducible exact Below.refl _ _ | with_reducible apply below_al | with_reducible apply below_dr | ((with_reducible apply below_tr); (with_reducible assumption))))))
            (first
                  | (go_at_call 24; (with_reducible refine Calls.mono (bB _ ?_) ?_); ((with_reducible refine ChainAt.below zL ?_); (repeat (first | with_reducible exact Below.refl _ _ | with_reducible apply below_al | with_reducible apply below_dr | ((with_reducible apply below_tr); (with_reducible assumption))))); rintro r w20 ⟨rfl, b20⟩)
                  | (go_at_call 21; (have hq := h18; clear hq); (with_reducible refine Calls.mono (tE _ _ _ ?_ ?_ ?_) ?_); ((with_reducible refine ChainAt.below zL ?_); (repeat (first | with_reducible exact Below.refl _ _ | with_reducible apply below_al | with_reducible apply below_dr | ((with_reducible apply below_tr); (with_reducible assumption))))); ((with_reducible refine Has.below h17 ?_); (repeat (first | with_reducible exact Below.refl _ _ | with_reducible apply below_al | with_reducible apply below_dr | ((with_reducible apply below_tr); (with_reducible assumption))))); ((with_reducible refine Has.below h18 ?_); (repeat (first | with_reducible exact Below.refl _ _ | with_reducible apply below_al | with_reducible apply below_dr | ((with_reducible apply below_tr); (with_reducible assumption))))); rintro r w19 ⟨rfl, b19⟩)
                  | (go_at_call 19; (have hq := b17; clear hq); (with_reducible refine Calls.mono (erase_at _ B _ ?_ Hs.out.2) ?_); ((with_reducible refine Has.below z2 ?_); (repeat (first | with_reducible exact Below.refl _ _ | with_reducible apply below_al | with_reducible apply below_dr | ((with_reducible apply below_tr); (with_reducible assumption))))); intro r w18 h18; obtain ⟨k18, n18, s18, a18, l18, c18, rfl, h18, b18⟩ := h18.has)
                  | (go_at_call 19; (with_reducible refine Calls.mono (erase_at _ A _ ?_ Hs.out.1) ?_); ((with_reducible refine Has.below z1 ?_); (repeat (first | with_reducible exact Below.refl _ _ | with_reducible apply below_al | with_reducible apply below_dr | ((with_reducible apply below_tr); (with_reducible assumption))))); intro r w17 h17; obtain ⟨k17, n17, s17, a17, l17, c17, rfl, h17, b17⟩ := h17.has)
                  | (go_at_call 17; (have hq := b15; clear hq); (with_reducible refine Calls.mono (kB _ _ ?_) ?_); ((with_reducible refine Has.below z2 ?_); (repeat (first | with_reducible exact Below.refl _ _ | with_reducible apply below_al | with_reducible apply below_dr | ((with_reducible apply below_tr); (with_reducible assumption))))); rintro r w16 ⟨rfl, b16⟩)
                  | (go_at_call 17; (with_reducible refine Calls.mono (kA _ _ ?_) ?_); ((with_reducible refine Has.below z1 ?_); (repeat (first | with_reducible exact Below.refl _ _ | with_reducible apply below_al | with_reducible apply below_dr | ((with_reducible apply below_tr); (with_reducible assumption))))); rintro r w15 ⟨rfl, b15⟩)
                  | (go_at_call 22; (have hq := b13; clear hq); (with_reducible refine Calls.mono (qB _ ?_) ?_); ((with_reducible refine ChainAt.below zL ?_); (repeat (first | with_reducible exact Below.refl _ _ | with_reducible apply below_al | with_reducible apply below_dr | ((with_reducible apply below_tr); (with_reducible assumption))))); rintro r w14 ⟨rfl, b14⟩)
                  | (go_at_call 23; (have hq := b12; clear hq); (with_reducible refine Calls.mono (jB _ _ ?_ ?_) ?_); ((with_reducible refine ChainAt.below zL ?_); (repeat (first | with_reducible exact Below.refl _ _ | with_reducible apply below_al | with_reducible apply below_dr | ((with_reducible apply below_tr); (with_reducible assumption))))); ((with_reducible refine Has.below z2 ?_); (repeat (first | with_reducible exact Below.refl _ _ | with_reducible apply below_al | with_reducible apply below_dr | ((with_reducible apply below_tr); (with_reducible assumption))))); rintro r w13 ⟨rfl, b13⟩)
                  | (go_at_call 22; (with_reducible refine Calls.mono (qA _ ?_) ?_); ((with_reducible refine ChainAt.below zL ?_); (repeat (first | with_reducible exact Below.refl _ _ | with_reducible apply below_al | with_reducible apply below_dr | ((with_reducible apply below_tr); (with_reducible assumption))))); rintro r w12 ⟨rfl, b12⟩)
                  | (go_at_call 23; (with_reducible refine Calls.mono (jA _ _ ?_ ?_) ?_); ((with_reducible refine ChainAt.below zL ?_); (repeat (first | with_reducible exact Below.refl _ _ | with_reducible apply below_al | with_reducible apply below_dr | ((with_reducible apply below_tr); (with_reducible assumption))))); ((with_reducible refine Has.below z1 ?_); (repeat (first | with_reducible exact Below.refl _ _ | with_reducible apply below_al | with_reducible apply below_dr | ((with_reducible apply below_tr); (with_reducible assumption))))); rintro r w11 ⟨rfl, b11⟩)
                  | (go_at_call 21; (with_reducible refine Calls.mono (tBA _ _ _ ?_ ?_ ?_) ?_); ((with_reducible refine ChainAt.below zL ?_); (repeat (first | with_reducible exact Below.refl _ _ | with_reducible apply below_al | with_reducible apply below_dr | ((with_reducible apply below_tr); (with_reducible assumption))))); ((with_reducible refine Has.below z2 ?_); (repeat (first | with_reducible exact Below.refl _ _ | with_reducible apply below_al | with_reducible apply below_dr | ((with_reducible apply below_tr); (with_reducible assumption))))); ((with_reducible refine Has.below z1 ?_); (repeat (first | with_reducible exact Below.refl _ _ | with_reducible apply below_al | with_reducible apply below_dr | ((with_reducible apply below_tr); (with_reducible assumption))))); rintro r w10 ⟨rfl, b10⟩))
          all_goals
            go_wp2_with fail
            go_ret
            exact ⟨rfl, below_tr (by (repeat (first | with_reducible exact Below.refl _ _ | with_reducible apply below_al | with_reducible apply below_dr | ((with_reducible apply below_tr); (with_reducible assumption))))) HZ.out⟩

end Go.Proofs.Ytcicggpcmmnohaa
