/-
  What the laws of layer 12 begin with: tests, values of two numbers, the document's examples.
-/
import Derived.Test.YtfjnajngelemkaaZArFn2
import Derived.Test.YtfjnajngelemkaaZUniIn2
import Derived.Deep.DeepCutAuto
namespace Go.Proofs.Ytfjnajngelemkaa
open Go.RowKit Go.Shelf
open Classical
set_option linter.unusedVariables false
set_option linter.unusedSimpArgs false

set_option maxRecDepth 100000 in
set_option maxHeartbeats 1000000 in
/-- torcherelaw12.chain, and latt.New of what it gives. -/
theorem chain12_at (k : Nat) (w : World) (hk1 : k < 16) : Calls Try.prog 28 #[.int .i64 ((k : Int) + 1)] w fun e w' =>
    ∃ v, e = .returned v ∧ OwnPairs w' w.heap.size v (chain k) ∧ Below w.heap.size w w' := by
  go_enter Try.func28, Try.ntmps28
  go_wp2_with fail
  go_loopw [3, 4] (fun v i wr => ∃ j : Nat, j ≤ k ∧ i = .int .i64 ((j : Int) + 1) ∧ OwnPairs wr w.heap.size v (chain j) ∧ Below w.heap.size w wr) (fun _ i _ => k + 1 - (intOf i).toNat)
  case atStart => exact ⟨0, Nat.zero_le _, rfl, OwnPairs.nil _ _, Below.refl _ _⟩
  case round =>
    obtain ⟨j, hj, rfl, hown, hbr⟩ := hrel
    have hl : (chain j).length ≤ 16 := by rw [chain_length]; omega
    by_cases hlt : j < k
    · go_wp2_with (first | (at_builtin; refine wpList_append_pairs rfl _ _ rfl w.heap.size _ (chain j) rfl (hown.alloc _) (some ⟨wr.heap.size, 0, none⟩) 1 [((j : Int), (j : Int) + 1)] 1 rfl rfl ?c1 ?c2 ?c3 ?c4 ?_))
      case c1 => exact PairsAt.lit1 wr _ _
      case c2 => intro h; cases h
      case c3 => simp; omega
      case c4 => have := hbr.size; simp; omega
      · intro v' w3 hown' hgrow
        have HO : Hid (OwnPairs w3 w.heap.size v' (chain (j + 1))) := hown'
        have HB3 : Hid (Below w.heap.size w w3) := (hbr.alloc hbr.size _).grown hgrow (by simp; have := hbr.size; omega) (OwnPairs.lt hown)
        clear hown' hgrow hown hbr
        go_wp2
        go_roundw
        case rel => exact ⟨j + 1, by omega, by go_num, HO.out, HB3.out⟩
        case measure => simp [intOf]; omega
    · obtain rfl : k = j := by omega
      have HO := Lib.hid (And.intro hown hbr)
      obtain ⟨sa, cap, rfl, -⟩ := hown.pairs
      clear hown hbr
      go_wp2_with fail
      go_ret
      exact ⟨_, rfl, HO.out.1, HO.out.2⟩
set_option maxRecDepth 100000 in
set_option maxHeartbeats 4000000 in
theorem few12_at (v : Value) (T : Tm) (w : World) (hv : Has w v T) (hs : T.size ≤ 1000000000000) :
    Calls Try.prog 30 #[v] w (Gets w (.bool (decide (T.size ≤ 300)))) := by
  obtain ⟨k, n, s, a, len, cap, ks, rfl, e, -⟩ := hv.form
  clear e
  have hb : Below w.heap.size w (w.alloc (.cells #[.int .i64 k, .int .i64 n, .string s, .slice a len cap] 24)) := (Below.refl _ w).alloc (Nat.le_refl _) _
  have h := (rsize_at T _ _ (Has.below hv hb) hs).mono (R' := Gets w (.int .i64 (T.size : Int))) (fun e w2 h => ⟨h.1, hb.trans (h.2.mono hb.size)⟩)
  clear hv hb
  go_enter Try.func30, Try.ntmps30
  go_wp2_with (go_at_call 63; refine h.mono ?_; clear h; rintro e w2 ⟨rfl, hB⟩)
  go_ret
  refine ⟨congrArg (fun b => Ending.returned (Value.bool b)) ?_, hB⟩
  rw [Bool.eq_iff_iff]
  simp
  omega


/-- What Test answers. -/
noncomputable def atest (s : ByteArray) (a b : Int) : Bool × Bool := if s = ByteArray.mk #[60] then (decide (a < b), true) else if s = ByteArray.mk #[62] then (decide (a > b), true) else if s = ByteArray.mk #[61, 60] then (decide (a ≤ b), true) else if s = ByteArray.mk #[62, 61] then (decide (a ≥ b), true) else if s = ByteArray.mk #[61, 58, 61] then ((a == b), true) else if s = ByteArray.mk #[61, 92, 61] then ((a != b), true) else (false, false)
set_option maxRecDepth 100000 in
set_option maxHeartbeats 2000000 in
theorem test_at (s : ByteArray) (a b : Int) (w : World) : Calls Try.prog 37 #[.string s, .int .i64 a, .int .i64 b] w fun e w' => e = .returned (.tuple #[.bool (atest s a b).1, .bool (atest s a b).2]) ∧ w' = w := by
  by_cases h0 : s = ByteArray.mk #[60]
  · have hv : atest s a b = (decide (a < b), true) := by unfold atest; rw [if_pos h0]
    rw [hv]
    clear hv
    subst h0
    go_enter Try.func37, Try.ntmps37
    go_wp2_with fail
    exact bodyPost_ret (v := .tuple #[.bool (decide (a < b)), .bool true]) (by simp [results, Try.f37, go_sem]) rfl ⟨rfl, rfl⟩
  by_cases h1 : s = ByteArray.mk #[62]
  · have hv : atest s a b = (decide (a > b), true) := by unfold atest; rw [if_neg h0]; rw [if_pos h1]
    rw [hv]
    clear hv
    subst h1
    clear h0
    go_enter Try.func37, Try.ntmps37
    go_wp2_with fail
    exact bodyPost_ret (v := .tuple #[.bool (decide (a > b)), .bool true]) (by simp [results, Try.f37, go_sem]) rfl ⟨rfl, rfl⟩
  by_cases h2 : s = ByteArray.mk #[61, 60]
  · have hv : atest s a b = (decide (a ≤ b), true) := by unfold atest; rw [if_neg h0]; rw [if_neg h1]; rw [if_pos h2]
    rw [hv]
    clear hv
    subst h2
    clear h0
    clear h1
    go_enter Try.func37, Try.ntmps37
    go_wp2_with fail
    exact bodyPost_ret (v := .tuple #[.bool (decide (a ≤ b)), .bool true]) (by simp [results, Try.f37, go_sem]) rfl ⟨rfl, rfl⟩
  by_cases h3 : s = ByteArray.mk #[62, 61]
  · have hv : atest s a b = (decide (a ≥ b), true) := by unfold atest; rw [if_neg h0]; rw [if_neg h1]; rw [if_neg h2]; rw [if_pos h3]
    rw [hv]
    clear hv
    subst h3
    clear h0
    clear h1
    clear h2
    go_enter Try.func37, Try.ntmps37
    go_wp2_with fail
    exact bodyPost_ret (v := .tuple #[.bool (decide (a ≥ b)), .bool true]) (by simp [results, Try.f37, go_sem]) rfl ⟨rfl, rfl⟩
  by_cases h4 : s = ByteArray.mk #[61, 58, 61]
  · have hv : atest s a b = ((a == b), true) := by unfold atest; rw [if_neg h0]; rw [if_neg h1]; rw [if_neg h2]; rw [if_neg h3]; rw [if_pos h4]
    rw [hv]
    clear hv
    subst h4
    clear h0
    clear h1
    clear h2
    clear h3
    go_enter Try.func37, Try.ntmps37
    go_wp2_with fail
    exact bodyPost_ret (v := .tuple #[.bool ((a == b)), .bool true]) (by simp [results, Try.f37, go_sem]) rfl ⟨rfl, rfl⟩
  by_cases h5 : s = ByteArray.mk #[61, 92, 61]
  · have hv : atest s a b = ((a != b), true) := by unfold atest; rw [if_neg h0]; rw [if_neg h1]; rw [if_neg h2]; rw [if_neg h3]; rw [if_neg h4]; rw [if_pos h5]
    rw [hv]
    clear hv
    subst h5
    clear h0
    clear h1
    clear h2
    clear h3
    clear h4
    go_enter Try.func37, Try.ntmps37
    go_wp2_with fail
    exact bodyPost_ret (v := .tuple #[.bool ((a != b)), .bool true]) (by simp [results, Try.f37, go_sem]) rfl ⟨rfl, rfl⟩
  have hv : atest s a b = (false, false) := by unfold atest; rw [if_neg h0]; rw [if_neg h1]; rw [if_neg h2]; rw [if_neg h3]; rw [if_neg h4]; rw [if_neg h5]
  rw [hv]
  clear hv
  have d0 : (s.toList == [60]) = false := name_ne h0
  have d1 : (s.toList == [62]) = false := name_ne h1
  have d2 : (s.toList == [61, 60]) = false := name_ne h2
  have d3 : (s.toList == [62, 61]) = false := name_ne h3
  have d4 : (s.toList == [61, 58, 61]) = false := name_ne h4
  have d5 : (s.toList == [61, 92, 61]) = false := name_ne h5
  clear h0 h1 h2 h3 h4 h5
  go_enter Try.func37, Try.ntmps37
  go_wp2_with fail
  exact bodyPost_ret (v := .tuple #[.bool false, .bool false]) (by simp [results, Try.f37, go_sem]) rfl ⟨rfl, rfl⟩

/-- A store without variables. -/
abbrev σ0 : St := ⟨[], []⟩
theorem σ0_fin (T : Tm) : σ0.fin T = T := by
  refine St.fin_free ?_
  cases h : σ0.val T with
  | none => rfl
  | some U =>
    obtain ⟨_, x, _, hx⟩ := St.val_some h
    have hx : ([] : List (Option Tm))[x]? = some (some U) := hx
    simp at hx
/-- A name of two numbers. -/
def nums2 (s : ByteArray) (x y : Int) : Tm := .mk 3 0 s [.mk 2 x e0 [], .mk 2 y e0 []]
noncomputable def evN (s : ByteArray) (x y : Int) : ER := σ0.evl 1 2000 2000 0 (nums2 s x y)
theorem evN_eq {s : ByteArray} {o : A2} (h : a2 s = some o) (N : Nat) (σ : St) (x y : Int) : σ.evl N 2000 2000 0 (nums2 s x y) = fin1 (o.run x y) 0 1997 := by
  unfold nums2
  rw [show (2000 : Nat) = 1998 + 1 + 1 from rfl, evl_fun _ _ _ _ _ _ _ _ (by decide)]
  simp only [evF, h, evl_num _ _ _ _ _ _ _ _ (show (1998 + 1 + 1 - 1 : Nat) ≠ 0 by decide), ER.next]
  rw [evl_num _ _ _ _ _ _ _ _ (by decide)]
theorem size2 (s : ByteArray) (x y : Int) : (nums2 s x y).size = 3 := by
  unfold nums2; rw [Tm.size_mk, Tm.sizes_cons, Tm.sizes_cons, Tm.sizes_nil, Tm.size_mk, Tm.size_mk, Tm.sizes_nil]
theorem sizes2 (x y : Int) : Tm.sizes [.mk 2 x e0 [], .mk 2 y e0 []] ≤ 1000000000000 := by
  rw [Tm.sizes_cons, Tm.sizes_cons, Tm.sizes_nil, Tm.size_mk, Tm.size_mk, Tm.sizes_nil]; omega
set_option maxRecDepth 100000 in
set_option maxHeartbeats 4000000 in
theorem aev_at (s : ByteArray) (x y : Int) (hs : s.size ≤ maxLen) (hx : i64ok x) (hy : i64ok y) (w : World) : Calls Try.prog 35 #[.string s, .int .i64 x, .int .i64 y] w fun e w' => e = .returned (.tuple #[.int .i64 (evN s x y).num, .int .i64 (evN s x y).err]) ∧ Below w.heap.size w w' := by
  have HX := Lib.hid (And.intro hs (And.intro hx hy))
  clear hs hx hy
  go_enter Try.func35, Try.ntmps35
  go_wp2_with fail
  refine (latt11_at 0 (.slice none 0 0) w w (by decide) (OwnPairs.nil _ _)).mono ?_
  rintro e w2 ⟨lb, rfl, hL2, hb2⟩
  go_wp2_with fail
  refine (new_at10 w2 w.heap.size hb2.size).mono ?_
  rintro e w3 ⟨rfl, hB3, hlt3, hS3⟩
  have H3 := Lib.hid (And.intro hS3 (And.intro (hL2.below hB3) (hb2.trans (hB3.mono hb2.size))))
  clear hS3 hL2 hB3 hlt3 hb2
  go_wp2_with fail
  refine (num_at x w3 HX.out.2.1).mono ?_
  intro e w4 h4
  obtain ⟨k1, n1, s1, a1, l1, c1, rfl, hN4, hb4⟩ := h4.has2
  have H4 := Lib.hid (And.intro (has_new hN4) hb4)
  clear h4 hN4 hb4
  go_wp2_with fail
  refine (num_at y w4 HX.out.2.2).mono ?_
  intro e w5 h5
  obtain ⟨k2, n2, s2, a2, l2, c2, rfl, hN5, hb5⟩ := h5.has2
  have H5 := Lib.hid (And.intro (Has.below H4.out.1 hb5) (And.intro (has_new hN5) (H4.out.2.trans (hb5.mono H4.out.2.size))))
  clear h5 hN5 hb5 H4
  go_wp2_with fail
  refine (make_at s _ [.mk 2 x e0 [], .mk 2 y e0 []] _ HX.out.1 (two_terms H5.out.1 H5.out.2.1) (sizes2 x y)).mono ?_
  intro e w7 h7
  obtain ⟨k3, n3, s3, a3, l3, c3, rfl, hN7, hb7⟩ := h7.has2
  have H7 := Lib.hid (And.intro (show Has w7 _ (nums2 s x y) from has_new hN7) (H5.out.2.2.trans (((Below.refl _ _).alloc (Nat.le_refl _) _ |>.trans (hb7.mono (by simp))).mono H5.out.2.2.size)))
  clear h7 hN7 hb7 H5
  go_wp2_with fail
  refine (aeval_at (H3.out.1.step H7.out.2) (H3.out.2.1.below H7.out.2) _ _ H7.out.1 (by rw [size2]; omega)).mono ?_
  rintro e w8 ⟨rfl, hb8⟩
  have H8 := Lib.hid (H3.out.2.2.trans ((H7.out.2.trans (hb8.mono H7.out.2.size)).mono H3.out.2.2.size))
  clear hb8 H7 H3
  go_wp2_with fail
  exact bodyPost_ret (v := .tuple #[.int .i64 (evN s x y).num, .int .i64 (evN s x y).err]) (by simp [results, Try.f35, go_sem]; exact ⟨rfl, rfl⟩) rfl ⟨rfl, H8.out⟩
theorem a2_add : a2 (ByteArray.mk #[43]) = some .add := by unfold a2; rw [if_pos rfl]
theorem a2_sub : a2 (ByteArray.mk #[45]) = some .sub := by unfold a2; rw [if_neg (by decide), if_pos rfl]
theorem a2_mul : a2 (ByteArray.mk #[42]) = some .mul := by unfold a2; rw [if_neg (by decide), if_neg (by decide), if_pos rfl]
theorem a2_quo : a2 (ByteArray.mk #[47, 47]) = some .quo := by unfold a2; rw [if_neg (by decide), if_neg (by decide), if_neg (by decide), if_pos rfl]
theorem a2_rem : a2 (ByteArray.mk #[109, 111, 100]) = some .rem := by unfold a2; rw [if_neg (by decide), if_neg (by decide), if_neg (by decide), if_neg (by decide), if_pos rfl]
theorem a1_neg : a1 (ByteArray.mk #[45]) = some .neg := by unfold a1; rw [if_pos rfl]
theorem a1_abs : a1 (ByteArray.mk #[97, 98, 115]) = some .abs := by unfold a1; rw [if_neg (by decide), if_pos rfl]
/-- The document's example: a number that is sealed, divided. -/
def exQ : Tm := .mk 3 0 (ByteArray.mk #[47, 47]) [putT (.mk 2 7 e0 []) 1, .mk 2 (-2) e0 []]
theorem exQ_run : σ0.evl 2 2000 2000 0 exQ = .ok (-3) 1 1997 := by
  unfold exQ
  rw [show (2000 : Nat) = 1998 + 1 + 1 from rfl, evl_fun _ _ _ _ _ _ _ _ (by decide)]
  have h1 : σ0.evl 2 (1998 + 1) (1998 + 1 + 1 - 1) 0 (putT (.mk 2 7 e0 []) 1) = .ok 7 1 1998 := by
    rw [evl_succ _ _ _ _ _ _ (by decide), σ0_fin, insp_pos (X := putT (.mk 2 7 e0 []) 1) rfl]
    unfold putT
    rw [Tm.strip_wraps, Tm.strip_else (fun e => absurd e.1 (by decide))]
    rfl
  simp only [evF, a2_quo, h1, ER.next]
  rw [evl_num _ _ _ _ _ _ _ _ (by decide)]
  rfl
theorem exR_run : σ0.evl 2 2000 2000 0 (nums2 (ByteArray.mk #[109, 111, 100]) (-7) 2) = .ok 1 0 1997 := by
  rw [evN_eq a2_rem]
  rfl
set_option maxRecDepth 100000 in
set_option maxHeartbeats 8000000 in
theorem shown12_at (w : World) : Calls Try.prog 27 #[] w (Gets w (.bool true)) := by
  go_enter Try.func27, Try.ntmps27
  go_wp2_with fail
  refine (chain12_at 1 w (by decide)).mono ?_
  rintro e w1 ⟨v1, rfl, hO1, hb1⟩
  go_wp2_with fail
  refine (latt11_at 1 v1 w w1 (by decide) hO1).mono ?_
  rintro e w2 ⟨lb, rfl, hL2, hb2⟩
  have H2 := Lib.hid (And.intro hL2 (hb1.trans (hb2.mono hb1.size)))
  clear hO1 hb1 hb2 hL2
  go_wp2_with fail
  refine (new_at10 w2 w.heap.size H2.out.2.size).mono ?_
  rintro e w3 ⟨rfl, hB3, hlt3, hS3⟩
  have H3 := Lib.hid (And.intro hS3 (And.intro (H2.out.1.below hB3) (H2.out.2.trans (hB3.mono H2.out.2.size))))
  clear hS3 hB3 hlt3 H2
  go_wp2_with fail
  refine (num_at 7 w3 ⟨by decide, by decide⟩).mono ?_
  intro e w4 h4
  obtain ⟨k1, n1, s1, a1, l1, c1, rfl, hN4, hb4⟩ := h4.has2
  have H4 := Lib.hid (And.intro (has_new hN4) hb4)
  clear h4 hN4 hb4
  go_wp2_with fail
  refine (put_at _ (.mk 2 7 e0 []) 1 w4 ⟨by decide, by decide⟩ H4.out.1 (by rw [Tm.size_mk, Tm.sizes_nil]; omega)).mono ?_
  intro e w5 h5
  obtain ⟨k2, n2, s2, a2, l2, c2, rfl, hN5, hb5⟩ := h5.has2
  have H5 := Lib.hid (And.intro (has_new hN5) (H4.out.2.trans (hb5.mono H4.out.2.size)))
  clear h5 hN5 hb5 H4
  go_wp2_with fail
  refine (num_at (-2) w5 ⟨by decide, by decide⟩).mono ?_
  intro e w6 h6
  obtain ⟨k3, n3, s3, a3, l3, c3, rfl, hN6, hb6⟩ := h6.has2
  have H6 := Lib.hid (And.intro (Has.below H5.out.1 hb6) (And.intro (has_new hN6) (H5.out.2.trans (hb6.mono H5.out.2.size))))
  clear h6 hN6 hb6 H5
  go_wp2_with fail
  refine (make_at (ByteArray.mk #[47, 47]) _ [putT (.mk 2 7 e0 []) 1, .mk 2 (-2) e0 []] _ (by decide) (two_terms H6.out.1 H6.out.2.1) (by unfold putT; rw [Tm.sizes_cons, Tm.sizes_cons, Tm.sizes_nil, Tm.size_mk, Tm.size_mk, Tm.sizes_cons, Tm.sizes_nil, Tm.size_mk, Tm.sizes_nil]; omega)).mono ?_
  intro e w7 h7
  obtain ⟨k4, n4, s4, a4, l4, c4, rfl, hN7, hb7⟩ := h7.has2
  have H7 := Lib.hid (And.intro (show Has w7 _ exQ from has_new hN7) (H6.out.2.2.trans (((Below.refl _ _).alloc (Nat.le_refl _) _ |>.trans (hb7.mono (by simp))).mono H6.out.2.2.size)))
  clear h7 hN7 hb7 H6
  go_wp2_with fail
  refine (aeval_at (H3.out.1.step H7.out.2) (H3.out.2.1.below H7.out.2) _ _ H7.out.1 (by unfold exQ putT; rw [Tm.size_mk, Tm.sizes_cons, Tm.sizes_cons, Tm.sizes_nil, Tm.size_mk, Tm.size_mk, Tm.sizes_cons, Tm.sizes_nil, Tm.size_mk, Tm.sizes_nil]; omega)).mono ?_
  rw [exQ_run]
  rintro e w8 ⟨rfl, hb8⟩
  have H8 := Lib.hid (H7.out.2.trans (hb8.mono H7.out.2.size))
  clear hb8 H7
  go_wp2_with fail
  refine (num_at (-7) w8 ⟨by decide, by decide⟩).mono ?_
  intro e w9 h9
  obtain ⟨k5, n5, s5, a5, l5, c5, rfl, hN9, hb9⟩ := h9.has2
  have H9 := Lib.hid (And.intro (has_new hN9) (H8.out.trans (hb9.mono H8.out.size)))
  clear h9 hN9 hb9 H8
  go_wp2_with fail
  refine (num_at 2 w9 ⟨by decide, by decide⟩).mono ?_
  intro e w10 h10
  obtain ⟨k6, n6, s6, a6, l6, c6, rfl, hN10, hb10⟩ := h10.has2
  have H10 := Lib.hid (And.intro (Has.below H9.out.1 hb10) (And.intro (has_new hN10) (H9.out.2.trans (hb10.mono H9.out.2.size))))
  clear h10 hN10 hb10 H9
  go_wp2_with fail
  refine (make_at (ByteArray.mk #[109, 111, 100]) _ [.mk 2 (-7) e0 [], .mk 2 2 e0 []] _ (by decide) (two_terms H10.out.1 H10.out.2.1) (sizes2 _ _)).mono ?_
  intro e w11 h11
  obtain ⟨k7, n7, s7, a7, l7, c7, rfl, hN11, hb11⟩ := h11.has2
  have H11 := Lib.hid (And.intro (show Has w11 _ (nums2 (ByteArray.mk #[109, 111, 100]) (-7) 2) from has_new hN11) (H10.out.2.2.trans (((Below.refl _ _).alloc (Nat.le_refl _) _ |>.trans (hb11.mono (by simp))).mono H10.out.2.2.size)))
  clear h11 hN11 hb11 H10
  go_wp2_with fail
  refine (aeval_at (H3.out.1.step H11.out.2) (H3.out.2.1.below H11.out.2) _ _ H11.out.1 (by rw [size2]; omega)).mono ?_
  rw [exR_run]
  rintro e w12 ⟨rfl, hb12⟩
  have H12 := Lib.hid (H3.out.2.2.trans ((H11.out.2.trans (hb12.mono H11.out.2.size)).mono H3.out.2.2.size))
  clear hb12 H11 H3
  go_wp2_with fail
  refine (test_at (ByteArray.mk #[61, 60]) 3 3 w12).mono ?_
  rw [show atest (ByteArray.mk #[61, 60]) 3 3 = (true, true) by unfold atest; rw [if_neg (by decide), if_neg (by decide), if_pos rfl]; rfl]
  rintro e w13 ⟨rfl, rfl⟩
  go_wp2_with fail
  go_ret
  exact ⟨rfl, H12.out⟩
end Go.Proofs.Ytfjnajngelemkaa

namespace Go.Proofs.Ytfjnajngelemkaa
open Go.RowKit Go.Shelf
open Classical
set_option linter.unusedVariables false
set_option linter.unusedSimpArgs false

def vnum : Option Int → Int
  | some m => m
  | none => 0
def verr : Option Int → Int
  | some _ => 0
  | none => 10
theorem ev_of {s : ByteArray} {o : A2} (h : a2 s = some o) (x y : Int) (hs : s.size ≤ maxLen) (hx : i64ok x) (hy : i64ok y) (w : World) : Calls Try.prog 35 #[.string s, .int .i64 x, .int .i64 y] w fun e w' => e = .returned (.tuple #[.int .i64 (vnum (o.run x y)), .int .i64 (verr (o.run x y))]) ∧ Below w.heap.size w w' := by
  have h1 := aev_at s x y hs hx hy w
  unfold evN at h1
  rw [evN_eq h] at h1
  cases ho : o.run x y with
  | none => rw [ho] at h1; exact h1
  | some m => rw [ho] at h1; exact h1

end Go.Proofs.Ytfjnajngelemkaa
