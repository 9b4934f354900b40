/-
  The law TermChecks: its walk.
-/
import Derived.Test.YtmbikojjhdildaaShown
import Derived.Test.YtmbikojjhdildaaOwnI
namespace Go.Proofs.Ytmbikojjhdildaa
open Go.RowKit Go.Shelf
set_option linter.unusedVariables false

theorem validL_append (L : Int) (l r : List (Nat × Tm)) : validL L (l ++ r) = (validL L l && validL L r) := by simp [validL]
theorem validL_partss (L : Int) (d e : Nat) : ∀ ks : List Tm, (∀ t ∈ ks, ∀ d e, validL L (t.parts d) = validL L (t.parts e)) → validL L (Tm.partss d ks) = validL L (Tm.partss e ks)
  | [], _ => by simp [Tm.partss_nil]
  | t :: ts, h => by rw [Tm.partss_cons, Tm.partss_cons, validL_append, validL_append, h t (by simp) d e, validL_partss L d e ts fun u hu => h u (by simp [hu])]
theorem validL_parts (L : Int) (T : Tm) : ∀ d e, validL L (T.parts d) = validL L (T.parts e) := by
  induction T using Tm.ind with
  | h k n s ks ih =>
    intro d e
    rw [Tm.parts_mk, Tm.parts_mk]
    show validL L ([(d, Tm.mk k n s ks)] ++ _) = validL L ([(e, Tm.mk k n s ks)] ++ _)
    rw [validL_append, validL_append, validL_partss L (d + 1) (e + 1) ks ih]
    rfl
theorem validL_kids (L : Int) (d : Nat) : ∀ ks : List Tm, validL L (Tm.partss d ks) = ks.all (Tm.valid L)
  | [] => by simp [Tm.partss_nil, validL]
  | t :: ts => by rw [Tm.partss_cons, validL_append, validL_kids L d ts, List.all_cons, validL_parts L t d 1]; rfl
theorem valid_mk (L k n : Int) (s : ByteArray) (ks : List Tm) : (Tm.mk k n s ks).valid L = ((Tm.mk k n s ks).formed L && ks.all (Tm.valid L)) := by
  rw [Tm.valid, Tm.parts_mk]
  show validL L ([(1, Tm.mk k n s ks)] ++ _) = _
  rw [validL_append, validL_kids]
  simp [validL]
theorem groundL_append (l r : List (Nat × Tm)) : groundL (l ++ r) = (groundL l && groundL r) := by simp [groundL]
theorem ground_nums (l : List (Nat × Tm)) : groundL l = decide ((nums l).length = 0) := by
  induction l with
  | nil => rfl
  | cons x l ih =>
    show groundL ([x] ++ l) = decide ((nums ([x] ++ l)).length = 0)
    rw [groundL_append, nums_append, ih, List.length_append]
    unfold groundL nums
    by_cases h : x.2.kind = 1
    · simp [h]
    · simp [h]
theorem foldl_len (xs : List Int) : ((xs.foldl addNew []).length = 0) ↔ xs.length = 0 := by
  constructor
  · intro h
    cases xs with
    | nil => rfl
    | cons x xs =>
      rw [List.foldl_cons, foldl_addNew] at h
      simp [addNew] at h
  · intro h
    rw [List.eq_nil_of_length_eq_zero h]; rfl
theorem ground_vars (T : Tm) : T.ground = decide (T.vars.length = 0) := by
  rw [Tm.ground, ground_nums, Tm.vars, varsL, foldl_addV, decide_eq_decide]
  exact (foldl_len _).symm
theorem ground_seal (n : Int) (s : ByteArray) (T : Tm) : (Tm.mk 4 n s [T]).ground = T.ground := by
  rw [Tm.ground, Tm.ground, ground_nums, ground_nums, Tm.parts_mk, Tm.partss_cons, Tm.partss_nil, List.append_nil]
  show decide ((nums ([(1, Tm.mk 4 n s [T])] ++ _)).length = 0) = _
  rw [nums_append, nums_parts T (1 + 1) 1]
  rfl

theorem check_zero {L : Int} {T : Tm} (h : T.check L = 0) : T.size ≤ 1000 ∧ T.deep ≤ 60 ∧ T.valid L = true := by
  unfold Tm.check at h
  split at h
  · cases h
  · split at h
    · cases h
    · split at h
      · exact ⟨by omega, by omega, by assumption⟩
      · cases h
theorem check_of {L : Int} {T : Tm} (h1 : T.size ≤ 1000) (h2 : T.deep ≤ 60) : T.check L = if T.valid L = true then 0 else 4 := by
  rw [Tm.check, if_neg (by omega), if_neg (by omega)]
theorem deep_le_deeps {t : Tm} : ∀ {ks : List Tm}, t ∈ ks → t.deep ≤ Tm.deeps ks
  | u :: us, h => by
    rw [Tm.deeps_cons]
    rcases List.mem_cons.1 h with rfl | h
    · omega
    · have := deep_le_deeps h; omega
theorem check_kid {L k n : Int} {s : ByteArray} {ks : List Tm} (h : (Tm.mk k n s ks).check L = 0) {t : Tm} (ht : t ∈ ks) : t.check L = 0 := by
  obtain ⟨h1, h2, h3⟩ := check_zero h
  rw [Tm.size_mk] at h1
  rw [Tm.deep_mk] at h2
  have g1 := Tm.size_le_sizes ht
  have g2 := deep_le_deeps ht
  rw [valid_mk] at h3
  simp only [Bool.and_eq_true, List.all_eq_true] at h3
  rw [check_of (by omega) (by omega), if_pos (h3.2 t ht)]

/-- What a seal's check tells. -/
theorem check_seal_big {L n : Int} {T : Tm} (h : 1000 ≤ T.size ∨ 60 ≤ T.deep) : (Tm.mk 4 n (ByteArray.mk #[]) [T]).check L ≠ 0 := by
  intro e
  obtain ⟨h1, h2, _⟩ := check_zero e
  rw [Tm.size_mk, Tm.sizes_cons, Tm.sizes_nil] at h1
  rw [Tm.deep_mk, Tm.deeps_cons, Tm.deeps_nil] at h2
  omega
theorem check_seal {L n : Int} {T : Tm} (h1 : T.size < 1000) (h2 : T.deep < 60) (hv : T.valid L = true) (hn : 0 ≤ n) : (Tm.mk 4 n (ByteArray.mk #[]) [T]).check L = if T.vars.length = 0 ∧ n < L then 0 else 4 := by
  have ht : (ByteArray.mk #[]).toList = [] := empty_toList
  rw [check_of (by rw [Tm.size_mk, Tm.sizes_cons, Tm.sizes_nil]; omega) (by rw [Tm.deep_mk, Tm.deeps_cons, Tm.deeps_nil]; omega), valid_mk, Tm.formed_eq L 4 n _ [T] 1 rfl, ground_seal, ground_vars]
  simp only [List.all_cons, List.all_nil, hv, ht]
  by_cases g1 : T.vars.length = 0 <;> by_cases g2 : n < L <;> simp [g1, g2, hn]
theorem check_pair {L : Int} {T : Tm} (hv : T.valid L = true) : (Tm.mk 3 0 (ByteArray.mk #[102]) [T, T]).check L ≠ 4 := by
  have hs : (ByteArray.mk #[102]).size = 1 := rfl
  have : (Tm.mk 3 0 (ByteArray.mk #[102]) [T, T]).valid L = true := by
    rw [valid_mk, Tm.formed_eq L 3 0 _ [T, T] 2 rfl]
    simp [hv, hs]
  unfold Tm.check
  rw [this]
  split
  · decide
  · split
    · decide
    · decide

theorem seal_term {w : World} {n : Int} {k1 n1 : Int} {s1 : ByteArray} {a1 : Option Addr} {l1 c1 : Nat} {T : Tm} (hn : i64ok n) (h : Has w (.agg #[.int .i64 k1, .int .i64 n1, .string s1, .slice a1 l1 c1]) T) :
    Has (w.alloc (.cells #[.int .i64 k1, .int .i64 n1, .string s1, .slice a1 l1 c1] 24)) (.agg #[.int .i64 4, .int .i64 n, .string (ByteArray.mk #[]), .slice (some ⟨w.heap.size, 0, none⟩) 1 1]) (.mk 4 n (ByteArray.mk #[]) [T]) :=
  (one_term h).term ⟨by decide, by decide⟩ hn (Nat.zero_le _)

set_option maxRecDepth 100000 in
set_option maxHeartbeats 4000000 in
theorem termChecks_at (x y : Int) (v : Value) (T : Tm) (w : World) (hv : Has w v T) (hs : T.size ≤ 1000000000000) (hx0 : 0 ≤ x) (hx1 : x ≤ 255) (hy0 : 0 ≤ y) (hy1 : y ≤ 255) :
    Calls Try.prog 6 #[v, .int .u8 x, .int .u8 y] w fun r w' => r = .returned (.bool true) ∧ Below w.heap.size w w' := by
  obtain ⟨k, n, s, a, len, cap, ks, rfl, e', hlk, -⟩ := hv.form
  subst e'
  have hs4 : (Tm.mk k n s ks).size ≤ 4000000000000000000 := by omega
  have hll : len ≤ 1000000000000 := by have h1 := Tm.length_le_sizes ks; rw [Tm.size_mk] at hs; omega
  obtain ⟨w1, hw1⟩ : ∃ w1, w1 = w.alloc (.cells #[.int .i64 k, .int .i64 n, .string s, .slice a len cap] 24) := ⟨_, rfl⟩
  have hB1 : Below w.heap.size w w1 := by rw [hw1]; exact (Below.refl _ w).alloc (Nat.le_refl _) _
  have hx1' : w1.heap[w.heap.size]? = some (.cells #[.int .i64 k, .int .i64 n, .string s, .slice a len cap] 24 (0, 0)) := by rw [hw1]; exact World.alloc_heap_new _ _
  have H1 := Lib.hid (And.intro hw1 (And.intro hB1 hx1'))
  have HK := Lib.hid hlk
  clear hw1 hB1 hx1' hlk
  go_enter Try.func6, Try.ntmps6
  go_wp2_with fail
  rw [← H1.out.1]
  refine (shown_at w1).mono ?_
  rintro r w2 ⟨rfl, hb⟩
  have H2 := Lib.hid (And.intro (H1.out.2.1.trans (hb.mono H1.out.2.1.size)) (tbox_below H1.out.2.2 hb))
  obtain ⟨x0, x1, x2, x3⟩ := tbox_cells H2.out.2
  have hT2 := Has.below hv H2.out.1
  clear hb H1 hv
  go_wp2_with fail
  refine (few_at _ _ w2 hT2 hs).mono ?_
  rintro r w3 ⟨rfl, hb⟩
  have H3 := Lib.hid (And.intro (H2.out.1.trans (hb.mono H2.out.1.size)) (tbox_below H2.out.2 hb))
  have hT3 := Has.below hT2 hb
  clear hb H2 hT2 x0 x1 x2 x3
  by_cases hfew : (Tm.mk k n s ks).size ≤ 3000
  case neg =>
    rw [decide_eq_false hfew]
    clear hT3
    go_wp2_with fail
    go_ret
    exact ⟨rfl, H3.out.1⟩
  rw [decide_eq_true hfew]
  obtain ⟨x0, x1, x2, x3⟩ := tbox_cells H3.out.2
  go_wp2_with fail
  refine (check_at _ _ y w3 hT3 hs4).mono ?_
  rintro r w4 ⟨rfl, hb⟩
  have H4 := Lib.hid (And.intro (H3.out.1.trans (hb.mono H3.out.1.size)) (tbox_below H3.out.2 hb))
  have hT4 := Has.below hT3 hb
  clear hb H3 hT3 x0 x1 x2 x3
  by_cases hck : (Tm.mk k n s ks).check y = 0
  case neg =>
    generalize (Tm.mk k n s ks).check y = ck at hck ⊢
    have hck' : (ck == 0) = false := by simpa using hck
    clear hT4
    go_wp2_with fail
    go_ret
    exact ⟨rfl, H4.out.1⟩
  rw [hck]
  have HC := Lib.hid hck
  clear hck
  go_wp2_with fail
  go_loopw [8] (fun i wr => ∃ c : Nat, i = .int .i64 c ∧ c ≤ len ∧ Below w4.heap.size w4 wr) (fun i _ => len - (intOf i).toNat)
  case atStart => exact ⟨0, rfl, Nat.zero_le _, Below.refl _ _⟩
  case round =>
    obtain ⟨c, rfl, hcl, hB⟩ := hrel
    obtain ⟨x0, x1, x2, x3⟩ := tbox_cells (tbox_below H4.out.2 hB)
    by_cases hlt : c < len
    · obtain ⟨b, o, k1, n1, s1, a1, l1, c1, T1, rfl, hbn, e0, e1, e2, e3, hT1, ht1⟩ := IsTm.kid hT4 c (by rw [← HK.out]; exact hlt)
      have q0 := (hB.cell (p := ⟨b, o + c * 4, none⟩) hbn).trans e0
      have q1 := (hB.cell (p := ⟨b, o + c * 4 + 1, none⟩) hbn).trans e1
      have q2 := (hB.cell (p := ⟨b, o + c * 4 + 2, none⟩) hbn).trans e2
      have q3 := (hB.cell (p := ⟨b, o + c * 4 + 3, none⟩) hbn).trans e3
      have hck1 := check_kid HC.out (List.mem_of_getElem? hT1)
      have hsz1 : T1.size ≤ 4000000000000000000 := by have h1 := Tm.size_le_sizes (List.mem_of_getElem? hT1); rw [Tm.size_mk] at hs4; omega
      have hcall := (check_at _ T1 y wr (IsTm.later hB hB.size ht1) hsz1).mono (R' := fun r w5 => r = .returned (.int .i64 0) ∧ Below w4.heap.size w4 w5) (fun r w5 h => ⟨by rw [h.1, hck1], hB.trans (h.2.mono hB.size)⟩)
      clear e0 e1 e2 e3 hT1 ht1 hck1 hsz1 hT4 hB
      go_wp2_with fail
      refine hcall.mono ?_
      rintro r w5 ⟨rfl, hb5⟩
      clear hcall
      go_wp2_with fail
      go_roundw
      case rel => exact ⟨c + 1, by simp, hlt, hb5⟩
      case measure => simp [intOf]; omega
    · have hce : c = len := by omega
      subst hce
      have hT5 := Has.below hT4 hB
      have hbx5 := tbox_below H4.out.2 hB
      obtain ⟨wA, hwA⟩ : ∃ wA, wA = wr := ⟨_, rfl⟩
      obtain ⟨w6, hw6⟩ : ∃ w6, w6 = (wr.alloc (.cells #[.int .i64 k, .int .i64 n, .string s, .slice a c cap] 24)).alloc (.cells #[.int .i64 4, .int .i64 x, .string (ByteArray.mk #[]), .slice (some ⟨wr.heap.size, 0, none⟩) 1 1] 24) := ⟨_, rfl⟩
      have hB56 : Below wr.heap.size wr w6 := by rw [hw6]; exact ((Below.refl _ _).alloc (Nat.le_refl _) _).alloc (by simp) _
      have hS6 : Has w6 (.agg #[.int .i64 4, .int .i64 x, .string (ByteArray.mk #[]), .slice (some ⟨wr.heap.size, 0, none⟩) 1 1]) (.mk 4 x (ByteArray.mk #[]) [.mk k n s ks]) := by
        rw [hw6]; exact Has.below (seal_term ⟨by omega, by omega⟩ hT5) ((Below.refl _ _).alloc (Nat.le_refl _) _)
      have hT6 := Has.below hT5 hB56
      have H6 := Lib.hid (And.intro hw6 (And.intro ((H4.out.1.trans (hB.mono H4.out.1.size)).trans (hB56.mono (Nat.le_trans H4.out.1.size hB.size))) (tbox_below hbx5 hB56)))
      have hz := zeroTerm
      clear hT4 hT5 hB hbx5 hw6 hB56 hwA wA
      go_wp2_with fail
      rw [← H6.out.1]
      have hsS : (Tm.mk 4 x (ByteArray.mk #[]) [.mk k n s ks]).size ≤ 4000000000000000000 := by rw [Tm.size_mk 4, Tm.sizes_cons, Tm.sizes_nil]; omega
      refine (check_at _ _ y w6 hS6 hsS).mono ?_
      rintro r w7 ⟨rfl, hb⟩
      have H7 := Lib.hid (And.intro (H6.out.2.1.trans (hb.mono H6.out.2.1.size)) (tbox_below H6.out.2.2 hb))
      have hT7 := Has.below hT6 hb
      obtain ⟨y0, y1, y2, y3⟩ := tbox_cells H7.out.2
      obtain ⟨hc1, hc2, hc3⟩ := check_zero HC.out
      have HV := Lib.hid hc3
      clear hb H6 hT6 hS6 x0 x1 x2 x3 hsS hc3
      generalize hT : Tm.mk k n s ks = T at *
      generalize hSk : (Tm.mk 4 x (ByteArray.mk #[]) [T]).check y = sk
      have HSk := Lib.hid hSk
      clear hSk hT
      go_wp2_with fail
      refine (size_at _ T w7 hT7 hs4).mono ?_
      rintro r w8 ⟨rfl, hb⟩
      have H8 := Lib.hid (And.intro (H7.out.1.trans (hb.mono H7.out.1.size)) (tbox_below H7.out.2 hb))
      have hT8 := Has.below hT7 hb
      obtain ⟨z0, z1, z2, z3⟩ := tbox_cells H8.out.2
      clear hb H7 hT7 y0 y1 y2 y3
      obtain ⟨sz, hsz⟩ : ∃ sz, T.size = sz := ⟨_, rfl⟩
      rw [hsz]
      by_cases hbig : 1000 ≤ sz
      · have hne : ¬ sk = 0 := by rw [← HSk.out]; exact check_seal_big (Or.inl (by omega))
        have hne' : (sk == 0) = false := by simpa using hne
        have hbig' : (1000 : Int) ≤ (sz : Int) := by omega
        clear hT8
        have hne'' : (sk != 0) = true := by simpa using hne
        go_wp2_with fail
        go_ret
        first | exact ⟨rfl, H8.out.1⟩ | exact ⟨congrArg (fun b => Ending.returned (Value.bool b)) hne'', H8.out.1⟩
      have hbig' : (sz : Int) < 1000 := by omega
      go_wp2_with fail
      refine (deep_at _ T w8 hT8 hs4).mono ?_
      rintro r w9 ⟨rfl, hb⟩
      have H9 := Lib.hid (And.intro (H8.out.1.trans (hb.mono H8.out.1.size)) (tbox_below H8.out.2 hb))
      have hT9 := Has.below hT8 hb
      obtain ⟨y0, y1, y2, y3⟩ := tbox_cells H9.out.2
      clear hb H8 hT8 z0 z1 z2 z3
      obtain ⟨dp, hdp⟩ : ∃ dp, T.deep = dp := ⟨_, rfl⟩
      rw [hdp]
      by_cases hdeep : 60 ≤ dp
      · have hne : ¬ sk = 0 := by rw [← HSk.out]; exact check_seal_big (Or.inr (by omega))
        have hne' : (sk == 0) = false := by simpa using hne
        have hdeep' : (60 : Int) ≤ (dp : Int) := by omega
        clear hT9
        have hne'' : (sk != 0) = true := by simpa using hne
        go_wp2_with fail
        go_ret
        first | exact ⟨rfl, H9.out.1⟩ | exact ⟨congrArg (fun b => Ending.returned (Value.bool b)) hne'', H9.out.1⟩
      have hdeep' : (dp : Int) < 60 := by omega
      have hsk := HSk.out
      rw [check_seal (by omega) (by omega) HV.out hx0] at hsk
      have hpair := check_pair HV.out
      have hvl : T.vars.length ≤ 1000 := by have h1 := varsL_length (T.parts 1); rw [T.parts_length] at h1; have h2 : T.vars.length = (varsL (T.parts 1)).length := rfl; omega
      have HH := Lib.hid (And.intro hsk hpair)
      clear hsk hpair HSk
      go_wp2_with fail
      refine (vars_at _ T w9 hT9 hs).mono ?_
      rintro r w10 ⟨r10, rfl, hr10, hb⟩
      have H10 := Lib.hid (And.intro (H9.out.1.trans (hb.mono H9.out.1.size)) (tbox_below H9.out.2 hb))
      have hT10 := Has.below hT9 hb
      obtain ⟨z0, z1, z2, z3⟩ := tbox_cells H10.out.2
      obtain ⟨a10, c10, e10, -⟩ := hr10
      subst e10
      clear hb H9 hT9 y0 y1 y2 y3
      generalize hvn : T.vars.length = vl at *
      clear hvn
      by_cases hzero : vl = 0
      · subst hzero
        by_cases hlx : x < y
        · have hsk0 : sk = 0 := by rw [← HH.out.1, if_pos ⟨rfl, hlx⟩]
          subst hsk0
          go_wp2_with fail
          refine (make_at (ByteArray.mk #[102]) _ [T, T] _ (by unfold maxLen; decide) (two_terms hT10 hT10) (by rw [Tm.sizes_cons, Tm.sizes_cons, Tm.sizes_nil]; omega)).mono ?_
          intro r w11 h11
          obtain ⟨k8, n8, s8, a8, l8, c8, rfl, hM, hb8⟩ := h11.has
          have hA78 := (Below.refl w10.heap.size w10).alloc (Nat.le_refl _) (.cells #[.int .i64 k, .int .i64 n, .string s, .slice a c cap, .int .i64 k, .int .i64 n, .string s, .slice a c cap] 24)
          have hB78 := hA78.trans (hb8.mono hA78.size)
          have H11 := Lib.hid (H10.out.1.trans (hB78.mono H10.out.1.size))
          clear h11 hb8 hA78 hB78 hT10 H10 z0 z1 z2 z3
          go_wp2_with fail
          refine (check_at _ _ y w11 hM (by rw [Tm.size_mk 3, Tm.sizes_cons, Tm.sizes_cons, Tm.sizes_nil]; omega)).mono ?_
          rintro r w12 ⟨rfl, hb⟩
          have hne := HH.out.2
          generalize (Tm.mk 3 0 (ByteArray.mk #[102]) [T, T]).check y = ck at hne ⊢
          have hne' : (ck == 4) = false := by simpa using hne
          have hne'' : (ck != 4) = true := by simpa using hne
          have H12 := Lib.hid (H11.out.trans (hb.mono H11.out.size))
          clear hb hM
          go_wp2_with fail
          go_ret
          first | exact ⟨rfl, H12.out⟩ | exact ⟨congrArg (fun b => Ending.returned (Value.bool b)) hne'', H12.out⟩ | exact ⟨congrArg (fun b => Ending.returned (Value.bool b)) (by simp; omega : (!decide (x < y)) = true), H12.out⟩
        · have hsk0 : sk = 4 := by rw [← HH.out.1, if_neg (fun h => hlx h.2)]
          subst hsk0
          have hlx' : y ≤ x := by omega
          go_wp2_with fail
          refine (make_at (ByteArray.mk #[102]) _ [T, T] _ (by unfold maxLen; decide) (two_terms hT10 hT10) (by rw [Tm.sizes_cons, Tm.sizes_cons, Tm.sizes_nil]; omega)).mono ?_
          intro r w11 h11
          obtain ⟨k8, n8, s8, a8, l8, c8, rfl, hM, hb8⟩ := h11.has
          have hA78 := (Below.refl w10.heap.size w10).alloc (Nat.le_refl _) (.cells #[.int .i64 k, .int .i64 n, .string s, .slice a c cap, .int .i64 k, .int .i64 n, .string s, .slice a c cap] 24)
          have hB78 := hA78.trans (hb8.mono hA78.size)
          have H11 := Lib.hid (H10.out.1.trans (hB78.mono H10.out.1.size))
          clear h11 hb8 hA78 hB78 hT10 H10 z0 z1 z2 z3
          go_wp2_with fail
          refine (check_at _ _ y w11 hM (by rw [Tm.size_mk 3, Tm.sizes_cons, Tm.sizes_cons, Tm.sizes_nil]; omega)).mono ?_
          rintro r w12 ⟨rfl, hb⟩
          have hne := HH.out.2
          generalize (Tm.mk 3 0 (ByteArray.mk #[102]) [T, T]).check y = ck at hne ⊢
          have hne' : (ck == 4) = false := by simpa using hne
          have hne'' : (ck != 4) = true := by simpa using hne
          have H12 := Lib.hid (H11.out.trans (hb.mono H11.out.size))
          clear hb hM
          go_wp2_with fail
          go_ret
          first | exact ⟨rfl, H12.out⟩ | exact ⟨congrArg (fun b => Ending.returned (Value.bool b)) hne'', H12.out⟩ | exact ⟨congrArg (fun b => Ending.returned (Value.bool b)) (by simp; omega : (!decide (x < y)) = true), H12.out⟩
      · have hsk0 : sk = 4 := by rw [← HH.out.1, if_neg (fun h => hzero h.1)]
        subst hsk0
        have hzero' : ((vl : Int) == 0) = false := by simp; omega
        go_wp2_with fail
        refine (make_at (ByteArray.mk #[102]) _ [T, T] _ (by unfold maxLen; decide) (two_terms hT10 hT10) (by rw [Tm.sizes_cons, Tm.sizes_cons, Tm.sizes_nil]; omega)).mono ?_
        intro r w11 h11
        obtain ⟨k8, n8, s8, a8, l8, c8, rfl, hM, hb8⟩ := h11.has
        have hA78 := (Below.refl w10.heap.size w10).alloc (Nat.le_refl _) (.cells #[.int .i64 k, .int .i64 n, .string s, .slice a c cap, .int .i64 k, .int .i64 n, .string s, .slice a c cap] 24)
        have hB78 := hA78.trans (hb8.mono hA78.size)
        have H11 := Lib.hid (H10.out.1.trans (hB78.mono H10.out.1.size))
        clear h11 hb8 hA78 hB78 hT10 H10 z0 z1 z2 z3
        go_wp2_with fail
        refine (check_at _ _ y w11 hM (by rw [Tm.size_mk 3, Tm.sizes_cons, Tm.sizes_cons, Tm.sizes_nil]; omega)).mono ?_
        rintro r w12 ⟨rfl, hb⟩
        have hne := HH.out.2
        generalize (Tm.mk 3 0 (ByteArray.mk #[102]) [T, T]).check y = ck at hne ⊢
        have hne' : (ck == 4) = false := by simpa using hne
        have hne'' : (ck != 4) = true := by simpa using hne
        have H12 := Lib.hid (H11.out.trans (hb.mono H11.out.size))
        clear hb hM
        go_wp2_with fail
        go_ret
        first | exact ⟨rfl, H12.out⟩ | exact ⟨congrArg (fun b => Ending.returned (Value.bool b)) hne'', H12.out⟩ | exact ⟨congrArg (fun b => Ending.returned (Value.bool b)) (by simp; omega : (!decide (x < y)) = true), H12.out⟩

end Go.Proofs.Ytmbikojjhdildaa
