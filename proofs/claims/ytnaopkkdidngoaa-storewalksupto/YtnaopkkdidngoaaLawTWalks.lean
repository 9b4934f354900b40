/-
  The law StoreWalks, walked.
-/
import Derived.Test.YtnaopkkdidngoaaStoO
namespace Go.Proofs.Ytnaopkkdidngoaa
open Go.RowKit Go.Shelf
set_option linter.unusedVariables false
set_option linter.unusedSimpArgs false

abbrev vT (i : Nat) : Tm := .mk 1 (i : Int) (ByteArray.mk #[]) []
/-- k variables, of which c are bound, each to the next one. -/
def chS (k c : Nat) : St := ⟨(List.range k).map fun i => if i < c then some (vT (i + 1)) else none, List.range c⟩
theorem chS_len (k c : Nat) : (chS k c).vs.length = k := by simp [chS]
theorem chS_get {k c x : Nat} (hx : x < k) : (chS k c).vs[x]? = some (if x < c then some (vT (x + 1)) else none) := by
  show ((List.range k).map _)[x]? = _
  rw [List.getElem?_map, List.getElem?_range hx]; rfl
theorem chS_zero (k : Nat) : (St.mk [] []).fresh k = chS k 0 := by
  show St.mk ([] ++ List.replicate k none) [] = _
  unfold chS
  congr 1
  refine List.ext_getElem? fun i => ?_
  rw [List.nil_append, List.getElem?_replicate, List.getElem?_map]
  by_cases h : i < k
  · rw [if_pos h, List.getElem?_range h]; simp
  · rw [if_neg h, List.getElem?_eq_none (by simpa using h)]; rfl
theorem chS_succ {k c : Nat} (hc : c < k) : (chS k c).bind c (vT (c + 1)) = chS k (c + 1) := by
  unfold St.bind chS
  simp only [St.mk.injEq]
  refine ⟨?_, by rw [List.range_succ]⟩
  refine List.ext_getElem? fun i => ?_
  rw [List.getElem?_set, List.getElem?_map, List.getElem?_map]
  by_cases h : i < k
  · rw [List.getElem?_range h]
    by_cases e : c = i
    · subst e; simp [h]
    · rw [if_neg e]
      simp only [Option.map_some]
      by_cases h1 : i < c
      · rw [if_pos h1, if_pos (by omega)]
      · rw [if_neg h1, if_neg (by omega)]
  · rw [List.getElem?_eq_none (by simpa using h)]
    rw [if_neg (by omega)]; rfl
theorem chS_look {k c x : Nat} (hx : x < k) : (chS k c).look (x : Int) = if x < c then some (vT (x + 1)) else none := by
  rw [St.look_nat, chS_get hx]; rfl
theorem chS_val {k c x : Nat} (hx : x < k) : (chS k c).val (vT x) = if x < c then some (vT (x + 1)) else none := chS_look hx
theorem chS_free {k c : Nat} (hc : c + 1 < k) : ¬ Met (chS k c) ((c : Nat) : Int) (vT (c + 1)) := by
  rintro ⟨n, h⟩
  have hv : (chS k c).val (vT (c + 1)) = none := by rw [chS_val hc, if_neg (by omega)]
  cases h with
  | var _ _ hn => have hn : ((c + 1 : Nat) : Int) = (c : Int) := hn; omega
  | bound h _ => rw [hv] at h; cases h
  | kid h1 _ _ _ => exact h1 rfl
theorem chS_ends {k : Nat} : ∀ (d x : Nat), x + d + 1 = k → EndsN (chS k (k - 1)) d (vT x) (vT (k - 1))
  | 0, x, h => by
    have e : x = k - 1 := by omega
    subst e
    exact .stop (by rw [chS_val (by omega), if_neg (by omega)])
  | d + 1, x, h => .step (U := vT (x + 1)) (by rw [chS_val (by omega), if_pos (by omega)]) (chS_ends d (x + 1) (by omega))
theorem chS_met {k : Nat} : ∀ (d x : Nat), x + d + 1 = k → RN (chS k (k - 1)) ((k - 1 : Nat) : Int) d (vT x)
  | 0, x, h => by
    have e : x = k - 1 := by omega
    subst e
    exact .var (by rw [chS_val (by omega), if_neg (by omega)]) rfl rfl
  | d + 1, x, h => .bound (U := vT (x + 1)) (by rw [chS_val (by omega), if_pos (by omega)]) (chS_met d (x + 1) (by omega))
theorem chS_fin {k x : Nat} (hx : x < k) : (chS k (k - 1)).fin (vT x) = vT (k - 1) := (chS_ends (k - 1 - x) x (by omega)).fin
theorem chS_has {k x : Nat} (hx : x < k) : Met (chS k (k - 1)) ((k - 1 : Nat) : Int) (vT x) := ⟨_, chS_met (k - 1 - x) x (by omega)⟩

set_option maxRecDepth 100000 in
set_option maxHeartbeats 8000000 in
theorem storeWalks_at (m : Int) (t : Value) (T : Tm) (w : World) (ht : Has w t T) (hs : T.size ≤ 1000000000) (hm0 : 0 ≤ m) (hm1 : m ≤ 255) : Calls Try.prog 6 #[.int .u8 m, t] w (Gets w (.bool true)) := by
  obtain ⟨k, n, s, a, len, cap, ks, rfl, e, -⟩ := ht.form
  have hB0 : Below w.heap.size w (w.alloc (.cells #[.int .i64 k, .int .i64 n, .string s, .slice a len cap] 25)) := (Below.refl _ w).alloc (Nat.le_refl _) _
  have hx0 := World.alloc_heap_new w (.cells #[.int .i64 k, .int .i64 n, .string s, .slice a len cap] 25)
  have H0 := Lib.hid (And.intro hB0 (And.intro hx0 (Has.below ht hB0)))
  clear ht e hB0 hx0
  go_enter Try.func6, Try.ntmps6
  go_wp2_with fail
  refine (shown10_at _).mono ?_
  rintro e w1 ⟨rfl, hB1⟩
  have hb1 := tbox_below H0.out.2.1 hB1
  have H1 := Lib.hid (And.intro (H0.out.1.trans (hB1.mono H0.out.1.size)) (And.intro hb1 (Has.below H0.out.2.2 hB1)))
  clear H0 hB1 hb1
  go_wp2_with fail
  refine (new_at10 w1 w1.heap.size (Nat.le_refl _)).mono ?_
  rintro e w2 ⟨rfl, hB2, hlt2, hS2⟩
  have hb2 := tbox_below H1.out.2.1 hB2
  obtain ⟨x0, x1, x2, x3⟩ := tbox_cells hb2
  have HT := Lib.hid (And.intro H1.out.2.1 H1.out.2.2)
  have HW1 := Lib.hid H1.out.1
  have H2 := Lib.hid (And.intro hB2 hS2)
  have hT2 := Has.below H1.out.2.2 hB2
  clear hB2 hS2 hlt2 hb2 H1
  go_wp2_with fail
  refine (few10_at _ T w2 hT2 (by omega)).mono ?_
  by_cases hfew : T.size ≤ 300
  case neg =>
    rw [decide_eq_false hfew]
    rintro e w3 ⟨rfl, hB3⟩
    have H3 := Lib.hid (HW1.out.trans ((H2.out.1.trans (hB3.mono H2.out.1.size)).mono HW1.out.size))
    clear hB3 hT2 hfew hs
    go_wp2_with fail
    go_ret
    exact ⟨rfl, H3.out⟩
  rw [decide_eq_true hfew]
  rintro e w3 ⟨rfl, hB3⟩
  have H3 := Lib.hid (And.intro (H2.out.1.trans (hB3.mono H2.out.1.size)) (H2.out.2.step hB3))
  obtain ⟨K, hKi, hK2, hK101⟩ : ∃ K : Nat, (2 : Int) + m % 100 = (K : Int) ∧ 2 ≤ K ∧ K ≤ 101 := ⟨2 + (m % 100).toNat, by omega, by omega, by omega⟩
  clear hB3 H2 hfew hT2 x0 x1 x2 x3
  have hn1 := HT.out.1
  go_wp2_with fail
  refine (fresh_at10 H3.out.2 H3.out.1.size K (by show 0 + K ≤ 4096; omega)).mono ?_
  rintro e w4 ⟨rfl, V, hS4, hM4⟩
  rw [chS_zero] at hS4
  have H4 := Lib.hid (And.intro (H3.out.1.trans (Mut.below H3.out.2 hM4 H3.out.1.size)) hS4)
  have hzero : (((St.mk [] []).vs.length : Nat) : Int) = 0 := rfl
  rw [hzero]
  have HKI := Lib.hid (And.intro hKi (And.intro hm0 hm1))
  clear hS4 hM4 H3 hn1 hKi hm0 hm1 hzero
  generalize m % 100 = r at *
  go_wp2_with fail
  go_loopw [8] (fun i wr => ∃ (c : Nat) (L : Value), i = .int .i64 c ∧ c + 1 ≤ K ∧ Below w1.heap.size w1 wr ∧ Hid (StAt (Oth wr w1.heap.size V L) w1.heap.size wr w1.heap.size V L (chS K c))) (fun i _ => K - (intOf i).toNat)
  case atStart => exact ⟨0, _, rfl, by omega, H4.out.1, H4.out.2⟩
  case round =>
    obtain ⟨c, L, rfl, hc, hB, hS⟩ := hrel
    clear H4
    by_cases hlt : c + 1 < K
    · have hcv : (chS K c).vs[c]? = some none := by rw [chS_get (by omega), if_neg (by omega)]
      have hlet := let_at (((c + 1 : Nat) : Int)) wr ⟨by omega, by omega⟩
      have ec : ((c + 1 : Nat) : Int) = (c : Int) + 1 := by omega
      rw [ec] at hlet
      have HC := Lib.hid hcv
      clear ec hcv
      go_wp2_with fail
      refine hlet.mono ?_
      intro e w5 h5
      obtain ⟨k5, n5, s5, a5, l5, c5, rfl, hT5, hB5⟩ := h5.has
      have H5 := Lib.hid (And.intro (hB.trans (hB5.mono hB.size)) (And.intro (hS.out.step hB5) (show Has w5 _ (vT (c + 1)) from hT5)))
      clear h5 hT5 hB5 hlet
      go_wp2_with fail
      refine (bind_at10 H5.out.2.1 H5.out.1.size c _ (vT (c + 1)) H5.out.2.2 (by rw [vT, Tm.size_mk, Tm.sizes_nil]; omega) HC.out (chS_free (by omega))).mono ?_
      rintro e w6 ⟨rfl, L6, hS6, hM6⟩
      rw [chS_succ (by omega)] at hS6
      have H6 := Lib.hid (And.intro (H5.out.1.trans (Mut.below H5.out.2.1 hM6 H5.out.1.size)) hS6)
      clear hS6 hM6 H5
      go_wp2_with fail
      go_roundw
      case rel => exact ⟨c + 1, L6, by simp, by omega, H6.out.1, H6.out.2⟩
      case measure => simp [intOf]; omega
    · have hcK : c = K - 1 := by omega
      subst hcK
      have hnl : ¬ (((K - 1 : Nat) : Int) + 1 < (K : Int)) := by omega
      have H5 := Lib.hid (And.intro hB hS.out)
      clear hB hS hlt hc
      go_wp2_with fail
      go_loopw [9] (fun i wr => ∃ (c : Nat), i = .int .i64 c ∧ c ≤ K ∧ Below w1.heap.size w1 wr ∧ Hid (StAt (Oth wr w1.heap.size V L) w1.heap.size wr w1.heap.size V L (chS K (K - 1)))) (fun i _ => K - (intOf i).toNat)
      case atStart => exact ⟨0, rfl, by omega, H5.out.1, H5.out.2⟩
      case round =>
        obtain ⟨c, rfl, hc, hB, hS⟩ := hrel
        clear H5 hnl
        by_cases hlt : c < K
        · have hlti : (c : Int) < (K : Int) := by omega
          have hk1 : (K : Int) - 1 = ((K - 1 : Nat) : Int) := by omega
          have hsz : ∀ i, (vT i).size ≤ 1000000000000 := fun i => by rw [vT, Tm.size_mk, Tm.sizes_nil]; omega
          have HFIN := Lib.hid (And.intro (chS_fin hlt) (chS_has hlt))
          go_wp2_with fail
          refine (let_at (c : Int) wr ⟨by omega, by omega⟩).mono ?_
          intro e w5 h5
          obtain ⟨k5, n5, s5, a5, l5, c5, rfl, hT5, hB5⟩ := h5.has
          have H5 := Lib.hid (And.intro (hB.trans (hB5.mono hB.size)) (And.intro (hS.out.step hB5) (show Has w5 _ (vT c) from hT5)))
          clear h5 hT5 hB5
          go_wp2_with fail
          refine (walk_at H5.out.2.1 _ (vT c) H5.out.2.2 (by rw [HFIN.out.1]; exact hsz _)).mono ?_
          intro e w6 h6
          rw [HFIN.out.1] at h6
          obtain ⟨k6, n6, s6, a6, l6, c6, rfl, hT6, hB6⟩ := h6.has
          have H6 := Lib.hid (And.intro (H5.out.1.trans (hB6.mono H5.out.1.size)) (And.intro (H5.out.2.1.step hB6) hT6))
          clear h6 hT6 hB6 H5
          go_wp2_with fail
          refine (let_at ((K - 1 : Nat) : Int) w6 ⟨by omega, by omega⟩).mono ?_
          intro e w7 h7
          obtain ⟨k7, n7, s7, a7, l7, c7, rfl, hT7, hB7⟩ := h7.has
          have H7 := Lib.hid (And.intro (H6.out.1.trans (hB7.mono H6.out.1.size)) (And.intro (H6.out.2.1.step hB7) (And.intro (Has.below H6.out.2.2 hB7) (show Has w7 _ (vT (K - 1)) from hT7))))
          clear h7 hT7 hB7 H6
          go_wp2_with fail
          refine (same_at (vT (K - 1)) (vT (K - 1)) _ _ w7 H7.out.2.2.1 H7.out.2.2.2 (hsz _) (hsz _)).mono ?_
          rintro e w8 ⟨he, hB8⟩
          obtain rfl : e = .returned (.bool true) := he.trans (by simp)
          have H8 := Lib.hid (And.intro (H7.out.1.trans (hB8.mono H7.out.1.size)) (H7.out.2.1.step hB8))
          clear he hB8 H7
          go_wp2_with fail
          refine (let_at (c : Int) w8 ⟨by omega, by omega⟩).mono ?_
          intro e w9 h9
          obtain ⟨k9, n9, s9, a9, l9, c9, rfl, hT9, hB9⟩ := h9.has
          have H9 := Lib.hid (And.intro (H8.out.1.trans (hB9.mono H8.out.1.size)) (And.intro (H8.out.2.step hB9) (show Has w9 _ (vT c) from hT9)))
          clear h9 hT9 hB9 H8
          go_wp2_with fail
          refine (has_at10 H9.out.2.1 _ (vT c) H9.out.2.2 ((K - 1 : Nat) : Int) (by rw [vT, Tm.size_mk, Tm.sizes_nil]; omega)).mono ?_
          rintro e w10 ⟨he, hB10⟩
          obtain rfl : e = .returned (.bool true) := by rw [he]; refine congrArg (fun b => Ending.returned (Value.bool b)) ?_; exact @decide_eq_true _ (_) HFIN.out.2
          have H10 := Lib.hid (And.intro (H9.out.1.trans (hB10.mono H9.out.1.size)) (H9.out.2.1.step hB10))
          clear he hB10 H9
          go_wp2_with fail
          go_roundw
          case rel => exact ⟨c + 1, by simp, by omega, H10.out.1, H10.out.2⟩
          case measure => simp [intOf]; omega
        · have hcK : c = K := by omega
          subst hcK
          have hk1 : (c : Int) - 1 = ((c - 1 : Nat) : Int) := by omega
          have H5 := Lib.hid (And.intro hB hS.out)
          have HT' := Lib.hid (And.intro (tbox_below HT.out.1 hB) (Has.below HT.out.2 hB))
          clear hB hS hlt hc
          go_wp2_with fail
          refine (let_at 0 wr ⟨by omega, by omega⟩).mono ?_
          intro e w5 h5
          obtain ⟨k5, n5, s5, a5, l5, c5, rfl, hT5, hB5⟩ := h5.has
          have H6 := Lib.hid (And.intro (H5.out.1.trans (hB5.mono H5.out.1.size)) (And.intro (H5.out.2.step hB5) (show Has w5 _ (vT 0) from hT5)))
          have HT6 := Lib.hid (And.intro (tbox_below HT'.out.1 hB5) (Has.below HT'.out.2 hB5))
          clear h5 hT5 hB5 H5 HT'
          have hbe : (chS c (c - 1)).bindE ((c - 1 : Nat) : Int) (vT 0) = 4 := by
            unfold St.bindE
            rw [if_neg (by rw [chS_len]; omega), if_neg (by rw [chS_look (by omega), if_neg (by omega)]; rintro ⟨U, hU⟩; cases hU), if_pos (chS_has (by omega))]
          have hb6 : (chS c (c - 1)).bindE 0 T = 6 := by
            unfold St.bindE
            rw [if_neg (by rw [chS_len]; omega), if_pos ⟨vT 1, by have := chS_look (k := c) (c := c - 1) (x := 0) (by omega); rw [if_pos (by omega)] at this; exact this⟩]
          have HBE := Lib.hid (And.intro hbe hb6)
          clear hbe hb6
          go_wp2_with fail
          refine (bind_bad H6.out.2.1 ((c - 1 : Nat) : Int) _ (vT 0) H6.out.2.2 (by rw [vT, Tm.size_mk, Tm.sizes_nil]; omega) (by rw [HBE.out.1]; decide)).mono ?_
          rintro e w7 ⟨he, hB7⟩
          rw [HBE.out.1] at he
          subst he
          have H7 := Lib.hid (And.intro (H6.out.1.trans (hB7.mono H6.out.1.size)) (H6.out.2.1.step hB7))
          have hb7 := tbox_below HT6.out.1 hB7
          obtain ⟨y0, y1, y2, y3⟩ := tbox_cells hb7
          have HT7 := Lib.hid (Has.below HT6.out.2 hB7)
          clear hB7 hb7 H6 HT6
          go_wp2_with fail
          refine (bind_bad H7.out.2 0 _ T HT7.out hs (by rw [HBE.out.2]; decide)).mono ?_
          rintro e w8 ⟨he, hB8⟩
          rw [HBE.out.2] at he
          subst he
          have H8 := Lib.hid (And.intro (H7.out.1.trans (hB8.mono H7.out.1.size)) (H7.out.2.step hB8))
          clear hB8 H7 HT7 y0 y1 y2 y3 HBE
          go_wp2_with fail
          refine (mark_at H8.out.2).mono ?_
          rintro e w9 ⟨rfl, rfl⟩
          have htr : ((chS c (c - 1)).tr.length : Int) = ((c - 1 : Nat) : Int) := by show (((List.range (c - 1)).length : Nat) : Int) = _; rw [List.length_range]
          rw [htr]
          clear htr
          go_wp2_with fail
          go_ret
          exact ⟨rfl, HW1.out.trans (H8.out.1.mono HW1.out.size)⟩
end Go.Proofs.Ytnaopkkdidngoaa
