/-
  The law TermVars: its walk.
-/
import Derived.Test.YtmbikojjhdildaaShown
import Derived.Test.YtmbikojjhdildaaOwnI
import Derived.Deep.RegionHeld3
namespace Go.Proofs.Ytmbikojjhdildaa
open Go.RowKit Go.Shelf
set_option linter.unusedVariables false

theorem IntsAt.take {w : World} {a : Option Addr} {cap : Nat} {l : List Int} (h : IntsAt w (.slice a l.length cap) l) (c : Nat) (hc : c ≤ l.length) : IntsAt w (.slice a c cap) (l.take c) := by
  obtain ⟨a2, cap2, e, h1, h2, h3, h4⟩ := h
  injection e with e1 e2 e3
  subst e1 e3
  have hl : (l.take c).length = c := by rw [List.length_take]; omega
  refine ⟨a, cap, by rw [hl], by omega, h2, h3, fun i hi => ?_⟩
  obtain ⟨b, o, e, hb, hcell⟩ := h4 i (by omega)
  exact ⟨b, o, e, hb, by rw [hcell]; simp⟩

set_option maxRecDepth 100000 in
set_option maxHeartbeats 4000000 in
theorem termVars_at (u v : Value) (A B : Tm) (w : World) (hu : Has w u A) (hv : Has w v B) (hs : A.size ≤ 1000000000000) (ht : B.size ≤ 1000000000000) :
    Calls Try.prog 8 #[u, v] w fun r w' => r = .returned (.bool true) ∧ Below w.heap.size w w' := by
  obtain ⟨k, n, s, a, len, cap, ks, rfl, e', -⟩ := hu.form
  obtain ⟨k', n', s', a', len', cap', ks', rfl, e'', -⟩ := hv.form
  clear e' e''
  obtain ⟨w1, hw1⟩ : ∃ w1, w1 = (w.alloc (.cells #[.int .i64 k, .int .i64 n, .string s, .slice a len cap] 24)).alloc (.cells #[.int .i64 k', .int .i64 n', .string s', .slice a' len' cap'] 24) := ⟨_, rfl⟩
  have hB1 : Below w.heap.size w w1 := by rw [hw1]; exact ((Below.refl _ w).alloc (Nat.le_refl _) _).alloc (by simp) _
  have hx1 : w1.heap[w.heap.size]? = some (.cells #[.int .i64 k, .int .i64 n, .string s, .slice a len cap] 24 (0, 0)) := by rw [hw1]; exact (Below.heap_alloc _ _ _ (by simp)).trans (World.alloc_heap_new _ _)
  have hy1 : w1.heap[w.heap.size + 1]? = some (.cells #[.int .i64 k', .int .i64 n', .string s', .slice a' len' cap'] 24 (0, 0)) := by rw [hw1]; simpa using World.alloc_heap_new (w.alloc (.cells #[.int .i64 k, .int .i64 n, .string s, .slice a len cap] 24)) (.cells #[.int .i64 k', .int .i64 n', .string s', .slice a' len' cap'] 24)
  have H1 := Lib.hid (And.intro hw1 (And.intro hB1 (And.intro hx1 hy1)))
  clear hw1 hB1 hx1 hy1
  go_enter Try.func8, Try.ntmps8
  go_wp2_with fail
  rw [← H1.out.1]
  refine (shown_at w1).mono ?_
  rintro r w2 ⟨rfl, hb⟩
  have H2 := Lib.hid (And.intro (H1.out.2.1.trans (hb.mono H1.out.2.1.size)) (And.intro (tbox_below H1.out.2.2.1 hb) (tbox_below H1.out.2.2.2 hb)))
  obtain ⟨x0, x1, x2, x3⟩ := tbox_cells H2.out.2.1
  have hA2 := Has.below hu H2.out.1
  have hB2 := Has.below hv H2.out.1
  clear hb H1 hu hv
  go_wp2_with fail
  refine (few_at _ A w2 hA2 hs).mono ?_
  rintro r w3 ⟨rfl, hb⟩
  have H3 := Lib.hid (And.intro (H2.out.1.trans (hb.mono H2.out.1.size)) (And.intro (tbox_below H2.out.2.1 hb) (tbox_below H2.out.2.2 hb)))
  have hA3 := Has.below hA2 hb
  have hB3 := Has.below hB2 hb
  clear hb H2 hA2 hB2 x0 x1 x2 x3
  by_cases hfew : A.size ≤ 3000
  case neg =>
    rw [decide_eq_false hfew]
    clear hA3 hB3
    go_wp2_with fail
    go_ret
    exact ⟨rfl, H3.out.1⟩
  rw [decide_eq_true hfew]
  obtain ⟨x0, x1, x2, x3⟩ := tbox_cells H3.out.2.2
  go_wp2_with fail
  refine (few_at _ B w3 hB3 ht).mono ?_
  rintro r w4 ⟨rfl, hb⟩
  have H4 := Lib.hid (And.intro (H3.out.1.trans (hb.mono H3.out.1.size)) (And.intro (tbox_below H3.out.2.1 hb) (tbox_below H3.out.2.2 hb)))
  have hA4 := Has.below hA3 hb
  have hB4 := Has.below hB3 hb
  clear hb H3 hA3 hB3 x0 x1 x2 x3
  by_cases hfew2 : B.size ≤ 3000
  case neg =>
    rw [decide_eq_false hfew2]
    clear hA4 hB4
    go_wp2_with fail
    go_ret
    exact ⟨rfl, H4.out.1⟩
  rw [decide_eq_true hfew2]
  obtain ⟨x0, x1, x2, x3⟩ := tbox_cells H4.out.2.1
  go_wp2_with fail
  refine (vars_at _ A w4 hA4 hs).mono ?_
  rintro r w5 ⟨r5, rfl, hr5, hb⟩
  have H5 := Lib.hid (And.intro (H4.out.1.trans (hb.mono H4.out.1.size)) (And.intro (tbox_below H4.out.2.1 hb) (tbox_below H4.out.2.2 hb)))
  have hA5 := Has.below hA4 hb
  have hB5 := Has.below hB4 hb
  clear hb H4 hA4 hB4 x0 x1 x2 x3
  obtain ⟨x0, x1, x2, x3⟩ := tbox_cells H5.out.2.2
  go_wp2_with fail
  refine (vars_at _ B w5 hB5 ht).mono ?_
  rintro r w6 ⟨r6, rfl, hr6, hb⟩
  have H6 := Lib.hid (And.intro (H5.out.1.trans (hb.mono H5.out.1.size)) (And.intro (tbox_below H5.out.2.1 hb) (tbox_below H5.out.2.2 hb)))
  have hA6 := Has.below hA5 hb
  have hB6 := Has.below hB5 hb
  have hr5' := hr5.below hb
  clear hb H5 hA5 hB5 hr5 x0 x1 x2 x3
  have hVl : A.vars.length ≤ 3000 := by have h1 := varsL_length (A.parts 1); rw [A.parts_length] at h1; have h2 : A.vars.length = (varsL (A.parts 1)).length := rfl; omega
  have hWl : B.vars.length ≤ 3000 := by have h1 := varsL_length (B.parts 1); rw [B.parts_length] at h1; have h2 : B.vars.length = (varsL (B.parts 1)).length := rfl; omega
  have hnd := vars_nodup A
  have htwo := vars_two (ByteArray.mk #[102]) A B
  generalize hVV : A.vars = V at *
  generalize hWW : B.vars = Wl at *
  have HN := Lib.hid (And.intro hnd htwo)
  clear hnd htwo hVV hWW
  obtain ⟨a5, c5, e5, p5⟩ := id hr5'
  obtain ⟨a6, c6, e6, p6⟩ := id hr6
  subst e5 e6
  have hown0 := OwnInts.empty w6 w6.heap.size (Nat.le_refl _)
  have hr7 := hr5'.below ((Below.refl w6.heap.size w6).alloc (Nat.le_refl _) (.cells #[] 3))
  have HI := Lib.hid (And.intro hr5' (And.intro hr6 (And.intro p5 p6)))
  clear hr5' hr6 p5 p6
  go_wp2_with (at_builtin; refine wpList_append_ints rfl _ _ rfl w6.heap.size _ [] rfl hown0 _ V rfl hr7 (by simp; omega) (by simp) ?_; intro v8 w8 hown8 hgrow8)
  have hB68 : Below w6.heap.size w6 w8 := ((Below.refl w6.heap.size w6).alloc (Nat.le_refl _) (.cells #[] 3)).grown hgrow8 (by simp) (fun k e => by cases e; exact Nat.le_refl _)
  rw [List.nil_append] at hown8
  clear hown0 hr7 hgrow8
  obtain ⟨a8, c8, e8⟩ := hown8.form
  subst e8
  have H8 := Lib.hid (And.intro hB68 hown8)
  clear hB68 hown8
  go_wp2_with fail
  go_loopw [8, 9] (fun x i wr => ∃ c : Nat, i = .int .i64 c ∧ c ≤ Wl.length ∧ OwnInts wr w6.heap.size x (V ++ (Wl.take c).filter fun y => !V.contains y) ∧ Below w6.heap.size w6 wr) (fun _ i _ => Wl.length - (intOf i).toNat)
  case atStart => exact ⟨0, rfl, Nat.zero_le _, by simpa using H8.out.2, H8.out.1⟩
  case round =>
    obtain ⟨c, rfl, hcl, hown, hB⟩ := hrel
    obtain ⟨a9, c9, e9⟩ := hown.form
    subst e9
    by_cases hlt : c < Wl.length
    · obtain ⟨b1, o1, rfl, hb1, d1⟩ := HI.out.2.2.2.2.2.2 c hlt
      have g1 := (hB.cell (p := ⟨b1, o1 + c, none⟩) hb1).trans d1
      obtain ⟨x, hx⟩ : ∃ x, Wl[c] = x := ⟨_, rfl⟩
      rw [hx] at g1
      have hIV := HI.out.1.below hB
      have hfl : ((V ++ (Wl.take c).filter fun y => !V.contains y)).length ≤ 6000 := by
        have := List.length_filter_le (fun y => !V.contains y) (Wl.take c)
        rw [List.length_append]
        have h2 : (Wl.take c).length ≤ 3000 := by rw [List.length_take]; omega
        omega
      have htk : Wl.take (c + 1) = Wl.take c ++ [x] := by rw [List.take_add_one, List.getElem?_eq_getElem hlt, hx]; rfl
      generalize hL : (V ++ (Wl.take c).filter fun y => !V.contains y) = L at hown hfl ⊢
      have HL := Lib.hid (And.intro hL (And.intro htk (And.intro hB hown)))
      clear hL htk hB hown d1 H8 hx
      go_wp2_with fail
      refine (has_at _ V x wr hIV (by omega)).mono ?_
      rintro r w9 ⟨rfl, hb9⟩
      have hB9 := HL.out.2.2.1.trans (hb9.mono HL.out.2.2.1.size)
      have hown9 := HL.out.2.2.2.below hb9
      have g9 := (hb9.cell (p := ⟨b1, o1 + c, none⟩) (Nat.lt_of_lt_of_le hb1 HL.out.2.2.1.size)).trans g1
      clear hIV g1
      by_cases hcn : V.contains x = true
      · rw [hcn]
        have H9 := Lib.hid (And.intro hB9 hown9)
        clear hB9 hown9 hb9
        go_wp2_with fail
        go_roundw
        case rel =>
          refine ⟨c + 1, by simp, hlt, ?_, H9.out.1⟩
          have e1 : ([x].filter fun y => !V.contains y) = [] := by simp at hcn; simp [hcn]
          rw [HL.out.2.1, List.filter_append, e1, List.append_nil, HL.out.1]
          exact H9.out.2
        case measure => simp [intOf]; omega
      · have hcn' : V.contains x = false := by simpa using hcn
        rw [hcn']
        have hB9' := hB9.alloc hB9.size (.cells #[.int .i64 x] 3)
        have hown9' := hown9.alloc (.cells #[.int .i64 x] 3)
        have hone := one_int w9 x
        have hlt9 : w6.heap.size ≤ w9.heap.size := hB9.size
        clear hB9 hown9 hb9 hcn
        go_wp2_with (at_builtin; refine wpList_append_ints rfl _ _ rfl w6.heap.size _ L rfl hown9' _ [x] rfl hone (by simp; omega) (by simp; omega) ?_; intro v10 w10 hown10 hgrow10)
        have hB10 : Below w6.heap.size w6 w10 := hB9'.grown hgrow10 (by simp; omega) hown9'.lt
        obtain ⟨a10, c10, e10⟩ := hown10.form
        subst e10
        have H10 := Lib.hid (And.intro hB10 hown10)
        clear hB10 hown10 hgrow10 hone hown9' hB9' g9
        go_wp2_with fail
        go_roundw
        case rel =>
          refine ⟨c + 1, by simp, hlt, ?_, H10.out.1⟩
          have e1 : ([x].filter fun y => !V.contains y) = [x] := by simp at hcn'; simp [hcn']
          rw [HL.out.2.1, List.filter_append, e1, ← List.append_assoc, HL.out.1]
          exact H10.out.2
        case measure => simp [intOf]; omega
    · have hce : c = Wl.length := by omega
      subst hce
      rw [List.take_length] at hown
      rw [List.take_length]
      generalize hL : (V ++ Wl.filter fun y => !V.contains y) = L at hown ⊢
      have HL := Lib.hid hL
      have H9 := Lib.hid (And.intro hB hown)
      clear hB hown H8 hL
      go_wp2_with fail
      obtain ⟨wA, hwA⟩ : ∃ wA, wA = wr := ⟨_, rfl⟩
      rw [← hwA] at H9 ⊢
      clear hwA wr
      go_loopw [10] (fun i wr => ∃ c : Nat, i = .int .i64 c ∧ c ≤ V.length ∧ Below wA.heap.size wA wr) (fun i _ => V.length - (intOf i).toNat)
      case atStart => exact ⟨0, rfl, Nat.zero_le _, Below.refl _ _⟩
      case round =>
        obtain ⟨c, rfl, hcl, hB⟩ := hrel
        by_cases hlt : c < V.length
        · obtain ⟨b1, o1, rfl, hb1, d1⟩ := HI.out.2.2.1.2.2.2 c hlt
          have hBw := H9.out.1.trans (hB.mono H9.out.1.size)
          have g1 := (hBw.cell (p := ⟨b1, o1 + c, none⟩) hb1).trans d1
          have hnot := nodup_take HN.out.1 c hlt
          have hIV := (HI.out.1.below hBw).take c (by omega)
          obtain ⟨x, hx⟩ : ∃ x, V[c] = x := ⟨_, rfl⟩
          rw [hx] at g1 hnot
          have hlt1 : b1 < wr.heap.size := Nat.lt_of_lt_of_le hb1 hBw.size
          have hcap : c ≤ c5 := Nat.le_trans hcl HI.out.2.2.1.1
          have HS : ∀ w', Below wr.heap.size wr w' → (w'.cell? ⟨b1, o1 + c, none⟩ = some (.int .i64 x) ∧ Below wr.heap.size wr w') := fun w' hb => ⟨(hb.cell (p := ⟨_, _, none⟩) hlt1).trans g1, hb⟩
          have hhas : ∀ w', Below wr.heap.size wr w' → Calls Try.prog 30 #[.slice (some ⟨b1, o1, none⟩) c c5, .int .i64 x] w' fun r w'' => r = .returned (.bool false) ∧ Below wr.heap.size wr w'' := fun w' hb =>
            (has_at _ (V.take c) x w' (hIV.below hb) (by rw [List.length_take]; omega)).mono fun r w'' h => ⟨by rw [h.1, hnot], hb.trans (h.2.mono hb.size)⟩
          have HB := Lib.hid hB
          clear d1 hBw g1 hnot hIV hx hB
          go_wp2_with fail
          go_region_held3 (fun w' => w'.cell? ⟨b1, o1 + c, none⟩ = some (.int .i64 x) ∧ Below wr.heap.size wr w')
            (first | exact HS _ (Below.refl _ _).drew | exact HS _ hb4)
            (first | (go_at_call 30; (with_reducible refine (hhas _ (by go_split_ands; assumption)).mono ?_); rintro e w4' ⟨rfl, hb4⟩))
          go_wp2_with fail
          go_roundw
          case rel => exact ⟨c + 1, by simp, hlt, HB.out.trans (hb4.mono HB.out.size)⟩
          case measure => simp [intOf]; omega
        · have hce : c = V.length := by omega
          subst hce
          have hBw := H9.out.1.trans (hB.mono H9.out.1.size)
          have hbx := tbox_below H6.out.2.1 hBw
          have hby := tbox_below H6.out.2.2 hBw
          obtain ⟨y0, y1, y2, y3⟩ := tbox_cells hbx
          obtain ⟨z0, z1, z2, z3⟩ := tbox_cells hby
          have hA7 := Has.below hA6 hBw
          have hB7 := Has.below hB6 hBw
          have hw7 := H9.out.2.below hB
          have H7 := Lib.hid (And.intro (H6.out.1.trans (hBw.mono H6.out.1.size)) hw7)
          clear hBw hbx hby hA6 hB6 hw7 hB H6
          go_wp2_with fail
          refine (make_at (ByteArray.mk #[102]) _ [A, B] _ (by unfold maxLen; decide) (two_terms hA7 hB7) (by rw [Tm.sizes_cons, Tm.sizes_cons, Tm.sizes_nil]; omega)).mono ?_
          intro r w8' h8
          obtain ⟨k8, n8, s8, a8', l8, c8', rfl, hM8, hb8⟩ := h8.has
          have hA78 := (Below.refl wr.heap.size wr).alloc (Nat.le_refl _) (.cells #[.int .i64 k, .int .i64 n, .string s, .slice a len cap, .int .i64 k', .int .i64 n', .string s', .slice a' len' cap'] 24)
          have hB78 := hA78.trans (hb8.mono hA78.size)
          have hw8 := H7.out.2.below hB78
          have H8' := Lib.hid (And.intro (H7.out.1.trans (hB78.mono H7.out.1.size)) hw8)
          clear h8 hb8 hA78 hB78 hw8 hA7 hB7 H7 y0 y1 y2 y3 z0 z1 z2 z3
          go_wp2_with fail
          refine (vars_at _ _ w8' hM8 (by rw [Tm.size_mk, Tm.sizes_cons, Tm.sizes_cons, Tm.sizes_nil]; omega)).mono ?_
          rintro r w9' ⟨r9, rfl, hr9, hb9⟩
          rw [HN.out.2, HL.out] at hr9
          obtain ⟨a9', c9', e9', _⟩ := id hr9
          subst e9'
          have hw9 := (H8'.out.2.below hb9).ints
          have hl9 : L.length ≤ 6000 := by
            have := List.length_filter_le (fun y => !V.contains y) Wl
            rw [← HL.out, List.length_append]; omega
          have hints := (ints_at _ _ _ _ w9' hr9 hw9 (by omega) (by omega)).mono (R' := fun e w9 => e = .returned (.bool true) ∧ Below w9'.heap.size w9' w9) (fun e w9 h => ⟨h.1.trans (by rw [decide_eq_true rfl]), h.2⟩)
          have H9' := Lib.hid (H8'.out.1.trans (hb9.mono H8'.out.1.size))
          clear hr9 hb9 hw9 hM8 H8'
          go_wp2_with fail
          refine hints.mono ?_
          rintro r w10 ⟨rfl, hb10⟩
          have H10 := Lib.hid (H9'.out.trans (hb10.mono H9'.out.size))
          clear hints hb10
          go_wp2_with fail
          go_ret
          exact ⟨rfl, H10.out⟩


end Go.Proofs.Ytmbikojjhdildaa
