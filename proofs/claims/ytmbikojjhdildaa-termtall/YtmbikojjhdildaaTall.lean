/-
  The law TermTall: its walk.
-/
import Derived.Test.YtmbikojjhdildaaShown
namespace Go.Proofs.Ytmbikojjhdildaa
open Go.RowKit Go.Shelf
set_option linter.unusedVariables false

theorem leaf_any {p q : Nat → Prop} {W W' : World} {v : Value} {k n : Int} {s : ByteArray} (h : TmIn p W v (.mk k n s [])) : TmIn q W' v (.mk k n s []) := by
  obtain ⟨k_, n_, s_, a, len, cap, ks, rfl, e, rfl, hk, hn, hs, hc, hm, ha⟩ := h.form
  injection e with e1 e2 e3 e4
  subst e1 e2 e3 e4
  exact .mk hk hn hs hc hm ha (fun _ => .bool true) (fun _ => 0) (fun _ => 0) (fun _ => ByteArray.mk #[]) (fun i hi => absurd hi (Nat.not_lt_zero _)) (fun i hi => absurd hi (Nat.not_lt_zero _))

/-- A name in a name, and so on, with a variable in it. -/
def tall (v : Int) : Nat → Tm
  | 0 => .mk 1 v (ByteArray.mk #[]) []
  | i + 1 => .mk 3 0 (ByteArray.mk #[115]) [tall v i]

theorem tall_size (v : Int) : ∀ i, (tall v i).size = i + 1
  | 0 => by rw [tall, Tm.size_mk, Tm.sizes_nil]
  | i + 1 => by rw [tall, Tm.size_mk, Tm.sizes_cons, Tm.sizes_nil, tall_size v i]; omega
theorem tall_deep (v : Int) : ∀ i, (tall v i).deep = i + 1
  | 0 => by rw [tall, Tm.deep_mk, Tm.deeps_nil]
  | i + 1 => by rw [tall, Tm.deep_mk, Tm.deeps_cons, Tm.deeps_nil, tall_deep v i]; omega
theorem tall_parts (v : Int) (i d : Nat) : (tall v (i + 1)).parts d = (d, .mk 3 0 (ByteArray.mk #[115]) [tall v i]) :: (tall v i).parts (d + 1) := by
  rw [tall, Tm.parts_mk, Tm.partss_cons, Tm.partss_nil, List.append_nil]
theorem tall_varsL (v : Int) : ∀ i d, varsL ((tall v i).parts d) = [v]
  | 0, d => by rw [tall, Tm.parts_mk, Tm.partss_nil]; rfl
  | i + 1, d => by
    rw [tall_parts, varsL, List.foldl_cons]
    exact tall_varsL v i (d + 1)
theorem tall_validL (v : Int) (h0 : 0 ≤ v) (h1 : v < 4096) : ∀ i d, validL 1 ((tall v i).parts d) = true
  | 0, d => by
    rw [tall, Tm.parts_mk, Tm.partss_nil]
    simp [validL, Tm.formed, Tm.kind, Tm.num, Tm.name, Tm.kids, h0, h1]
  | i + 1, d => by
    rw [tall_parts, validL, List.all_cons]
    have hs : (ByteArray.mk #[115]).size = 1 := rfl
    have := tall_validL v h0 h1 i (d + 1)
    rw [validL] at this
    rw [this]
    simp [Tm.formed, Tm.kind, Tm.num, Tm.name, Tm.kids, hs]
theorem tall_check (v : Int) (i : Nat) (h0 : 0 ≤ v) (h1 : v < 4096) (hi : i ≤ 255) : (tall v i).check 1 = if i < 60 then 0 else 7 := by
  rw [Tm.check, tall_size, tall_deep, Tm.valid, tall_validL v h0 h1, if_neg (by omega)]
  by_cases h : i < 60
  · rw [if_neg (by omega), if_pos rfl, if_pos h]
  · rw [if_pos (by omega), if_neg h]

set_option maxRecDepth 100000 in
set_option maxHeartbeats 4000000 in
theorem termTall_at (n v : Int) (w : World) (hn0 : 0 ≤ n) (hn1 : n ≤ 255) (hv0 : 0 ≤ v) (hv1 : v ≤ 255) :
    Calls Try.prog 9 #[.int .u8 n, .int .u8 v] w fun e w' => e = .returned (.bool true) ∧ Below w.heap.size w w' := by
  obtain ⟨N, rfl⟩ : ∃ N : Nat, n = N := ⟨n.toNat, by omega⟩
  go_enter Try.func9, Try.ntmps9
  go_wp2_with fail
  refine (shown_at w).mono ?_
  rintro e w1 ⟨rfl, hB1⟩
  have HB1 := Lib.hid hB1
  clear hB1
  go_wp2_with fail
  refine (let_at v w1 ⟨by omega, by omega⟩).mono ?_
  intro e w2 h2
  obtain ⟨k2, n2, s2, a2, l2, c2, rfl, hT2, hB2⟩ := h2.has
  have hT2' : TmIn (fun b => w2.heap.size < b ∧ b < w2.heap.size + 1) (w2.alloc (.cells #[.int .i64 k2, .int .i64 n2, .string s2, .slice a2 l2 c2] 24)) (.agg #[.int .i64 k2, .int .i64 n2, .string s2, .slice a2 l2 c2]) (tall v 0) := leaf_any hT2
  clear hT2 h2
  have HB2 := Lib.hid (HB1.out.trans (hB2.mono HB1.out.size))
  clear HB1 hB2
  have HT2 := Lib.hid hT2'
  clear hT2'
  go_wp2_with fail
  obtain ⟨Bt, hBt⟩ : ∃ Bt, Bt = w2.heap.size := ⟨_, rfl⟩
  have HBt := Lib.hid hBt
  rw [← hBt]
  clear hBt
  go_loopw [7] (fun i wr => ∃ c : Nat, i = .int .i64 c ∧ c ≤ N ∧ (∃ (k n : Int) (s : ByteArray) (a : Option Addr) (len cap : Nat), wr.heap[Bt]? = some (.cells #[.int .i64 k, .int .i64 n, .string s, .slice a len cap] 24 (0, 0)) ∧ TmIn (fun b => Bt < b ∧ b < wr.heap.size) wr (.agg #[.int .i64 k, .int .i64 n, .string s, .slice a len cap]) (tall v c)) ∧ Below w.heap.size w wr) (fun i _ => N - (intOf i).toNat)
  case atStart =>
    have hb := HBt.out
    subst hb
    exact ⟨0, rfl, Nat.zero_le _, ⟨k2, n2, s2, a2, l2, c2, World.alloc_heap_new _ _, by simpa using HT2.out⟩, HB2.out.alloc HB2.out.size _⟩
  case round =>
    obtain ⟨c, rfl, hc, ⟨k, n, s, a, len, cap, hbox, hT⟩, hB⟩ := hrel
    have hBlt : Bt < wr.heap.size := (Array.getElem?_eq_some_iff.1 hbox).1
    have hBw : w.heap.size ≤ Bt := by rw [HBt.out]; exact HB2.out.size
    have hTr : Has wr (.agg #[.int .i64 k, .int .i64 n, .string s, .slice a len cap]) (tall v c) := hT.carry (fun _ _ => rfl) (fun b hb => hb.2)
    obtain ⟨x0, x1, x2, x3⟩ := tbox_cells hbox
    have HX := Lib.hid (And.intro hbox (And.intro hB (And.intro hBlt (And.intro hBw hT))))
    clear hbox hB hBlt hBw hT HT2
    by_cases hlt : c < N
    · have hlt' : (c : Int) < (N : Int) := by omega
      have hmk := (make_at (ByteArray.mk #[115]) _ [tall v c] _ (by unfold maxLen; decide) (one_term hTr) (by rw [Tm.sizes_cons, Tm.sizes_nil, tall_size]; omega)).mono (R' := fun e w4 => ∃ (k4 n4 : Int) (s4 : ByteArray) (a4 : Option Addr) (l4 c4 : Nat), e = .returned (.agg #[.int .i64 k4, .int .i64 n4, .string s4, .slice a4 l4 c4]) ∧
          w4.cell? ⟨Bt, 0, none⟩ = some (.int .i64 k) ∧ w4.cell? ⟨Bt, 1, none⟩ = some (.int .i64 n) ∧ w4.cell? ⟨Bt, 2, none⟩ = some (.string s) ∧ w4.cell? ⟨Bt, 3, none⟩ = some (.slice a len cap) ∧ (∀ j, w4.frozen? ⟨Bt, j, none⟩ = false) ∧
          w4.heap[Bt]? = some (.cells #[.int .i64 k, .int .i64 n, .string s, .slice a len cap] 24 (0, 0)) ∧ TmIn (fun b => Bt < b ∧ b < w4.heap.size) w4 (.agg #[.int .i64 k4, .int .i64 n4, .string s4, .slice a4 l4 c4]) (tall v (c + 1)) ∧ Below w.heap.size w w4) (fun e w4 h4 => by
        obtain ⟨r, rfl, hr, hb4⟩ := h4
        obtain ⟨k4, n4, s4, a4, l4, c4, ks4, rfl, -⟩ := hr.form
        have hA := (Below.refl wr.heap.size wr).alloc (Nat.le_refl _) (.cells #[.int .i64 k, .int .i64 n, .string s, .slice a len cap] 24)
        have hB4 := hA.trans (hb4.mono hA.size)
        have y := tbox_below HX.out.1 hB4
        obtain ⟨y0, y1, y2, y3⟩ := tbox_cells y
        exact ⟨k4, n4, s4, a4, l4, c4, rfl, y0, y1, y2, y3, (fun j => by simp [World.frozen?, y]), y, hr.carry (fun _ _ => rfl) (fun b hb => ⟨Nat.lt_of_lt_of_le (Nat.lt_of_lt_of_le HX.out.2.2.1 hA.size) hb.1, hb.2⟩), HX.out.2.1.trans (hB4.mono HX.out.2.1.size)⟩)
      clear hTr
      go_wp2_with (go_at_call 25; refine hmk.mono ?_; clear hmk; rintro e w4 ⟨k4, n4, s4, a4, l4, c4, rfl, y0, y1, y2, y3, yf, hy, hT4, hB4⟩)
      go_roundw
      case rel =>
        refine ⟨c + 1, by simp, hlt, ⟨k4, n4, s4, a4, l4, c4, four_block hy _ _ _ _, hT4.carry (fun b hb => ?_) (fun b hb => ⟨hb.1, by simpa using hb.2⟩)⟩, (((hB4.setCell (p := ⟨Bt, 0, none⟩) HX.out.2.2.2.1 _).setCell (p := ⟨Bt, 1, none⟩) HX.out.2.2.2.1 _).setCell (p := ⟨Bt, 2, none⟩) HX.out.2.2.2.1 _).setCell (p := ⟨Bt, 3, none⟩) HX.out.2.2.2.1 _⟩
        have hne : b ≠ Bt := by have := hb.1; omega
        rw [Below.heap_setCell _ _ _ _ hne, Below.heap_setCell _ _ _ _ hne, Below.heap_setCell _ _ _ _ hne, Below.heap_setCell _ _ _ _ hne]
      case measure => simp [intOf]; omega
    · have hce : c = N := by omega
      subst hce
      have hge : ¬ (c : Int) < (c : Int) := by omega
      by_cases h60 : c < 60
      · have h60' : (c : Int) < 60 := by omega
        have hck : (tall v c).check 1 = 0 := by rw [tall_check v c hv0 (by omega) (by omega)]; exact if_pos h60
        have hsz := tall_size v c
        have hle : (tall v c).size ≤ 1000000000000 := by omega
        have hle4 : (tall v c).size ≤ 4000000000000000000 := by omega
        go_wp2_with fail
        refine (check_at _ _ 1 wr hTr hle4).mono ?_
        rintro e w5 ⟨rfl, hB5⟩
        have hT5 := Has.below hTr hB5
        have hb5 := tbox_below HX.out.1 hB5
        obtain ⟨y0, y1, y2, y3⟩ := tbox_cells hb5
        have HB5 := Lib.hid (HX.out.2.1.trans (hB5.mono HX.out.2.1.size))
        have HBX5 := Lib.hid hb5
        clear hB5 hb5 hTr x0 x1 x2 x3
        rw [hck]
        go_wp2_with fail
        refine (deep_at _ _ w5 hT5 hle4).mono ?_
        rintro e w6 ⟨rfl, hB6⟩
        have hT6 := Has.below hT5 hB6
        have hb6 := tbox_below HBX5.out hB6
        obtain ⟨z0, z1, z2, z3⟩ := tbox_cells hb6
        have HB6 := Lib.hid (HB5.out.trans (hB6.mono HB5.out.size))
        have HBX6 := Lib.hid hb6
        clear hB6 hb6 hT5 HB5 HBX5 y0 y1 y2 y3
        rw [tall_deep]
        go_wp2_with fail
        refine (size_at _ _ w6 hT6 hle4).mono ?_
        rintro e w7 ⟨rfl, hB7⟩
        have hT7 := Has.below hT6 hB7
        have hb7 := tbox_below HBX6.out hB7
        obtain ⟨t0, t1, t2, t3⟩ := tbox_cells hb7
        have HB7 := Lib.hid (HB6.out.trans (hB7.mono HB6.out.size))
        clear hB7 hb7 hT6 HB6 HBX6 z0 z1 z2 z3
        rw [tall_size]
        go_wp2_with fail
        refine (vars_at _ _ w7 hT7 hle).mono ?_
        rintro e w8 ⟨r8, rfl, hr8, hB8⟩
        rw [Tm.vars, tall_varsL] at hr8
        obtain ⟨a8, c8, rfl, h8⟩ := id hr8
        obtain ⟨w9, hw9⟩ : ∃ w9, w9 = w8.alloc (.cells #[.int .i64 v] 3) := ⟨_, rfl⟩
        have hA9 : Below w8.heap.size w8 w9 := by rw [hw9]; exact (Below.refl _ _).alloc (Nat.le_refl _) _
        have hi9 : IntsAt w9 (.slice (some ⟨w8.heap.size, 0, none⟩) 1 1) [v] := by rw [hw9]; exact one_int w8 v
        have hr9 := hr8.below hA9
        have HB9 := Lib.hid (HB7.out.trans ((hB8.trans (hA9.mono hB8.size)).mono HB7.out.size))
        have hints := (ints_at _ _ _ _ w9 hr9 hi9 (by simp) (by simp)).mono (R' := fun e w9' => e = .returned (.bool true) ∧ Below w9.heap.size w9 w9') (fun e w9' h => ⟨h.1.trans (by rw [decide_eq_true rfl]), h.2⟩)
        have HW9 := Lib.hid hw9
        clear hr8 h8 hA9 hi9 hr9 hw9 hB8 HB7 hT7 t0 t1 t2 t3
        go_wp2_with fail
        rw [← HW9.out]
        refine hints.mono ?_
        rintro e w10 ⟨rfl, hB10⟩
        have HB10 := Lib.hid (HB9.out.trans (hB10.mono HB9.out.size))
        clear hints hB10 HB9 HW9
        go_wp2_with fail
        go_ret
        first | exact ⟨rfl, HB10.out⟩ | exact ⟨congrArg (fun b => Ending.returned (Value.bool b)) (by simp; omega : (!decide ((c : Int) < 60)) = true), HB10.out⟩
      · have h60' : ¬ (c : Int) < 60 := by omega
        have h60'' : (60 : Int) ≤ (c : Int) := by omega
        have hck : (tall v c).check 1 = 7 := by rw [tall_check v c hv0 (by omega) (by omega)]; exact if_neg h60
        have hsz := tall_size v c
        have hle : (tall v c).size ≤ 1000000000000 := by omega
        have hle4 : (tall v c).size ≤ 4000000000000000000 := by omega
        go_wp2_with fail
        refine (check_at _ _ 1 wr hTr hle4).mono ?_
        rintro e w5 ⟨rfl, hB5⟩
        have hT5 := Has.below hTr hB5
        have hb5 := tbox_below HX.out.1 hB5
        obtain ⟨y0, y1, y2, y3⟩ := tbox_cells hb5
        have HB5 := Lib.hid (HX.out.2.1.trans (hB5.mono HX.out.2.1.size))
        have HBX5 := Lib.hid hb5
        clear hB5 hb5 hTr x0 x1 x2 x3
        rw [hck]
        go_wp2_with fail
        refine (deep_at _ _ w5 hT5 hle4).mono ?_
        rintro e w6 ⟨rfl, hB6⟩
        have hT6 := Has.below hT5 hB6
        have hb6 := tbox_below HBX5.out hB6
        obtain ⟨z0, z1, z2, z3⟩ := tbox_cells hb6
        have HB6 := Lib.hid (HB5.out.trans (hB6.mono HB5.out.size))
        have HBX6 := Lib.hid hb6
        clear hB6 hb6 hT5 HB5 HBX5 y0 y1 y2 y3
        rw [tall_deep]
        go_wp2_with fail
        refine (size_at _ _ w6 hT6 hle4).mono ?_
        rintro e w7 ⟨rfl, hB7⟩
        have hT7 := Has.below hT6 hB7
        have hb7 := tbox_below HBX6.out hB7
        obtain ⟨t0, t1, t2, t3⟩ := tbox_cells hb7
        have HB7 := Lib.hid (HB6.out.trans (hB7.mono HB6.out.size))
        clear hB7 hb7 hT6 HB6 HBX6 z0 z1 z2 z3
        rw [tall_size]
        go_wp2_with fail
        refine (vars_at _ _ w7 hT7 hle).mono ?_
        rintro e w8 ⟨r8, rfl, hr8, hB8⟩
        rw [Tm.vars, tall_varsL] at hr8
        obtain ⟨a8, c8, rfl, h8⟩ := id hr8
        obtain ⟨w9, hw9⟩ : ∃ w9, w9 = w8.alloc (.cells #[.int .i64 v] 3) := ⟨_, rfl⟩
        have hA9 : Below w8.heap.size w8 w9 := by rw [hw9]; exact (Below.refl _ _).alloc (Nat.le_refl _) _
        have hi9 : IntsAt w9 (.slice (some ⟨w8.heap.size, 0, none⟩) 1 1) [v] := by rw [hw9]; exact one_int w8 v
        have hr9 := hr8.below hA9
        have HB9 := Lib.hid (HB7.out.trans ((hB8.trans (hA9.mono hB8.size)).mono HB7.out.size))
        have hints := (ints_at _ _ _ _ w9 hr9 hi9 (by simp) (by simp)).mono (R' := fun e w9' => e = .returned (.bool true) ∧ Below w9.heap.size w9 w9') (fun e w9' h => ⟨h.1.trans (by rw [decide_eq_true rfl]), h.2⟩)
        have HW9 := Lib.hid hw9
        clear hr8 h8 hA9 hi9 hr9 hw9 hB8 HB7 hT7 t0 t1 t2 t3
        go_wp2_with fail
        rw [← HW9.out]
        refine hints.mono ?_
        rintro e w10 ⟨rfl, hB10⟩
        have HB10 := Lib.hid (HB9.out.trans (hB10.mono HB9.out.size))
        clear hints hB10 HB9 HW9
        go_wp2_with fail
        go_ret
        first | exact ⟨rfl, HB10.out⟩ | exact ⟨congrArg (fun b => Ending.returned (Value.bool b)) (by simp; omega : (!decide ((c : Int) < 60)) = true), HB10.out⟩

end Go.Proofs.Ytmbikojjhdildaa
