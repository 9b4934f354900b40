/-
  The laws' few; where there is no store; the document's example.
-/
import Derived.Test.YtnaopkkdidngoaaStoN
import Derived.Test.YtnaopkkdidngoaaSame
import Derived.Test.YtnaopkkdidngoaaShown
namespace Go.Proofs.Ytnaopkkdidngoaa
open Go.RowKit Go.Shelf
set_option linter.unusedVariables false
set_option linter.unusedSimpArgs false

theorem StAt.step {n₀ : Nat} {w w' : World} {b : Nat} {V L : Value} {σ : St} (h : StAt (Oth w b V L) n₀ w b V L σ) (k : Below w.heap.size w w') : StAt (Oth w' b V L) n₀ w' b V L σ :=
  (h.below k).weak (fun c hc => hc.below k) fun c hc => hc

set_option maxRecDepth 100000 in
set_option maxHeartbeats 1000000 in
theorem few10_at (v : Value) (T : Tm) (w : World) (hv : Has w v T) (hs : T.size ≤ 1000000000000) :
    Calls Try.prog 10 #[v] w (Gets w (.bool (decide (T.size ≤ 300)))) := by
  obtain ⟨k, n, s, a, len, cap, ks, rfl, e, -⟩ := hv.form
  clear e
  have hb : Below w.heap.size w (w.alloc (.cells #[.int .i64 k, .int .i64 n, .string s, .slice a len cap] 25)) := (Below.refl _ w).alloc (Nat.le_refl _) _
  have h := (rsize_at T _ _ (Has.below hv hb) hs).mono (R' := Gets w (.int .i64 (T.size : Int))) (fun e w2 h => ⟨h.1, hb.trans (h.2.mono hb.size)⟩)
  clear hv hb
  go_enter Try.func10, Try.ntmps10
  go_wp2_with (go_at_call 26; refine h.mono ?_; clear h; rintro e w2 ⟨rfl, hB⟩)
  go_ret
  refine ⟨congrArg (fun b => Ending.returned (Value.bool b)) ?_, hB⟩
  rw [Bool.eq_iff_iff]
  simp
  omega

set_option maxRecDepth 100000 in
theorem undo_nil (v : Int) (w : World) : Calls Try.prog 17 #[.pointer none, .int .i64 v] w fun e w' => e = .returned (.tuple #[]) ∧ w' = w := by
  have h1 : (0 : Int) ≤ max v 0 := by omega
  go_enter Try.func17, Try.ntmps17
  go_wp2_with (go_at_call 13; refine (mark_nil _).mono ?_; rintro e w2 ⟨rfl, rfl⟩)
  all_goals exact bodyPost_ret (results_none rfl _ _ _) rfl ⟨rfl, rfl⟩

def exV1 : Tm := .mk 1 1 (ByteArray.mk #[]) []
def exV0 : Tm := .mk 1 0 (ByteArray.mk #[]) []
def exFV : Tm := .mk 3 0 (ByteArray.mk #[102]) [exV1]
def exA10 : Tm := .mk 3 0 (ByteArray.mk #[97]) []
def exFA : Tm := .mk 3 0 (ByteArray.mk #[102]) [exA10]
def σ2 : St := ⟨[none, none], []⟩
theorem σ2_eq : (St.mk [] []).fresh 2 = σ2 := rfl
theorem σ2_met : ¬ Met σ2 ((0 : Nat) : Int) exFV := by
  rintro ⟨n, h⟩
  cases h with
  | var _ h1 _ => cases h1
  | bound h _ => have := (St.val_some h).1; cases this
  | kid _ _ hU g =>
    have hU : _ ∈ [exV1] := hU
    rw [List.mem_singleton.1 hU] at g
    cases g with
    | var _ _ hn => cases hn
    | bound h _ => cases h
    | kid h1 _ _ _ => exact h1 rfl
def σ3 : St := σ2.bind 0 exFV
theorem σ3_met : ¬ Met σ3 ((1 : Nat) : Int) exA10 := by
  rintro ⟨n, h⟩
  cases h with
  | var _ h1 _ => cases h1
  | bound h _ => have := (St.val_some h).1; cases this
  | kid _ _ hU g => cases hU
def σ4 : St := σ3.bind 1 exA10
theorem σ4_fin0 : σ4.fin exV0 = exFV := (EndsN.step (U := exFV) rfl (.stop rfl)).fin
theorem σ4_fin1 : σ4.fin exV1 = exA10 := (EndsN.step (U := exA10) rfl (.stop rfl)).fin
theorem σ4_fill : σ4.fill 60 1000 exV0 = .ok exFA 998 := by
  have h1 : σ4.fill 59 999 exV1 = .ok exA10 998 := by
    show σ4.fill (58 + 1) 999 exV1 = _
    rw [St.fill, if_neg (by decide), σ4_fin1]
    rfl
  show σ4.fill (59 + 1) 1000 exV0 = _
  rw [St.fill, if_neg (by decide), σ4_fin0]
  have h2 : fillL (σ4.fill 59) (1000 - 1) exFV.kids = .ok [exA10] 998 := by
    show fillL (σ4.fill 59) 999 ([] ++ [exV1]) = _
    rw [fillL_snoc, fillL_nil]
    simp only [h1]; rfl
  rw [h2]; rfl
set_option maxRecDepth 100000 in
set_option maxHeartbeats 4000000 in
theorem walk_nil (v : Value) (T : Tm) (w : World) (hv : Has w v T) (hs : T.size ≤ 1000000000000) :
    Calls Try.prog 15 #[.pointer none, v] w (NewTm w T) := by
  obtain ⟨k, n, s, a, len, cap, ks, rfl, e, -⟩ := hv.form
  obtain ⟨w2, hw2⟩ : ∃ w2, w2 = (w.alloc (.cells #[.int .i64 k, .int .i64 n, .string s, .slice a len cap] 25)).alloc (.cells #[.int .i64 0, .int .i64 0, .string (ByteArray.mk #[]), .slice none 0 0] 25) := ⟨_, rfl⟩
  have hb2 : Below w.heap.size w w2 := by rw [hw2]; exact ((Below.refl _ w).alloc (Nat.le_refl _) _).alloc (by simp) _
  have hx2 : w2.heap[w.heap.size + 1]? = some (.cells #[.int .i64 0, .int .i64 0, .string (ByteArray.mk #[]), .slice none 0 0] 25 (0, 0)) := by rw [hw2]; simpa using World.alloc_heap_new (w.alloc (.cells #[.int .i64 k, .int .i64 n, .string s, .slice a len cap] 25)) (.cells #[.int .i64 0, .int .i64 0, .string (ByteArray.mk #[]), .slice none 0 0] 25)
  have hx1 : w2.heap[w.heap.size]? = some (.cells #[.int .i64 k, .int .i64 n, .string s, .slice a len cap] 25 (0, 0)) := by rw [hw2]; exact (Below.heap_alloc _ _ _ (by simp)).trans (World.alloc_heap_new _ _)
  have hsz2 : w2.heap.size = w.heap.size + 2 := by rw [hw2]; simp
  obtain ⟨x0, x1, x2, x3⟩ := tbox_cells hx1
  have hend := end_nil _ T (fun c => c < w2.heap.size) w2 (fun c hc => hc) (Has.below hv hb2)
  have hwh : ∀ k5 n5 s5 a5 l5 c5 w5, TmIn (fun c => c < w2.heap.size) w5 (.agg #[.int .i64 k5, .int .i64 n5, .string s5, .slice a5 l5 c5]) T → Below w2.heap.size w2 w5 → Calls Try.prog 27 #[.agg #[.int .i64 k5, .int .i64 n5, .string s5, .slice a5 l5 c5]] w5 fun e w4 =>
      ∃ k4 n4 s4 a4 l4 c4, e = .returned (.agg #[.int .i64 k4, .int .i64 n4, .string s4, .slice a4 l4 c4]) ∧ w4.cell? ⟨w.heap.size + 1, 0, none⟩ = some (.int .i64 0) ∧ w4.cell? ⟨w.heap.size + 1, 1, none⟩ = some (.int .i64 0) ∧ w4.cell? ⟨w.heap.size + 1, 2, none⟩ = some (.string (ByteArray.mk #[])) ∧ w4.cell? ⟨w.heap.size + 1, 3, none⟩ = some (.slice none 0 0) ∧ (∀ j, w4.frozen? ⟨w.heap.size + 1, j, none⟩ = false) ∧
      Hid (w4.heap[w.heap.size + 1]? = some (.cells #[.int .i64 0, .int .i64 0, .string (ByteArray.mk #[]), .slice none 0 0] 25 (0, 0)) ∧ TmIn (fun b => w2.heap.size ≤ b ∧ b < w4.heap.size) w4 (.agg #[.int .i64 k4, .int .i64 n4, .string s4, .slice a4 l4 c4]) T ∧ Below w.heap.size w w4) := by
    intro k5 n5 s5 a5 l5 c5 w5 hT5 hb5
    refine (swhole_at _ T w5 (hT5.carry (fun _ _ => rfl) fun c hc => Nat.lt_of_lt_of_le hc hb5.size) hs).mono ?_
    rintro e w4 ⟨r, rfl, hr, hb4⟩
    obtain ⟨k4, n4, s4, a4, l4, c4, ks4, rfl, -⟩ := hr.form
    have hb24 := hb5.trans (hb4.mono hb5.size)
    have y2 := tbox_below hx2 hb24
    obtain ⟨z0, z1, z2, z3⟩ := tbox_cells y2
    exact ⟨k4, n4, s4, a4, l4, c4, rfl, z0, z1, z2, z3, (fun j => by simp [World.frozen?, y2]), y2, hr.carry (fun _ _ => rfl) (fun c hc => ⟨Nat.le_trans hb5.size hc.1, hc.2⟩), hb2.trans (hb24.mono hb2.size)⟩
  have hz := zeroTerm
  have HS := Lib.hid hsz2
  have HW := Lib.hid hw2
  clear hv hb2 hx1 hx2 hsz2 e hw2
  go_enter Try.func15, Try.ntmps15
  go_wp2_with fail
  rw [← HW.out]
  go_wp2_with (first
    | (go_at_call 27; (with_reducible refine (hwh _ _ _ _ _ _ _ hT5 hb5).mono ?_); rintro e w4 ⟨k4, n4, s4, a4, l4, c4, rfl, z0, z1, z2, z3, zf, HZ⟩)
    | (go_at_call 29; (with_reducible refine hend.mono ?_); rintro e w5 ⟨k5, n5, s5, a5, l5, c5, rfl, hT5, hb5⟩))
  obtain ⟨y2, hT, hB⟩ := HZ.out
  obtain ⟨w6, hw6, hb6, hT6, hB6, hs6⟩ := boxed_new (q := fun b => w.heap.size ≤ b ∧ b < w4.heap.size) y2 hT (fun b hb => by have := HS.out; have := hb.1; omega) (fun b hb => by have := HS.out; have := hb.1; have := hb.2; omega) hB (Nat.le_succ _)
  rw [← hw6]
  obtain ⟨f0, f1, f2, f3⟩ := tbox_cells hb6
  refine bodyPost_ret (v := .agg #[.int .i64 k4, .int .i64 n4, .string s4, .slice a4 l4 c4]) (by simp [results, Try.f15, go_sem, f0, f1, f2, f3]) rfl ?_
  exact ⟨_, rfl, by rw [hs6]; exact hT6, hB6⟩

theorem NewTm.has10 {w w' : World} {T : Tm} {e : Ending} (h : NewTm w T e w') : ∃ k n s a len cap, e = .returned (.agg #[.int .i64 k, .int .i64 n, .string s, .slice a len cap]) ∧ Has w' (.agg #[.int .i64 k, .int .i64 n, .string s, .slice a len cap]) T ∧ Below w.heap.size w w' := h.has

set_option maxRecDepth 100000 in
set_option maxHeartbeats 8000000 in
theorem shown10_at (w : World) : Calls Try.prog 8 #[] w (Gets w (.bool true)) := by
  go_enter Try.func8, Try.ntmps8
  go_wp2_with fail
  refine (new_at10 w w.heap.size (Nat.le_refl _)).mono ?_
  rintro e w1 ⟨rfl, hB1, hlt1, hS1⟩
  have H := Lib.hid (And.intro hB1 hS1)
  clear hB1 hS1 hlt1
  go_wp2_with fail
  refine (fresh_at10 H.out.2 H.out.1.size 2 (by decide)).mono ?_
  rintro e w2 ⟨rfl, V2, hS2, hM2⟩
  have H2 := Lib.hid (And.intro (H.out.1.trans (Mut.below H.out.2 hM2 H.out.1.size)) hS2)
  clear hS2 hM2 H
  rw [σ2_eq] at H2
  go_wp2_with fail
  refine (let_at 1 w2 ⟨by decide, by decide⟩).mono ?_
  intro e w3 h3
  obtain ⟨k3, n3, s3, a3, l3, c3, rfl, hT3, hB3⟩ := h3.has
  have H3 := Lib.hid (And.intro (H2.out.1.trans (hB3.mono H2.out.1.size)) (H2.out.2.step hB3))
  have HT3 := Lib.hid hT3
  clear h3 hT3 hB3 H2
  go_wp2_with fail
  refine (make_at (ByteArray.mk #[102]) _ [exV1] _ (by unfold maxLen; decide) (one_term HT3.out) (by decide)).mono ?_
  intro e w4 h4
  obtain ⟨k4, n4, s4, a4, l4, c4, rfl, hT4, hB4⟩ := h4.has
  have hA := ((Below.refl w3.heap.size w3).alloc (Nat.le_refl _) (.cells #[.int .i64 k3, .int .i64 n3, .string s3, .slice a3 l3 c3] 25))
  have hB34 := hA.trans (hB4.mono hA.size)
  have H4 := Lib.hid (And.intro (H3.out.1.trans (hB34.mono H3.out.1.size)) (H3.out.2.step hB34))
  have HT4 := Lib.hid hT4
  clear h4 hT4 hB4 hA hB34 H3 HT3
  go_wp2_with fail
  refine (bind_at10 H4.out.2 H4.out.1.size 0 _ exFV HT4.out (by decide) rfl σ2_met).mono ?_
  rintro e w5 ⟨rfl, L5, hS5, hM5⟩
  have H5 := Lib.hid (And.intro (H4.out.1.trans (Mut.below H4.out.2 hM5 H4.out.1.size)) (show StAt _ _ _ _ _ _ σ3 from hS5))
  clear hS5 hM5 H4 HT4
  go_wp2_with fail
  refine (atom_at (ByteArray.mk #[97]) w5 (by unfold maxLen; decide)).mono ?_
  intro e w6 h6
  obtain ⟨k6, n6, s6, a6, l6, c6, rfl, hT6, hB6⟩ := h6.has
  have H6 := Lib.hid (And.intro (H5.out.1.trans (hB6.mono H5.out.1.size)) (H5.out.2.step hB6))
  have HT6 := Lib.hid hT6
  clear h6 hT6 hB6 H5
  go_wp2_with fail
  refine (bind_at10 H6.out.2 H6.out.1.size 1 _ exA10 HT6.out (by decide) rfl σ3_met).mono ?_
  rintro e w7 ⟨rfl, L7, hS7, hM7⟩
  have H7 := Lib.hid (And.intro (H6.out.1.trans (Mut.below H6.out.2 hM7 H6.out.1.size)) (show StAt _ _ _ _ _ _ σ4 from hS7))
  clear hS7 hM7 H6 HT6
  go_wp2_with fail
  refine (let_at 0 w7 ⟨by decide, by decide⟩).mono ?_
  intro e w8 h8
  obtain ⟨k8, n8, s8, a8, l8, c8, rfl, hT8, hB8⟩ := h8.has
  have H8 := Lib.hid (And.intro (H7.out.1.trans (hB8.mono H7.out.1.size)) (H7.out.2.step hB8))
  have HT8 := Lib.hid hT8
  clear h8 hT8 hB8 H7
  go_wp2_with fail
  refine (full_at H8.out.2 _ exV0 HT8.out).mono ?_
  rw [σ4_fill]
  rintro e w9 ⟨hB9, k9, n9, s9, a9, l9, c9, rfl, hT9⟩
  have H9 := Lib.hid (And.intro (H8.out.1.trans (hB9.mono H8.out.1.size)) (And.intro (H8.out.2.step hB9) (show Has w9 _ exFA from hT9.carry (fun _ _ => rfl) fun c hc => hc.2)))
  clear hT9 hB9 H8 HT8
  obtain ⟨wX, hwX⟩ : ∃ wX, wX = w9.alloc (.cells #[.int .i64 k9, .int .i64 n9, .string s9, .slice a9 l9 c9] 25) := ⟨_, rfl⟩
  have hBX : Below w9.heap.size w9 wX := by rw [hwX]; exact (Below.refl _ _).alloc (Nat.le_refl _) _
  have hbX : wX.heap[w9.heap.size]? = some (.cells #[.int .i64 k9, .int .i64 n9, .string s9, .slice a9 l9 c9] 25 (0, 0)) := by rw [hwX]; exact World.alloc_heap_new _ _
  obtain ⟨p0, p1, p2, p3⟩ := tbox_cells hbX
  have HX := Lib.hid (And.intro (H9.out.1.trans (hBX.mono H9.out.1.size)) (And.intro (H9.out.2.1.step hBX) (Has.below H9.out.2.2 hBX)))
  have HWX := Lib.hid hwX
  have HS : ∀ w', Below wX.heap.size wX w' → w'.cell? ⟨w9.heap.size, 0, none⟩ = some (.int .i64 k9) ∧ w'.cell? ⟨w9.heap.size, 1, none⟩ = some (.int .i64 n9) ∧ w'.cell? ⟨w9.heap.size, 2, none⟩ = some (.string s9) ∧ w'.cell? ⟨w9.heap.size, 3, none⟩ = some (.slice a9 l9 c9) ∧ Below wX.heap.size wX w' := fun w' hb => ⟨cell_later hb p0, cell_later hb p1, cell_later hb p2, cell_later hb p3, hb⟩
  clear hwX hBX hbX p0 p1 p2 p3 H9
  go_upto_region 8 with fail
  rw [← HWX.out]
  clear HWX
  refine wp_region_last (S := (fun w' => w'.cell? ⟨w9.heap.size, 0, none⟩ = some (.int .i64 k9) ∧ w'.cell? ⟨w9.heap.size, 1, none⟩ = some (.int .i64 n9) ∧ w'.cell? ⟨w9.heap.size, 2, none⟩ = some (.string s9) ∧ w'.cell? ⟨w9.heap.size, 3, none⟩ = some (.slice a9 l9 c9) ∧ Below wX.heap.size wX w')) 30 rfl (by kernel_rfl) (HS _ (Below.refl _ _).drew) fun hHeld => ?_
  simp only [List.take_succ_cons, List.take_zero]
  refine wpAnyH_take (i := 0) (v := ?vv0) rfl (by kernel_rfl) (by kernel_rfl) (by kernel_rfl) (fun _ _ _ h => h) (Or.inl ⟨by kernel_rfl, ?hy0⟩) hHeld ?rest0
  case hy0 =>
    intro w0 hSw
    (try dsimp only at hSw)
    go_simp
    try (with_reducible rfl)
  try simp only [Act.put, List.setIfInBounds_toArray, List.set_cons_zero, List.set_cons_succ]
  refine wpAnyH_take (i := 1) (v := ?vv1) rfl (by kernel_rfl) (by kernel_rfl) (by kernel_rfl) (fun _ _ _ h => h) (Or.inl ⟨by kernel_rfl, ?hy1⟩) hHeld ?rest1
  case hy1 =>
    intro w0 hSw
    (try dsimp only at hSw)
    go_simp
    try (with_reducible rfl)
  try simp only [Act.put, List.setIfInBounds_toArray, List.set_cons_zero, List.set_cons_succ]
  refine wpAnyH_take (i := 2) (v := ?vv2) rfl (by kernel_rfl) (by kernel_rfl) (by kernel_rfl) (fun _ _ _ h => h) (Or.inl ⟨by kernel_rfl, ?hy2⟩) hHeld ?rest2
  case hy2 =>
    intro w0 hSw
    (try dsimp only at hSw)
    go_simp
    try (with_reducible rfl)
  try simp only [Act.put, List.setIfInBounds_toArray, List.set_cons_zero, List.set_cons_succ]
  refine wpAnyH_take (i := 3) (v := ?vv3) rfl (by kernel_rfl) (by kernel_rfl) (by kernel_rfl) (fun _ _ _ h => h) (Or.inl ⟨by kernel_rfl, ?hy3⟩) hHeld ?rest3
  case hy3 =>
    intro w0 hSw
    (try dsimp only at hSw)
    go_simp
    try (with_reducible rfl)
  try simp only [Act.put, List.setIfInBounds_toArray, List.set_cons_zero, List.set_cons_succ]
  refine wpAnyH_take (i := 4) (v := ?vv4) rfl (by kernel_rfl) (by kernel_rfl) (by kernel_rfl) (fun _ _ _ h => h) (Or.inl ⟨by kernel_rfl, ?hy4⟩) hHeld ?rest4
  case hy4 =>
    intro w0 hSw
    (try dsimp only at hSw)
    go_simp
    try (with_reducible rfl)
  try simp only [Act.put, List.setIfInBounds_toArray, List.set_cons_zero, List.set_cons_succ]
  refine wpAnyH_take (i := 5) (v := ?vv5) rfl (by kernel_rfl) (by kernel_rfl) (by kernel_rfl) (fun _ _ _ h => h) (Or.inl ⟨by kernel_rfl, ?hy5⟩) hHeld ?rest5
  case hy5 =>
    intro w0 hSw
    (try dsimp only at hSw)
    go_simp
    try (with_reducible rfl)
  try simp only [Act.put, List.setIfInBounds_toArray, List.set_cons_zero, List.set_cons_succ]
  refine wpAnyH_take (i := 6) (v := ?vv6) rfl (by kernel_rfl) (by kernel_rfl) (by kernel_rfl) (fun _ _ _ h => h) (Or.inl ⟨by kernel_rfl, ?hy6⟩) hHeld ?rest6
  case hy6 =>
    intro w0 hSw
    (try dsimp only at hSw)
    go_simp
    try (with_reducible rfl)
  try simp only [Act.put, List.setIfInBounds_toArray, List.set_cons_zero, List.set_cons_succ]
  refine wpAnyH_take (i := 7) (v := ?vv7) rfl (by kernel_rfl) (by kernel_rfl) (by kernel_rfl) (fun _ _ _ h => h) (Or.inl ⟨by kernel_rfl, ?hy7⟩) hHeld ?rest7
  case hy7 =>
    intro w0 hSw
    (try dsimp only at hSw)
    go_simp
    try (with_reducible rfl)
  try simp only [Act.put, List.setIfInBounds_toArray, List.set_cons_zero, List.set_cons_succ]
  refine wpAnyH_take (i := 8) (v := ?vv8) rfl (by kernel_rfl) (by kernel_rfl) (by kernel_rfl) (fun _ _ _ h => h) (Or.inl ⟨by kernel_rfl, ?hy8⟩) hHeld ?rest8
  case hy8 =>
    intro w0 hSw
    (try dsimp only at hSw)
    go_simp
    try (with_reducible rfl)
  try simp only [Act.put, List.setIfInBounds_toArray, List.set_cons_zero, List.set_cons_succ]
  refine wpAnyH_take (i := 9) (v := ?vv9) rfl (by kernel_rfl) (by kernel_rfl) (by kernel_rfl) (fun _ _ _ h => h) (Or.inl ⟨by kernel_rfl, ?hy9⟩) hHeld ?rest9
  case hy9 =>
    intro w0 hSw
    (try dsimp only at hSw)
    go_simp
    try (with_reducible rfl)
  try simp only [Act.put, List.setIfInBounds_toArray, List.set_cons_zero, List.set_cons_succ]
  refine wpAnyH_take (i := 10) (v := ?vv10) rfl (by kernel_rfl) (by kernel_rfl) (by kernel_rfl) (fun _ _ _ h => h) (Or.inl ⟨by kernel_rfl, ?hy10⟩) hHeld ?rest10
  case hy10 =>
    intro w0 hSw
    (try dsimp only at hSw)
    go_simp
    try (with_reducible rfl)
  try simp only [Act.put, List.setIfInBounds_toArray, List.set_cons_zero, List.set_cons_succ]
  refine wpAnyH_take (i := 11) (v := ?vv11) rfl (by kernel_rfl) (by kernel_rfl) (by kernel_rfl) (fun _ _ _ h => h) (Or.inl ⟨by kernel_rfl, ?hy11⟩) hHeld ?rest11
  case hy11 =>
    intro w0 hSw
    (try dsimp only at hSw)
    go_simp
    try (with_reducible rfl)
  try simp only [Act.put, List.setIfInBounds_toArray, List.set_cons_zero, List.set_cons_succ]
  refine wpAnyH_take (i := 12) (v := ?vv12) rfl (by kernel_rfl) (by kernel_rfl) (by kernel_rfl) (fun _ _ _ h => h) (Or.inl ⟨by kernel_rfl, ?hy12⟩) hHeld ?rest12
  case hy12 =>
    intro w0 hSw
    (try dsimp only at hSw)
    go_simp
    try (with_reducible rfl)
  try simp only [Act.put, List.setIfInBounds_toArray, List.set_cons_zero, List.set_cons_succ]
  refine wpAnyH_take (i := 13) (v := ?vv13) rfl (by kernel_rfl) (by kernel_rfl) (by kernel_rfl) (fun _ _ _ h => h) (Or.inl ⟨by kernel_rfl, ?hy13⟩) hHeld ?rest13
  case hy13 =>
    intro w0 hSw
    (try dsimp only at hSw)
    go_simp
    try (with_reducible rfl)
  try simp only [Act.put, List.setIfInBounds_toArray, List.set_cons_zero, List.set_cons_succ]
  refine wpAnyH_take (i := 14) (v := ?vv14) rfl (by kernel_rfl) (by kernel_rfl) (by kernel_rfl) (fun _ _ _ h => h) (Or.inl ⟨by kernel_rfl, ?hy14⟩) hHeld ?rest14
  case hy14 =>
    intro w0 hSw
    (try dsimp only at hSw)
    go_simp
    try (with_reducible rfl)
  try simp only [Act.put, List.setIfInBounds_toArray, List.set_cons_zero, List.set_cons_succ]
  refine wpAnyH_take (i := 15) (v := ?vv15) rfl (by kernel_rfl) (by kernel_rfl) (by kernel_rfl) (fun _ _ _ h => h) (Or.inl ⟨by kernel_rfl, ?hy15⟩) hHeld ?rest15
  case hy15 =>
    intro w0 hSw
    (try dsimp only at hSw)
    go_simp
    try (with_reducible rfl)
  try simp only [Act.put, List.setIfInBounds_toArray, List.set_cons_zero, List.set_cons_succ]
  refine wpAnyH_take (i := 16) (v := ?vv16) rfl (by kernel_rfl) (by kernel_rfl) (by kernel_rfl) (fun _ _ _ h => h) (Or.inl ⟨by kernel_rfl, ?hy16⟩) hHeld ?rest16
  case hy16 =>
    intro w0 hSw
    (try dsimp only at hSw)
    go_simp
    try (with_reducible rfl)
  try simp only [Act.put, List.setIfInBounds_toArray, List.set_cons_zero, List.set_cons_succ]
  refine wpAnyH_take (i := 17) (v := ?vv17) rfl (by kernel_rfl) (by kernel_rfl) (by kernel_rfl) (fun _ _ _ h => h) (Or.inl ⟨by kernel_rfl, ?hy17⟩) hHeld ?rest17
  case hy17 =>
    intro w0 hSw
    (try dsimp only at hSw)
    go_simp
    try (with_reducible rfl)
  try simp only [Act.put, List.setIfInBounds_toArray, List.set_cons_zero, List.set_cons_succ]
  refine wpAnyH_take (i := 18) (v := ?vv18) rfl (by kernel_rfl) (by kernel_rfl) (by kernel_rfl) (fun _ _ _ h => h) (Or.inl ⟨by kernel_rfl, ?hy18⟩) hHeld ?rest18
  case hy18 =>
    intro w0 hSw
    (try dsimp only at hSw)
    go_simp
    try (with_reducible rfl)
  try simp only [Act.put, List.setIfInBounds_toArray, List.set_cons_zero, List.set_cons_succ]
  refine wpAnyH_take (i := 19) (v := ?vv19) rfl (by kernel_rfl) (by kernel_rfl) (by kernel_rfl) (fun _ _ _ h => h) (Or.inl ⟨by kernel_rfl, ?hy19⟩) hHeld ?rest19
  case hy19 =>
    intro w0 hSw
    (try dsimp only at hSw)
    go_simp
    try (with_reducible rfl)
  try simp only [Act.put, List.setIfInBounds_toArray, List.set_cons_zero, List.set_cons_succ]
  refine wpAnyH_ready (rs := [20]) (by kernel_rfl) (by simp) ?_
  refine AllReadyH.cons rfl (fun K hK => ?_) AllReadyH.nil
  go_simp
  refine (atom_at (ByteArray.mk #[97]) _ (by unfold maxLen; decide)).mono ?_
  intro e w10 h10
  obtain ⟨k10, n10, s10, a10, l10, c10, rfl, hT10, hB10'⟩ := h10.has
  have hB10 : Below wX.heap.size wX w10 := ((Below.refl wX.heap.size wX).drew).trans hB10'
  go_wp2_with fail
  refine hK.out _ _ (HS _ hB10) (fun hHeld2 => ?_)
  clear hK K
  try simp only [Act.put, List.setIfInBounds_toArray, List.set_cons_zero, List.set_cons_succ]
  refine wpAnyH_ready (rs := [21]) (by kernel_rfl) (by simp) ?_
  refine AllReadyH.cons rfl (fun K hK => ?_) AllReadyH.nil
  go_simp
  have hB11 := hB10.alloc hB10.size (.cells #[.int .i64 k10, .int .i64 n10, .string s10, .slice a10 l10 c10] 25)
  refine hK.out _ _ (HS _ hB11) (fun hHeld3 => ?_)
  clear hK K
  try simp only [Act.put, List.setIfInBounds_toArray, List.set_cons_zero, List.set_cons_succ]
  refine wpAnyH_ready (rs := [22]) (by kernel_rfl) (by simp) ?_
  refine AllReadyH.cons rfl (fun K hK => ?_) AllReadyH.nil
  go_simp
  refine (make_at (ByteArray.mk #[102]) _ [exA10] _ (by unfold maxLen; decide) (one_term hT10) (by decide)).mono ?_
  intro e w12 h12
  obtain ⟨k12, n12, s12, a12, l12, c12, rfl, hT12, hB12'⟩ := h12.has
  have hB12 : Below wX.heap.size wX w12 := hB11.trans (hB12'.mono hB11.size)
  go_wp2_with fail
  refine hK.out _ _ (HS _ hB12) (fun hHeld4 => ?_)
  clear hK K
  try simp only [Act.put, List.setIfInBounds_toArray, List.set_cons_zero, List.set_cons_succ]
  refine wpAnyH_ready (rs := [23]) (by kernel_rfl) (by simp) ?_
  refine AllReadyH.cons rfl (fun K hK => ?_) AllReadyH.nil
  go_simp
  refine (same_at exFA exFA _ _ w12 (Has.below HX.out.2.2 hB12) hT12 (by decide) (by decide)).mono ?_
  rintro e w13 ⟨he, hB13'⟩
  obtain rfl : e = .returned (.bool true) := he.trans (by simp)
  clear he
  have hB13 : Below wX.heap.size wX w13 := hB12.trans (hB13'.mono hB12.size)
  go_wp2_with fail
  refine hK.out _ _ (HS _ hB13) (fun hHeld5 => ?_)
  clear hK K
  try simp only [Act.put, List.setIfInBounds_toArray, List.set_cons_zero, List.set_cons_succ]
  refine wpAnyH_take (i := 24) (v := ?vv24) rfl (by kernel_rfl) (by kernel_rfl) (by kernel_rfl) (fun _ _ _ h => h) (Or.inl ⟨by kernel_rfl, ?hy24⟩) hHeld5 ?rest24
  case hy24 =>
    intro w0 hSw
    (try dsimp only at hSw)
    go_simp
    try (with_reducible rfl)
  try simp only [Act.put, List.setIfInBounds_toArray, List.set_cons_zero, List.set_cons_succ]
  refine wpAnyH_take (i := 25) (v := ?vv25) rfl (by kernel_rfl) (by kernel_rfl) (by kernel_rfl) (fun _ _ _ h => h) (Or.inl ⟨by kernel_rfl, ?hy25⟩) hHeld5 ?rest25
  case hy25 =>
    intro w0 hSw
    (try dsimp only at hSw)
    go_simp
    try (with_reducible rfl)
  try simp only [Act.put, List.setIfInBounds_toArray, List.set_cons_zero, List.set_cons_succ]
  refine wpAnyH_take (i := 26) (v := ?vv26) rfl (by kernel_rfl) (by kernel_rfl) (by kernel_rfl) (fun _ _ _ h => h) (Or.inl ⟨by kernel_rfl, ?hy26⟩) hHeld5 ?rest26
  case hy26 =>
    intro w0 hSw
    (try dsimp only at hSw)
    go_simp
    try (with_reducible rfl)
  try simp only [Act.put, List.setIfInBounds_toArray, List.set_cons_zero, List.set_cons_succ]
  refine wpAnyH_ready (rs := [27]) (by kernel_rfl) (by simp) ?_
  refine AllReadyH.cons rfl (fun K hK => ?_) AllReadyH.nil
  go_simp
  refine (mark_at (HX.out.2.1.step hB13)).mono ?_
  rintro e w14 ⟨rfl, rfl⟩
  go_wp2_with fail
  refine hK.out _ _ (HS _ hB13) (fun hHeld6 => ?_)
  clear hK K
  try simp only [Act.put, List.setIfInBounds_toArray, List.set_cons_zero, List.set_cons_succ]
  refine wpAnyH_take (i := 28) (v := ?vv28) rfl (by kernel_rfl) (by kernel_rfl) (by kernel_rfl) (fun _ _ _ h => h) (Or.inl ⟨by kernel_rfl, ?hy28⟩) hHeld6 ?rest28
  case hy28 =>
    intro w0 hSw
    (try dsimp only at hSw)
    go_simp
    try (with_reducible rfl)
  try simp only [Act.put, List.setIfInBounds_toArray, List.set_cons_zero, List.set_cons_succ]
  refine wpAnyH_take (i := 29) (v := ?vv29) rfl (by kernel_rfl) (by kernel_rfl) (by kernel_rfl) (fun _ _ _ h => h) (Or.inl ⟨by kernel_rfl, ?hy29⟩) hHeld6 ?rest29
  case hy29 =>
    intro w0 hSw
    (try dsimp only at hSw)
    go_simp
    try (with_reducible rfl)
  try simp only [Act.put, List.setIfInBounds_toArray, List.set_cons_zero, List.set_cons_succ]
  refine wpAnyH_done (by kernel_rfl) ?_ _
  refine last_of_list rfl ?_
  go_wp2_with fail
  go_ret
  exact ⟨rfl, HX.out.1.trans (hB13.mono HX.out.1.size)⟩
end Go.Proofs.Ytnaopkkdidngoaa
