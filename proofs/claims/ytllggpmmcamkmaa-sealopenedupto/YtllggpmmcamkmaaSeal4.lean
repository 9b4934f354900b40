/-
  seal.Hide: the function that it makes, and what it answers.
-/
import Derived.Test.YtllggpmmcamkmaaSeal3
namespace Go.Proofs.Ytllggpmmcamkmaa
open Go.RowKit Go.Shelf
set_option linter.unusedVariables false

/-- What the function that seal.Hide makes has at hand. -/
structure HideAt (w : World) (b N x B1 B2 B3 : Nat) : Prop where
  ch : ChainAt w b N
  lt : x < N
  l : w.heap[B1]? = some (.cells #[.pointer (some ⟨b, 0, none⟩)] 37 (0, 0))
  level : w.heap[B2]? = some (.cells #[.int .i64 (x : Int)] 3 (0, 0))
  fn : w.heap[B3]? = some (.cells #[.func (.func 60) #[] #[.pointer (some ⟨B1, 0, none⟩), .pointer (some ⟨B2, 0, none⟩), .pointer (some ⟨B3, 0, none⟩)]] 42 (0, 0))
theorem HideAt.below {w w' : World} {b N x B1 B2 B3 : Nat} (h : HideAt w b N x B1 B2 B3) (k : Below w.heap.size w w') : HideAt w' b N x B1 B2 B3 :=
  ⟨h.ch.below k, h.lt, one_below h.l k, one_below h.level k, one_below h.fn k⟩

set_option maxRecDepth 100000 in
set_option maxHeartbeats 4000000 in
theorem hide1_at (b N x B1 B2 B3 : Nat) (T : Tm) : ∀ (v : Value) (w : World), HideAt w b N x B1 B2 B3 → Has w v T → T.size ≤ 1000000000000 →
    Calls Try.prog 60 #[v, .pointer (some ⟨B1, 0, none⟩), .pointer (some ⟨B2, 0, none⟩), .pointer (some ⟨B3, 0, none⟩)] w (NewTm w (T.hd fun n => decide (lvC N n ≤ x))) := by
  induction T using Tm.ind with
  | h k n s ks ih =>
    intro v w hH hv hs
    obtain ⟨k_, n_, s_, a, len, cap, ks_, rfl, e, rfl, hk, hn, hs', hc, hm, ha⟩ := hv.form
    injection e with e1 e2 e3 e4
    subst e1 e2 e3 e4
    have hsz : ks.length ≤ 1000000000000 := by have := Tm.length_le_sizes ks; rw [Tm.size_mk] at hs; omega
    have hkl : ∀ t ∈ ks, t.size ≤ 1000000000000 := fun t ht => by have := Tm.size_le_sizes ht; rw [Tm.size_mk] at hs; omega
    obtain ⟨w2, hw2⟩ : ∃ w2, w2 = (w.alloc (.cells #[.int .i64 k, .int .i64 n, .string s, .slice a ks.length cap] 24)).alloc (.cells #[.int .i64 0, .int .i64 0, .string (ByteArray.mk #[]), .slice none 0 0] 24) := ⟨_, rfl⟩
    have hb2 : Below w.heap.size w w2 := by rw [hw2]; exact ((Below.refl _ w).alloc (Nat.le_refl _) _).alloc (by simp) _
    have hx1 : w2.heap[w.heap.size]? = some (.cells #[.int .i64 k, .int .i64 n, .string s, .slice a ks.length cap] 24 (0, 0)) := by rw [hw2]; exact (Below.heap_alloc _ _ _ (by simp)).trans (World.alloc_heap_new _ _)
    have hx2 : w2.heap[w.heap.size + 1]? = some (.cells #[.int .i64 0, .int .i64 0, .string (ByteArray.mk #[]), .slice none 0 0] 24 (0, 0)) := by rw [hw2]; simpa using World.alloc_heap_new (w.alloc (.cells #[.int .i64 k, .int .i64 n, .string s, .slice a ks.length cap] 24)) (.cells #[.int .i64 0, .int .i64 0, .string (ByteArray.mk #[]), .slice none 0 0] 24)
    have hsz2 : w2.heap.size = w.heap.size + 2 := by rw [hw2]; simp
    have hH2 := hH.below hb2
    have hv2 := Has.below hv hb2
    have hz := zeroTerm
    have hwk : ∀ w3, Below w2.heap.size w2 w3 → Calls Try.prog 52 #[.agg #[.int .i64 k, .int .i64 n, .string s, .slice a ks.length cap], .func (.func 60) #[] #[.pointer (some ⟨B1, 0, none⟩), .pointer (some ⟨B2, 0, none⟩), .pointer (some ⟨B3, 0, none⟩)]] w3 fun e w4 => ∃ k4 n4 s4 a4 l4 c4, e = .returned (.agg #[.int .i64 k4, .int .i64 n4, .string s4, .slice a4 l4 c4]) ∧ w4.cell? ⟨w.heap.size + 1, 0, none⟩ = some (.int .i64 0) ∧ w4.cell? ⟨w.heap.size + 1, 1, none⟩ = some (.int .i64 0) ∧ w4.cell? ⟨w.heap.size + 1, 2, none⟩ = some (.string (ByteArray.mk #[])) ∧ w4.cell? ⟨w.heap.size + 1, 3, none⟩ = some (.slice none 0 0) ∧ (∀ j, w4.frozen? ⟨w.heap.size + 1, j, none⟩ = false) ∧
          w4.heap[w.heap.size + 1]? = some (.cells #[.int .i64 0, .int .i64 0, .string (ByteArray.mk #[]), .slice none 0 0] 24 (0, 0)) ∧ TmIn (fun b => w.heap.size + 2 ≤ b ∧ b < w4.heap.size) w4 (.agg #[.int .i64 k4, .int .i64 n4, .string s4, .slice a4 l4 c4]) (.mk k n s (ks.map (Tm.hd fun n => decide (lvC N n ≤ x)))) ∧ Below w.heap.size w w4 := fun w3 h23 =>
        (withKids_hide B1 B2 B3 (Tm.hd fun n => decide (lvC N n ≤ x)) k n s ks _ w3 (Has.below hv2 h23) hsz (fun t ht v w' hb' hv' => ih t ht v w' ((hH2.below h23).below hb') hv' (hkl t ht))).mono fun e w4 h4 => by
          obtain ⟨r, rfl, hr, hb4⟩ := h4
          obtain ⟨k4, n4, s4, a4, l4, c4, ks4, rfl, -⟩ := hr.form
          have y2 := tbox_below (tbox_below hx2 h23) hb4
          obtain ⟨z0, z1, z2, z3⟩ := tbox_cells y2
          have h3 := hb2.trans (h23.mono hb2.size)
          exact ⟨k4, n4, s4, a4, l4, c4, rfl, z0, z1, z2, z3, (fun j => by simp [World.frozen?, y2]), y2, hr.carry (fun _ _ => rfl) (fun b hb => ⟨by have := hb.1; have := h23.size; omega, hb.2⟩), h3.trans (hb4.mono h3.size)⟩
    have hat : ∀ w3, Below w2.heap.size w2 w3 → Calls Try.prog 47 #[.string (ByteArray.mk #[104, 111, 108, 101])] w3 fun e w4 => ∃ k4 n4 s4 a4 l4 c4, e = .returned (.agg #[.int .i64 k4, .int .i64 n4, .string s4, .slice a4 l4 c4]) ∧ w4.cell? ⟨w.heap.size + 1, 0, none⟩ = some (.int .i64 0) ∧ w4.cell? ⟨w.heap.size + 1, 1, none⟩ = some (.int .i64 0) ∧ w4.cell? ⟨w.heap.size + 1, 2, none⟩ = some (.string (ByteArray.mk #[])) ∧ w4.cell? ⟨w.heap.size + 1, 3, none⟩ = some (.slice none 0 0) ∧ (∀ j, w4.frozen? ⟨w.heap.size + 1, j, none⟩ = false) ∧
          w4.heap[w.heap.size + 1]? = some (.cells #[.int .i64 0, .int .i64 0, .string (ByteArray.mk #[]), .slice none 0 0] 24 (0, 0)) ∧ TmIn (fun b => w.heap.size + 2 ≤ b ∧ b < w4.heap.size) w4 (.agg #[.int .i64 k4, .int .i64 n4, .string s4, .slice a4 l4 c4]) holeTm ∧ Below w.heap.size w w4 := fun w3 h23 =>
        (atom_at (ByteArray.mk #[104, 111, 108, 101]) w3 (show 4 ≤ maxLen by unfold maxLen; omega)).mono fun e w4 h4 => by
          obtain ⟨r, rfl, hr, hb4⟩ := h4
          obtain ⟨k4, n4, s4, a4, l4, c4, ks4, rfl, -⟩ := hr.form
          have y2 := tbox_below (tbox_below hx2 h23) hb4
          obtain ⟨z0, z1, z2, z3⟩ := tbox_cells y2
          have h3 := hb2.trans (h23.mono hb2.size)
          exact ⟨k4, n4, s4, a4, l4, c4, rfl, z0, z1, z2, z3, (fun j => by simp [World.frozen?, y2]), y2, hr.carry (fun _ _ => rfl) (fun b hb => ⟨by have := hb.1; have := h23.size; omega, hb.2⟩), h3.trans (hb4.mono h3.size)⟩
    obtain ⟨I, inst, F, n0, hF0, hFb, hFc⟩ := later_family w2
    have K0 := fun i => (tbox_cells (tbox_below hx1 (hFb i))).1
    have K1 := fun i => (tbox_cells (tbox_below hx1 (hFb i))).2.1
    have K2 := fun i => (tbox_cells (tbox_below hx1 (hFb i))).2.2.1
    have K3 := fun i => (tbox_cells (tbox_below hx1 (hFb i))).2.2.2
    have K4 := fun i => one_cell (hH2.below (hFb i)).l
    have K5 := fun i => one_cell (hH2.below (hFb i)).level
    have K6 := fun i => one_cell (hH2.below (hFb i)).fn
    have C1 := Lib.hid (fun i => calls_fam hFc i (level_at _ k n s ks (F i) b N (hH2.below (hFb i)).ch (Has.below hv2 (hFb i))))
    have C2 := Lib.hid (fun i => calls_fam hFc i ((ch_leq (hH2.below (hFb i)).ch (x := lvC N n) (y := x) (lvC_lt hH.ch.pos n) hH.lt).mono fun _ _ h => gets_of_reads h))
    have HB := Lib.hid (And.intro hFb hw2)
    clear hb2 hx1 hx2 hsz2 hH2 hv2 hFb hFc hv hH ih hkl hs hw2 hsz
    by_cases h4 : k = 4
    · subst h4
      by_cases hle : lvC N n ≤ x
      · have hd : decide (lvC N n ≤ x) = true := decide_eq_true hle
        rw [hd] at C2
        rw [Tm.hd_else (fun e => by rw [hd] at e; cases e.2)]
        clear hd hle
        go_enter Try.func60, Try.ntmps60
        go_wp2_with fail
        rw [← HB.out.2]
        refine wp_region_fam F n0 hF0 (by kernel_rfl) (by kernel_rfl) ?_
        clear hF0
        repeat (go_big_quiet_step (first | (go_at_call 51; exact C1.out _) | (go_at_call 32; exact C2.out _)))
        refine wpQuiet_nil ?_
        intro _ hw'
        obtain ⟨nq, hw''⟩ := hw'
        subst hw''
        have k0 := K0 nq
        have k1 := K1 nq
        have k2 := K2 nq
        have k3 := K3 nq
        have k6 := K6 nq
        clear K0 K1 K2 K3 K4 K5 K6
        go_wp2_with (go_at_call 52; refine (hwk _ (HB.out.1 nq)).mono ?_; clear hat hwk; rintro e w4 ⟨k4, n4, s4, a4, l4, c4, rfl, z0, z1, z2, z3, zf, y2, hT, hB⟩)
        have h5 := boxed_result y2 hT (fun b hb => by have := hb.1; have := hb.2; omega) hB (Nat.le_succ _)
        generalize ((((w4.setCell ⟨w.heap.size + 1, 0, none⟩ (.int .i64 k4)).setCell ⟨w.heap.size + 1, 1, none⟩ (.int .i64 n4)).setCell ⟨w.heap.size + 1, 2, none⟩ (.string s4)).setCell ⟨w.heap.size + 1, 3, none⟩ (.slice a4 l4 c4)) = w5 at h5 ⊢
        obtain ⟨hb5, h5⟩ := h5
        obtain ⟨f0, f1, f2, f3⟩ := tbox_cells hb5
        refine bodyPost_ret (v := .agg #[.int .i64 k4, .int .i64 n4, .string s4, .slice a4 l4 c4]) (by simp [results, Try.f60, go_sem, f0, f1, f2, f3]) rfl ?_
        exact h5
      · have hd : decide (lvC N n ≤ x) = false := decide_eq_false hle
        rw [hd] at C2
        rw [Tm.hd_hole ⟨rfl, hd⟩]
        clear hd hle
        go_enter Try.func60, Try.ntmps60
        go_wp2_with fail
        rw [← HB.out.2]
        refine wp_region_fam F n0 hF0 (by kernel_rfl) (by kernel_rfl) ?_
        clear hF0
        repeat (go_big_quiet_step (first | (go_at_call 51; exact C1.out _) | (go_at_call 32; exact C2.out _)))
        refine wpQuiet_nil ?_
        intro _ hw'
        obtain ⟨nq, hw''⟩ := hw'
        subst hw''
        go_wp2_with (go_at_call 47; refine (hat _ (HB.out.1 nq)).mono ?_; clear hat hwk; rintro e w4 ⟨k4, n4, s4, a4, l4, c4, rfl, z0, z1, z2, z3, zf, y2, hT, hB⟩)
        have h5 := boxed_result y2 hT (fun b hb => by have := hb.1; have := hb.2; omega) hB (Nat.le_succ _)
        generalize ((((w4.setCell ⟨w.heap.size + 1, 0, none⟩ (.int .i64 k4)).setCell ⟨w.heap.size + 1, 1, none⟩ (.int .i64 n4)).setCell ⟨w.heap.size + 1, 2, none⟩ (.string s4)).setCell ⟨w.heap.size + 1, 3, none⟩ (.slice a4 l4 c4)) = w5 at h5 ⊢
        obtain ⟨hb5, h5⟩ := h5
        obtain ⟨f0, f1, f2, f3⟩ := tbox_cells hb5
        refine bodyPost_ret (v := .agg #[.int .i64 k4, .int .i64 n4, .string s4, .slice a4 l4 c4]) (by simp [results, Try.f60, go_sem, f0, f1, f2, f3]) rfl ?_
        exact h5
    · have h4' : (k == 4) = false := by simpa using h4
      rw [Tm.hd_else (fun e => h4 e.1)]
      go_enter Try.func60, Try.ntmps60
      go_wp2_with fail
      rw [← HB.out.2]
      refine wp_region_fam F n0 hF0 (by kernel_rfl) (by kernel_rfl) ?_
      clear hF0
      repeat (go_big_quiet_step (fail))
      refine wpQuiet_nil ?_
      intro _ hw'
      obtain ⟨nq, hw''⟩ := hw'
      subst hw''
      have k0 := K0 nq
      have k1 := K1 nq
      have k2 := K2 nq
      have k3 := K3 nq
      have k6 := K6 nq
      clear K0 K1 K2 K3 K4 K5 K6
      go_wp2_with (go_at_call 52; refine (hwk _ (HB.out.1 nq)).mono ?_; clear hat hwk; rintro e w4 ⟨k4, n4, s4, a4, l4, c4, rfl, z0, z1, z2, z3, zf, y2, hT, hB⟩)
      have h5 := boxed_result y2 hT (fun b hb => by have := hb.1; have := hb.2; omega) hB (Nat.le_succ _)
      generalize ((((w4.setCell ⟨w.heap.size + 1, 0, none⟩ (.int .i64 k4)).setCell ⟨w.heap.size + 1, 1, none⟩ (.int .i64 n4)).setCell ⟨w.heap.size + 1, 2, none⟩ (.string s4)).setCell ⟨w.heap.size + 1, 3, none⟩ (.slice a4 l4 c4)) = w5 at h5 ⊢
      obtain ⟨hb5, h5⟩ := h5
      obtain ⟨f0, f1, f2, f3⟩ := tbox_cells hb5
      refine bodyPost_ret (v := .agg #[.int .i64 k4, .int .i64 n4, .string s4, .slice a4 l4 c4]) (by simp [results, Try.f60, go_sem, f0, f1, f2, f3]) rfl ?_
      exact h5

set_option maxRecDepth 100000 in
set_option maxHeartbeats 2000000 in
theorem hide_at (v : Value) (T : Tm) (w : World) (b N x : Nat) (hL : ChainAt w b N) (hx : x < N) (hv : Has w v T) (hs : T.size ≤ 1000000000000) : Calls Try.prog 35 #[.pointer (some ⟨b, 0, none⟩), v, .int .i64 (x : Int)] w (NewTm w (T.hd fun n => decide (lvC N n ≤ x))) := by
  obtain ⟨k, n, s, a, len, cap, ks, rfl, e, -⟩ := hv.form
  obtain ⟨w1, hw1⟩ : ∃ w1, w1 = ((w.alloc (.cells #[.pointer (some ⟨b, 0, none⟩)] 37)).alloc (.cells #[.int .i64 k, .int .i64 n, .string s, .slice a len cap] 24)) := ⟨_, rfl⟩
  obtain ⟨w2, hw2⟩ : ∃ w2, w2 = ((w1.alloc (.cells #[.int .i64 (x : Int)] 3)).alloc (.cells #[.int .i64 0, .int .i64 0, .string (ByteArray.mk #[]), .slice none 0 0] 24)) := ⟨_, rfl⟩
  obtain ⟨w3, hw3⟩ : ∃ w3, w3 = w2.alloc (.cells #[.func (.func 60) #[] #[.pointer (some ⟨w.heap.size, 0, none⟩), .pointer (some ⟨w.heap.size + 1 + 1, 0, none⟩), .pointer (some ⟨w.heap.size + 1 + 1 + 1 + 1, 0, none⟩)]] 42) := ⟨_, rfl⟩
  have s1 : w1.heap.size = w.heap.size + 1 + 1 := by rw [hw1]; simp
  have s2 : w2.heap.size = w.heap.size + 1 + 1 + 1 + 1 := by rw [hw2]; simp [s1]
  have s3 : w3.heap.size = w.heap.size + 1 + 1 + 1 + 1 + 1 := by rw [hw3]; simp [s2]
  have b1 : Below w.heap.size w w1 := by rw [hw1]; exact ((Below.refl _ w).alloc (Nat.le_refl _) _).alloc (by simp) _
  have b12 : Below w1.heap.size w1 w2 := by rw [hw2]; exact ((Below.refl _ w1).alloc (Nat.le_refl _) _).alloc (by simp) _
  have b23 : Below w2.heap.size w2 w3 := by rw [hw3]; exact (Below.refl _ w2).alloc (Nat.le_refl _) _
  have b13 : Below w1.heap.size w1 w3 := b12.trans (b23.mono b12.size)
  have b3 : Below w.heap.size w w3 := b1.trans (b13.mono b1.size)
  have x1 : w1.heap[w.heap.size]? = some (.cells #[.pointer (some ⟨b, 0, none⟩)] 37 (0, 0)) := by rw [hw1]; exact (Below.heap_alloc _ _ _ (by simp)).trans (World.alloc_heap_new _ _)
  have x2 : w1.heap[w.heap.size + 1]? = some (.cells #[.int .i64 k, .int .i64 n, .string s, .slice a len cap] 24 (0, 0)) := by rw [hw1]; simpa using World.alloc_heap_new (w.alloc (.cells #[.pointer (some ⟨b, 0, none⟩)] 37)) (.cells #[.int .i64 k, .int .i64 n, .string s, .slice a len cap] 24)
  have x3 : w2.heap[w.heap.size + 1 + 1]? = some (.cells #[.int .i64 (x : Int)] 3 (0, 0)) := by
    have := World.alloc_heap_new w1 (.cells #[.int .i64 (x : Int)] 3)
    rw [s1] at this
    rw [hw2]; exact (Below.heap_alloc _ _ _ (by simp [s1])).trans this
  have x4 : w2.heap[w.heap.size + 1 + 1 + 1]? = some (.cells #[.int .i64 0, .int .i64 0, .string (ByteArray.mk #[]), .slice none 0 0] 24 (0, 0)) := by
    have := World.alloc_heap_new (w1.alloc (.cells #[.int .i64 (x : Int)] 3)) (.cells #[.int .i64 0, .int .i64 0, .string (ByteArray.mk #[]), .slice none 0 0] 24)
    rw [World.size_alloc, s1] at this
    rw [hw2]; exact this
  have x5 : w3.heap[w.heap.size + 1 + 1 + 1 + 1]? = some (.cells #[.func (.func 60) #[] #[.pointer (some ⟨w.heap.size, 0, none⟩), .pointer (some ⟨w.heap.size + 1 + 1, 0, none⟩), .pointer (some ⟨w.heap.size + 1 + 1 + 1 + 1, 0, none⟩)]] 42 (0, 0)) := by
    have := World.alloc_heap_new w2 (.cells #[.func (.func 60) #[] #[.pointer (some ⟨w.heap.size, 0, none⟩), .pointer (some ⟨w.heap.size + 1 + 1, 0, none⟩), .pointer (some ⟨w.heap.size + 1 + 1 + 1 + 1, 0, none⟩)]] 42)
    rw [s2] at this
    rw [hw3]; exact this
  have hH : HideAt w3 b N x w.heap.size (w.heap.size + 1 + 1) (w.heap.size + 1 + 1 + 1 + 1) := ⟨hL.below b3, hx, one_below x1 b13, one_below x3 b23, x5⟩
  have hcall := (hide1_at b N x _ _ _ T _ w3 hH (IsTm.later b3 b3.size hv) hs).mono (R' := fun e w4 => ∃ k4 n4 s4 a4 l4 c4, e = .returned (.agg #[.int .i64 k4, .int .i64 n4, .string s4, .slice a4 l4 c4]) ∧ w4.cell? ⟨w.heap.size + 1 + 1 + 1, 0, none⟩ = some (.int .i64 0) ∧ w4.cell? ⟨w.heap.size + 1 + 1 + 1, 1, none⟩ = some (.int .i64 0) ∧ w4.cell? ⟨w.heap.size + 1 + 1 + 1, 2, none⟩ = some (.string (ByteArray.mk #[])) ∧ w4.cell? ⟨w.heap.size + 1 + 1 + 1, 3, none⟩ = some (.slice none 0 0) ∧ (∀ j, w4.frozen? ⟨w.heap.size + 1 + 1 + 1, j, none⟩ = false) ∧
      w4.heap[w.heap.size + 1 + 1 + 1]? = some (.cells #[.int .i64 0, .int .i64 0, .string (ByteArray.mk #[]), .slice none 0 0] 24 (0, 0)) ∧ TmIn (fun b => w3.heap.size ≤ b ∧ b < w4.heap.size) w4 (.agg #[.int .i64 k4, .int .i64 n4, .string s4, .slice a4 l4 c4]) (T.hd fun n => decide (lvC N n ≤ x)) ∧ Below w.heap.size w w4) (fun e w4 h4 => by
    obtain ⟨r, rfl, hr, hb4⟩ := h4
    obtain ⟨k4, n4, s4, a4, l4, c4, ks4, rfl, -⟩ := hr.form
    have y2 := tbox_below (tbox_below x4 b23) hb4
    obtain ⟨z0, z1, z2, z3⟩ := tbox_cells y2
    exact ⟨k4, n4, s4, a4, l4, c4, rfl, z0, z1, z2, z3, (fun j => by simp [World.frozen?, y2]), y2, hr, b3.trans (hb4.mono b3.size)⟩)
  have hz := zeroTerm
  have hnf := zeroFn
  have hmf : ∀ (fn : Fn) (first cap : Array Value) (w : World), (Instr.makeFunc fn first cap).run Try.prog w = .ok (.func fn first cap) w := fun _ _ _ _ => rfl
  obtain ⟨y0, y1, y2, y3⟩ := tbox_cells (tbox_below x2 b13)
  have y4 := one_cell x5
  have HS := Lib.hid s3
  clear s1 s2 s3 b1 b12 b23 b13 b3 x1 x2 x3 x4 x5 hH hL hv e
  subst hw3
  subst hw2
  subst hw1
  go_enter Try.func35, Try.ntmps35
  go_wp2_with (go_at_call 60; refine hcall.mono ?_; clear hcall; rintro e w4 ⟨k4, n4, s4, a4, l4, c4, rfl, z0, z1, z2, z3, zf, y2, hT, hB⟩)
  have h5 := boxed_result y2 hT (fun b hb => by have := HS.out; have := hb.1; have := hb.2; omega) hB (by omega)
  generalize ((((w4.setCell ⟨w.heap.size + 1 + 1 + 1, 0, none⟩ (.int .i64 k4)).setCell ⟨w.heap.size + 1 + 1 + 1, 1, none⟩ (.int .i64 n4)).setCell ⟨w.heap.size + 1 + 1 + 1, 2, none⟩ (.string s4)).setCell ⟨w.heap.size + 1 + 1 + 1, 3, none⟩ (.slice a4 l4 c4)) = w5 at h5 ⊢
  obtain ⟨hb5, h5⟩ := h5
  obtain ⟨f0, f1, f2, f3⟩ := tbox_cells hb5
  refine bodyPost_ret (v := .agg #[.int .i64 k4, .int .i64 n4, .string s4, .slice a4 l4 c4]) (by simp [results, Try.f35, go_sem, f0, f1, f2, f3]) rfl ?_
  exact h5

end Go.Proofs.Ytllggpmmcamkmaa
