/-
  arith.split; seal.Open of what has no kids.
-/
import Derived.Test.YtfjnajngelemkaaZUniD
import Derived.Test.YtfjnajngelemkaaZArA
namespace Go.Proofs.Ytfjnajngelemkaa
open Go.RowKit Go.Shelf
open Classical
set_option linter.unusedVariables false
set_option linter.unusedSimpArgs false

theorem bare_strip' {N : Nat} (T : Tm) : ∀ a, T.bare.strip Nat.max (lvC N) a = (.mk (T.strip Nat.max (lvC N) a).1.kind (T.strip Nat.max (lvC N) a).1.num (T.strip Nat.max (lvC N) a).1.name [], (T.strip Nat.max (lvC N) a).2) := by
  induction T using Tm.ind with
  | h k n s ks ih =>
    intro a
    by_cases h : k = 4 ∧ ks.length = 1
    · obtain ⟨t, rfl, rfl⟩ := wraps_form (n := n) (s := s) h
      rw [bare_wraps, Tm.strip_wraps, Tm.strip_wraps]
      exact ih t (by simp) _
    · rw [bare_else h, Tm.strip_else h, Tm.strip_else (fun e => by cases e.2)]
      rfl
theorem bare_kids {T : Tm} (h : T.bare.wrapsT = false) : T.bare.kids = [] ∧ T.bare = .mk T.kind T.num T.name [] ∧ T.wrapsT = false := by
  obtain ⟨k, n, s, ks⟩ := T
  by_cases hw : k = 4 ∧ ks.length = 1
  · obtain ⟨t, rfl, rfl⟩ := wraps_form (n := n) (s := s) hw
    rw [bare_wraps] at h
    cases h
  · rw [bare_else hw]
    exact ⟨rfl, rfl, decide_eq_false (p := k = 4 ∧ ks.length = 1) hw⟩

theorem put4 {w W : World} {B : Nat} {c0 c1 c2 c3 : Value} {t : TypeId} (hb : Below w.heap.size w W) (hB : w.heap.size ≤ B) (y : W.heap[B]? = some (.cells #[c0, c1, c2, c3] t (0, 0))) (v0 v1 v2 v3 : Value) :
    ∃ W5, W5 = (((W.setCell ⟨B, 0, none⟩ v0).setCell ⟨B, 1, none⟩ v1).setCell ⟨B, 2, none⟩ v2).setCell ⟨B, 3, none⟩ v3 ∧ W5.heap[B]? = some (.cells #[v0, v1, v2, v3] t (0, 0)) ∧ Below w.heap.size w W5 ∧ W5.heap.size = W.heap.size :=
  ⟨_, rfl, four_block y v0 v1 v2 v3, (((hb.setCell (p := ⟨B, 0, none⟩) hB v0).setCell (p := ⟨B, 1, none⟩) hB v1).setCell (p := ⟨B, 2, none⟩) hB v2).setCell (p := ⟨B, 3, none⟩) hB v3, by simp⟩
set_option maxRecDepth 100000 in
set_option maxHeartbeats 1000000 in
theorem shifted_none (a : Option Addr) (c : Nat) (d : Int) (w : World) : Calls Try.prog 62 #[.slice a 0 c, .int .i64 d] w fun e w' => e = .returned (.slice none 0 0) ∧ w' = w := by
  go_enter Try.func62, Try.ntmps62
  go_wp2_with fail
  go_ret
  exact ⟨rfl, rfl⟩
set_option maxRecDepth 100000 in
set_option maxHeartbeats 2000000 in
theorem shift_none (k n : Int) (hk : k ≠ 1) (s : ByteArray) (a : Option Addr) (c : Nat) (d : Int) (w : World) : Calls Try.prog 75 #[.agg #[.int .i64 k, .int .i64 n, .string s, .slice a 0 c], .int .i64 d] w fun e w' => e = .returned (.agg #[.int .i64 k, .int .i64 n, .string s, .slice none 0 0]) ∧ Below w.heap.size w w' := by
  obtain ⟨w2, hw2⟩ : ∃ w2, w2 = (w.alloc (.cells #[.int .i64 k, .int .i64 n, .string s, .slice a 0 c] 24)).alloc (.cells #[.int .i64 0, .int .i64 0, .string (ByteArray.mk #[]), .slice none 0 0] 24) := ⟨_, rfl⟩
  have hb2 : Below w.heap.size w w2 := by rw [hw2]; exact ((Below.refl _ w).alloc (Nat.le_refl _) _).alloc (by simp) _
  have hx1 : w2.heap[w.heap.size]? = some (.cells #[.int .i64 k, .int .i64 n, .string s, .slice a 0 c] 24 (0, 0)) := by rw [hw2]; exact (Below.heap_alloc _ _ _ (by simp)).trans (World.alloc_heap_new _ _)
  have hx2 : w2.heap[w.heap.size + 1]? = some (.cells #[.int .i64 0, .int .i64 0, .string (ByteArray.mk #[]), .slice none 0 0] 24 (0, 0)) := by rw [hw2]; simpa using World.alloc_heap_new (w.alloc (.cells #[.int .i64 k, .int .i64 n, .string s, .slice a 0 c] 24)) (.cells #[.int .i64 0, .int .i64 0, .string (ByteArray.mk #[]), .slice none 0 0] 24)
  have hsh := shifted_none a c d w2
  have hz := zeroTerm
  have hk1 : (k == 1) = false := by simpa using hk
  obtain ⟨x0, x1, x2, x3⟩ := tbox_cells hx1
  have xf : ∀ j, w2.frozen? ⟨w.heap.size, j, none⟩ = false := fun j => by simp [World.frozen?, hx1]
  obtain ⟨z0, z1, z2, z3⟩ := tbox_cells hx2
  have zf : ∀ j, w2.frozen? ⟨w.heap.size + 1, j, none⟩ = false := fun j => by simp [World.frozen?, hx2]
  have HW := Lib.hid (And.intro hw2 (And.intro hb2 (And.intro hx1 hx2)))
  clear hw2 hb2 hx1 hx2 hk
  go_enter Try.func75, Try.ntmps75
  go_upto_region 1 with fail
  rw [← HW.out.1]
  go_wp2_with (go_at_call 62; refine hsh.mono ?_; clear hsh; rintro e w4 ⟨rfl, rfl⟩)
  obtain ⟨W5, hW5, hb5, hB5, -⟩ := put4 (HW.out.2.1.setCell (p := ⟨w.heap.size, 3, none⟩) (Nat.le_refl _) (.slice none 0 0)) (Nat.le_succ _) ((Below.heap_setCell w4 ⟨w.heap.size, 3, none⟩ (.slice none 0 0) (w.heap.size + 1) (by simp)).trans HW.out.2.2.2) (.int .i64 k) (.int .i64 n) (.string s) (.slice none 0 0)
  rw [← hW5]
  obtain ⟨f0, f1, f2, f3⟩ := tbox_cells hb5
  refine bodyPost_ret (v := .agg #[.int .i64 k, .int .i64 n, .string s, .slice none 0 0]) (by simp [results, Try.f75, go_sem, f0, f1, f2, f3]) rfl ?_
  exact ⟨rfl, hB5⟩
set_option maxRecDepth 100000 in
set_option maxHeartbeats 2000000 in
theorem whole_none (k n : Int) (hk : k ≠ 1) (s : ByteArray) (a : Option Addr) (c : Nat) (w : World) : Calls Try.prog 71 #[.agg #[.int .i64 k, .int .i64 n, .string s, .slice a 0 c]] w fun e w' => e = .returned (.agg #[.int .i64 k, .int .i64 n, .string s, .slice none 0 0]) ∧ Below w.heap.size w w' := by
  obtain ⟨w2, hw2⟩ : ∃ w2, w2 = (w.alloc (.cells #[.int .i64 k, .int .i64 n, .string s, .slice a 0 c] 24)).alloc (.cells #[.int .i64 0, .int .i64 0, .string (ByteArray.mk #[]), .slice none 0 0] 24) := ⟨_, rfl⟩
  have hb2 : Below w.heap.size w w2 := by rw [hw2]; exact ((Below.refl _ w).alloc (Nat.le_refl _) _).alloc (by simp) _
  have hx1 : w2.heap[w.heap.size]? = some (.cells #[.int .i64 k, .int .i64 n, .string s, .slice a 0 c] 24 (0, 0)) := by rw [hw2]; exact (Below.heap_alloc _ _ _ (by simp)).trans (World.alloc_heap_new _ _)
  have hx2 : w2.heap[w.heap.size + 1]? = some (.cells #[.int .i64 0, .int .i64 0, .string (ByteArray.mk #[]), .slice none 0 0] 24 (0, 0)) := by rw [hw2]; simpa using World.alloc_heap_new (w.alloc (.cells #[.int .i64 k, .int .i64 n, .string s, .slice a 0 c] 24)) (.cells #[.int .i64 0, .int .i64 0, .string (ByteArray.mk #[]), .slice none 0 0] 24)
  have hsh := shift_none k n hk s a c 0 w2
  have hz := zeroTerm
  have HW := Lib.hid (And.intro hw2 (And.intro hb2 (And.intro hx1 hx2)))
  clear hw2 hb2 hx1 hx2 hk
  obtain ⟨x0, x1, x2, x3⟩ := tbox_cells HW.out.2.2.1
  go_enter Try.func71, Try.ntmps71
  go_upto_region 1 with fail
  rw [← HW.out.1]
  go_wp2_with (go_at_call 75; refine hsh.mono ?_; clear hsh; rintro e w4 ⟨rfl, hb4⟩; have y2 := tbox_below HW.out.2.2.2 hb4; obtain ⟨z0, z1, z2, z3⟩ := tbox_cells y2; have zf : ∀ j, w4.frozen? ⟨w.heap.size + 1, j, none⟩ = false := (fun j => by simp [World.frozen?, y2]))
  obtain ⟨W5, hW5, hb5, hB5, -⟩ := put4 (HW.out.2.1.trans (hb4.mono HW.out.2.1.size)) (Nat.le_succ _) y2 (.int .i64 k) (.int .i64 n) (.string s) (.slice none 0 0)
  rw [← hW5]
  obtain ⟨f0, f1, f2, f3⟩ := tbox_cells hb5
  refine bodyPost_ret (v := .agg #[.int .i64 k, .int .i64 n, .string s, .slice none 0 0]) (by simp [results, Try.f71, go_sem, f0, f1, f2, f3]) rfl ?_
  exact ⟨rfl, hB5⟩
set_option maxRecDepth 100000 in
set_option maxHeartbeats 8000000 in
theorem open_none (v : Value) (T : Tm) (w : World) (b N : Nat) (hL : ChainAt w b N) (hv : Has w v T) (hk1 : T.kind ≠ 1) (hkd : T.kids = []) (hwt : T.wrapsT = false) : Calls Try.prog 88 #[.pointer (some ⟨b, 0, none⟩), v] w (fun e w' => e = .returned (.tuple #[.agg #[.int .i64 T.kind, .int .i64 T.num, .string T.name, .slice none 0 0], .int .i64 0]) ∧ Below w.heap.size w w') := by
  obtain ⟨k, n, s, a, len, cap, ks, rfl, e, hlen, -⟩ := hv.form
  have hkn : k ≠ 1 := by rw [e] at hk1; exact hk1
  have hl0 : len = 0 := by rw [e] at hkd; have hkd : ks = [] := hkd; rw [hlen, hkd]; rfl
  rw [show T.kind = k by rw [e]; rfl, show T.num = n by rw [e]; rfl, show T.name = s by rw [e]; rfl]
  have HZ := Lib.hid (And.intro hkn hl0)
  clear e hlen hkn hl0 hk1 hkd
  obtain ⟨w1, hw1⟩ : ∃ w1, w1 = (w.alloc (.cells #[.int .i64 k, .int .i64 n, .string s, .slice a len cap] 24)).alloc (.cells #[.int .i64 0, .int .i64 0, .string (ByteArray.mk #[]), .slice none 0 0] 24) := ⟨_, rfl⟩
  have s1 : w1.heap.size = w.heap.size + 2 := by rw [hw1]; simp
  have b1 : Below w.heap.size w w1 := by rw [hw1]; exact ((Below.refl _ w).alloc (Nat.le_refl _) _).alloc (by simp) _
  have x1 : w1.heap[w.heap.size]? = some (.cells #[.int .i64 k, .int .i64 n, .string s, .slice a len cap] 24 (0, 0)) := by rw [hw1]; exact (Below.heap_alloc _ _ _ (by simp)).trans (World.alloc_heap_new _ _)
  have x2 : w1.heap[w.heap.size + 1]? = some (.cells #[.int .i64 0, .int .i64 0, .string (ByteArray.mk #[]), .slice none 0 0] 24 (0, 0)) := by rw [hw1]; simpa using World.alloc_heap_new (w.alloc (.cells #[.int .i64 k, .int .i64 n, .string s, .slice a len cap] 24)) (.cells #[.int .i64 0, .int .i64 0, .string (ByteArray.mk #[]), .slice none 0 0] 24)
  have hL1 := hL.below b1
  have hbot := (ch_bottom hL1).mono (R' := fun e w' => e = .returned (.int .i64 0) ∧ Below w1.heap.size w1 w') (fun e w' h => h.below)
  have hz := zeroTerm
  have hzi := zeroInt
  have hmf : ∀ (fn : Fn) (first cap : Array Value) (w : World), (Instr.makeFunc fn first cap).run Try.prog w = .ok (.func fn first cap) w := fun _ _ _ _ => rfl
  have HH := Lib.hid (And.intro hw1 (And.intro s1 (And.intro b1 (And.intro x1 (And.intro x2 (And.intro hL1 hv))))))
  clear s1 b1 x1 x2 hL1 hv
  subst hw1
  go_enter Try.func88, Try.ntmps88
  go_wp2_with fail
  refine hbot.mono ?_
  clear hbot
  rintro e w2 ⟨rfl, hb12⟩
  obtain ⟨-, s1, b1, x1, x2, hL1, hv⟩ := HH.out
  generalize hW1 : ((w.alloc (.cells #[.int .i64 k, .int .i64 n, .string s, .slice a len cap] 24)).alloc (.cells #[.int .i64 0, .int .i64 0, .string (ByteArray.mk #[]), .slice none 0 0] 24)) = w1 at *
  have b2 : Below w.heap.size w w2 := b1.trans (hb12.mono b1.size)
  obtain ⟨w3, hw3⟩ : ∃ w3, w3 = w2.alloc (.cells #[.int .i64 0] 3) := ⟨_, rfl⟩
  have b23 : Below w2.heap.size w2 w3 := by rw [hw3]; exact (Below.refl _ _).alloc (Nat.le_refl _) _
  have b13 : Below w1.heap.size w1 w3 := hb12.trans (b23.mono hb12.size)
  have b3 : Below w.heap.size w w3 := b2.trans (b23.mono b2.size)
  have l3 : w3.heap[w2.heap.size]? = some (.cells #[.int .i64 0] 3 (0, 0)) := by rw [hw3]; exact World.alloc_heap_new _ _
  have hs2 : w.heap.size + 2 ≤ w2.heap.size := by have := hb12.size; omega
  have s3 : w3.heap.size = w2.heap.size + 1 := by rw [hw3]; simp
  have y1 := tbox_below x1 b13
  have y2 := tbox_below x2 b13
  have hv3 := Has.below hv b3
  have hL3 := hL1.below b13
  have hwr := (wraps_at _ T w3 hv3).mono (R' := fun e w' => e = .returned (.bool T.wrapsT) ∧ Below w3.heap.size w3 w') (fun e w' h => h)
  obtain ⟨z0, z1, z2, z3⟩ := tbox_cells y1
  have HK := Lib.hid (And.intro b3 (And.intro y1 (And.intro y2 (And.intro hv3 (And.intro hL3 (And.intro l3 (And.intro hs2 (And.intro s3 hv))))))))
  clear HH s1 b1 x1 x2 hL1 hv hb12 b2 b23 b13 b3 l3 hs2 y1 y2 hv3 hL3 hW1 s3
  rw [hw3] at hwr z0 z1 z2 z3
  have HW3 := Lib.hid hw3
  clear hw3
  rw [hwt] at hwr
  go_wp2_with (go_at_call 51; refine hwr.mono ?_; clear hwr; rintro e w4 ⟨rfl, hb34⟩)
  rw [← HW3.out] at hb34
  obtain ⟨b3, y1, y2, hv3, hL3, l3, hs2, s3, -⟩ := HK.out
  have b4 : Below w.heap.size w w4 := b3.trans (hb34.mono b3.size)
  have g1 := tbox_below y1 hb34
  have g2 := tbox_below y2 hb34
  have g3 := one_below l3 hb34
  have hs4 : w2.heap.size + 1 ≤ w4.heap.size := by have := hb34.size; omega
  obtain ⟨q0, q1, q2, q3⟩ := tbox_cells g1
  have HS : ∀ w', But w4 (w.heap.size + 1) w' → (w'.cell? ⟨w.heap.size, 0, none⟩ = some (.int .i64 k) ∧ w'.cell? ⟨w.heap.size, 1, none⟩ = some (.int .i64 n) ∧ w'.cell? ⟨w.heap.size, 2, none⟩ = some (.string s) ∧ w'.cell? ⟨w.heap.size, 3, none⟩ = some (.slice a len cap) ∧ w'.cell? ⟨w2.heap.size, 0, none⟩ = some (.int .i64 0) ∧ But w4 (w.heap.size + 1) w') := fun w' h =>
    ⟨h.cell q0 (by omega) (by omega), h.cell q1 (by omega) (by omega), h.cell q2 (by omega) (by omega), h.cell q3 (by omega) (by omega), h.cell (one_cell g3) (by omega) (by omega), h⟩
  have hdr : Below w4.heap.size w4 w4.drew := (Below.refl _ _).drew
  have hnew : Calls Try.prog 71 #[.agg #[.int .i64 k, .int .i64 n, .string s, .slice a len cap]] w4.drew fun e w5 => e = .returned (.agg #[.int .i64 k, .int .i64 n, .string s, .slice none 0 0]) ∧ w5.cell? ⟨w.heap.size + 1, 0, none⟩ = some (.int .i64 0) ∧ w5.cell? ⟨w.heap.size + 1, 1, none⟩ = some (.int .i64 0) ∧ w5.cell? ⟨w.heap.size + 1, 2, none⟩ = some (.string (ByteArray.mk #[])) ∧ w5.cell? ⟨w.heap.size + 1, 3, none⟩ = some (.slice none 0 0) ∧ (∀ j, w5.frozen? ⟨w.heap.size + 1, j, none⟩ = false) ∧
      w5.heap[w.heap.size + 1]? = some (.cells #[.int .i64 0, .int .i64 0, .string (ByteArray.mk #[]), .slice none 0 0] 24 (0, 0)) ∧ Below w.heap.size w w5 ∧ But w4 (w.heap.size + 1) w5 := by
    rw [HZ.out.2]
    refine (whole_none k n HZ.out.1 s a cap w4.drew).mono fun e w5 h5 => ?_
    obtain ⟨rfl, hb5⟩ := h5
    have hb5' : Below w4.heap.size w4 w5 := hdr.trans hb5
    have y2 := tbox_below g2 hb5'
    obtain ⟨z0, z1, z2, z3⟩ := tbox_cells y2
    exact ⟨rfl, z0, z1, z2, z3, (fun j => by simp [World.frozen?, y2]), y2, b4.trans (hb5'.mono b4.size), But.of hb5'⟩
  have H3 := Lib.hid (And.intro hs4 hs2)
  clear g1 g2 g3 q0 q1 q2 q3 HK hb34 b3 y1 y2 hv3 hL3 l3 hs2 s3 b4 hs4 z0 z1 z2 z3
  go_wp2_with fail
  go_region_held3 (fun w' => w'.cell? ⟨w.heap.size, 0, none⟩ = some (.int .i64 k) ∧ w'.cell? ⟨w.heap.size, 1, none⟩ = some (.int .i64 n) ∧ w'.cell? ⟨w.heap.size, 2, none⟩ = some (.string s) ∧ w'.cell? ⟨w.heap.size, 3, none⟩ = some (.slice a len cap) ∧ w'.cell? ⟨w2.heap.size, 0, none⟩ = some (.int .i64 0) ∧ But w4 (w.heap.size + 1) w')
    (first
      | exact HS _ (But.of hdr)
      | exact HS _ hbut
      | exact HS _ ((((hbut.set 0 _).set 1 _).set 2 _).set 3 _))
    (first
      | (go_at_call 71; (with_reducible refine hnew.mono ?_); rintro e w5 ⟨rfl, z0, z1, z2, z3, zf, y2, hB, hbut⟩))
  all_goals
    go_wp2_with fail
    obtain ⟨W5, hW5, hb6, hB6, -⟩ := put4 hB (Nat.le_succ _) y2 (.int .i64 k) (.int .i64 n) (.string s) (.slice none 0 0)
    rw [← hW5]
    obtain ⟨f0, f1, f2, f3⟩ := tbox_cells hb6
    refine bodyPost_ret (v := .tuple #[.agg #[.int .i64 k, .int .i64 n, .string s, .slice none 0 0], .int .i64 0]) (by simp [results, Try.f88, go_sem, f0, f1, f2, f3]) rfl ?_
    exact ⟨rfl, hB6⟩
set_option maxRecDepth 100000 in
set_option maxHeartbeats 4000000 in
theorem asplit_at {p : Nat → Prop} (T : Tm) : ∀ (v : Value) (w : World), (∀ c, p c → c < w.heap.size) → TmIn p w v T → Calls Try.prog 97 #[v] w (SplitP p T w) := by
  induction T using Tm.ind with
  | h k n s ks ih =>
    intro v w hp hv
    obtain ⟨k_, n_, s_, a, len, cap, ks_, rfl, e, hlen, hk, hn, hs', hlc, hcm, ha⟩ := hv.form
    injection e with e1 e2 e3 e4
    subst e1 e2 e3 e4
    obtain ⟨w2, hw2⟩ : ∃ w2, w2 = (w.alloc (.cells #[.int .i64 k, .int .i64 n, .string s, .slice a len cap] 24)).alloc (.cells #[.int .i64 0, .int .i64 0, .string (ByteArray.mk #[]), .slice none 0 0] 24) := ⟨_, rfl⟩
    have hb2 : Below w.heap.size w w2 := by rw [hw2]; exact ((Below.refl _ w).alloc (Nat.le_refl _) _).alloc (by simp) _
    have hx1 : w2.heap[w.heap.size]? = some (.cells #[.int .i64 k, .int .i64 n, .string s, .slice a len cap] 24 (0, 0)) := by rw [hw2]; exact (Below.heap_alloc _ _ _ (by simp)).trans (World.alloc_heap_new _ _)
    have hx2 : w2.heap[w.heap.size + 1]? = some (.cells #[.int .i64 0, .int .i64 0, .string (ByteArray.mk #[]), .slice none 0 0] 24 (0, 0)) := by rw [hw2]; simpa using World.alloc_heap_new (w.alloc (.cells #[.int .i64 k, .int .i64 n, .string s, .slice a len cap] 24)) (.cells #[.int .i64 0, .int .i64 0, .string (ByteArray.mk #[]), .slice none 0 0] 24)
    have hsz2 : w2.heap.size = w.heap.size + 2 := by rw [hw2]; simp
    -- the list taken away
    obtain ⟨w3, hw3⟩ : ∃ w3, w3 = w2.setCell ⟨w.heap.size, 3, none⟩ (.slice none 0 0) := ⟨_, rfl⟩
    have hb3 : Below w.heap.size w w3 := by rw [hw3]; exact hb2.setCell (p := ⟨w.heap.size, 3, none⟩) (Nat.le_refl _) _
    have hy1 : w3.heap[w.heap.size]? = some (.cells #[.int .i64 k, .int .i64 n, .string s, .slice none 0 0] 24 (0, 0)) := by rw [hw3]; exact set_block (o := 3) hx1 _
    have hy2 : w3.heap[w.heap.size + 1]? = some (.cells #[.int .i64 0, .int .i64 0, .string (ByteArray.mk #[]), .slice none 0 0] 24 (0, 0)) := by rw [hw3]; exact (Below.heap_setCell _ _ _ _ (by simp)).trans hx2
    have hsz3 : w3.heap.size = w.heap.size + 2 := by rw [hw3]; simp [hsz2]
    have hz := zeroTerm
    obtain ⟨x0, x1, x2, x3⟩ := tbox_cells hx1
    have xf : ∀ j, w2.frozen? ⟨w.heap.size, j, none⟩ = false := fun j => by simp [World.frozen?, hx1]
    obtain ⟨y0, y1, y2, y3⟩ := tbox_cells hy1
    obtain ⟨z0, z1, z2, z3⟩ := tbox_cells hy2
    have yf : ∀ j, w3.frozen? ⟨w.heap.size, j, none⟩ = false := fun j => by simp [World.frozen?, hy1]
    have zf : ∀ j, w3.frozen? ⟨w.heap.size + 1, j, none⟩ = false := fun j => by simp [World.frozen?, hy2]
    have HW := Lib.hid (And.intro hw2 (And.intro hw3 (And.intro hb3 (And.intro hy1 (And.intro hy2 hsz3)))))
    by_cases hw : k = 4 ∧ ks.length = 1
    · obtain ⟨t, rfl, rfl⟩ := wraps_form (n := n) (s := s) hw
      obtain rfl : len = 1 := hlen
      try clear hlen
      have hkids : TsIn p w (.slice a 1 cap) [t] := TmIn.kids hv
      obtain ⟨a_, cap_, e, -, -, -, hx⟩ := hkids
      injection e with e1 e2 e3
      subst e1 e3
      clear e2
      obtain ⟨b, o, k', n', s', a', l', c', rfl, hbp, c0, c1, c2, c3, ht⟩ := hx 0 (by simp)
      have hbn := hp b hbp
      simp only [Nat.zero_mul, Nat.add_zero] at c0 c1 c2 c3
      have ht : TmIn p w (.agg #[.int .i64 k', .int .i64 n', .string s', .slice a' l' c']) t := ht
      obtain ⟨w4, hw4⟩ : ∃ w4, w4 = w3.alloc (.cells #[.int .i64 0, .int .i64 0, .string (ByteArray.mk #[]), .slice none 0 0] 24) := ⟨_, rfl⟩
      have hb34 : Below w3.heap.size w3 w4 := by rw [hw4]; exact (Below.refl _ _).alloc (Nat.le_refl _) _
      have hb4 : Below w.heap.size w w4 := hb3.trans (hb34.mono hb3.size)
      have hv1 := tbox_below hy1 hb34
      have hv2 := tbox_below hy2 hb34
      have hv3 : w4.heap[w.heap.size + 2]? = some (.cells #[.int .i64 0, .int .i64 0, .string (ByteArray.mk #[]), .slice none 0 0] 24 (0, 0)) := by rw [hw4, ← hsz3]; exact World.alloc_heap_new _ _
      have hsz4 : w4.heap.size = w.heap.size + 3 := by rw [hw4]; simp [hsz3]
      have q0 := (hb4.cell (p := ⟨b, o, none⟩) hbn).trans c0
      have q1 := (hb4.cell (p := ⟨b, o + 1, none⟩) hbn).trans c1
      have q2 := (hb4.cell (p := ⟨b, o + 2, none⟩) hbn).trans c2
      have q3 := (hb4.cell (p := ⟨b, o + 3, none⟩) hbn).trans c3
      have hcall := ih t (by simp) _ w4 (fun c hc => Nat.lt_of_lt_of_le (hp c hc) hb4.size) (ht.carry (fun c hc => hb4.block c (hp c hc)) (fun _ hc => hc))
      have HV := Lib.hid (And.intro hw4 (And.intro hb4 (And.intro hv1 (And.intro hv2 (And.intro hv3 hsz4)))))
      have HP := Lib.hid (And.intro hk (And.intro hn hs'))
      have HPp := Lib.hid hp
      clear hb2 hx1 hx2 hsz2 hb3 hy1 hy2 hsz3 hw2 hw3 ih hv ha hlc hcm hw hx hb34 hb4 hv1 hv2 hv3 hsz4 hw4 c0 c1 c2 c3 ht hbn hp hk hn hs' y0 y1 y2 y3 z0 z1 z2 z3 yf zf
      go_enter Try.func97, Try.ntmps97
      go_upto_region 1 with fail
      rw [← HW.out.1]
      go_upto_region 3 with fail
      rw [← HW.out.2.1]
      clear x0 x1 x2 x3 xf
      obtain ⟨y0, y1, y2, y3⟩ := tbox_cells HW.out.2.2.2.1
      go_upto_region 5 with fail
      rw [HW.out.2.2.2.2.2, ← HV.out.1]
      clear y0 y1 y2 y3
      skip
      go_upto_region 6 with (go_at_call 97; refine hcall.mono ?_; clear hcall; rintro e w5 ⟨k5, n5, s5, a5, l5, c5, va, lv, cv, rfl, hT5, hK5, hB5⟩; have u1 := tbox_below HV.out.2.2.1 hB5; have u2 := tbox_below HV.out.2.2.2.1 hB5; have u3 := tbox_below HV.out.2.2.2.2.1 hB5; obtain ⟨g0, g1, g2, g3⟩ := tbox_cells u3; have gf : ∀ j, w5.frozen? ⟨w.heap.size + 2, j, none⟩ = false := (fun j => by simp [World.frozen?, u3]))
      have hsz5 : w.heap.size + 3 ≤ w5.heap.size := by have := hB5.size; have := HV.out.2.2.2.2.2; omega
      have hB05 : Below w.heap.size w w5 := HV.out.2.1.trans (hB5.mono HV.out.2.1.size)
      obtain ⟨w6, hw6, hb6, hT6, hB6, hs6⟩ := boxed_new (w := w) (q := fun c => w.heap.size + 3 ≤ c ∧ c < w5.heap.size) u3 hT5 (fun c hc => by have := hc.1; have := HV.out.2.2.2.2.2; omega) (fun c hc => ⟨by have := hc.1; have := HV.out.2.2.2.2.2; omega, hc.2⟩) hB05 (Nat.le_add_right _ _)
      have ho6 : ∀ c, c ≠ w.heap.size + 2 → w6.heap[c]? = w5.heap[c]? := fun c hc => by
        rw [hw6, Below.heap_setCell _ _ _ _ (by simpa using hc), Below.heap_setCell _ _ _ _ (by simpa using hc), Below.heap_setCell _ _ _ _ (by simpa using hc), Below.heap_setCell _ _ _ _ (by simpa using hc)]
      rw [← hw6]
      have r1 := (ho6 w.heap.size (by omega)).trans u1
      have r2 := (ho6 (w.heap.size + 1) (by omega)).trans u2
      obtain ⟨g0, g1, g2, g3⟩ := tbox_cells hb6
      have rf : ∀ j, w6.frozen? ⟨w.heap.size, j, none⟩ = false := fun j => by simp [World.frozen?, r1]
      obtain ⟨w8, hw8⟩ : ∃ w8, w8 = (w6.alloc (.cells #[.int .i64 k5, .int .i64 n5, .string s5, .slice a5 l5 c5] 24)).setCell ⟨w.heap.size, 3, none⟩ (.slice (some ⟨w6.heap.size, 0, none⟩) 1 1) := ⟨_, rfl⟩
      have hlt6 : w.heap.size + 3 ≤ w6.heap.size := by omega
      have hB8 : Below w.heap.size w w8 := by rw [hw8]; exact (hB6.alloc hB6.size _).setCell (p := ⟨w.heap.size, 3, none⟩) (Nat.le_refl _) _
      have r6 : (w6.alloc (.cells #[.int .i64 k5, .int .i64 n5, .string s5, .slice a5 l5 c5] 24)).heap[w.heap.size]? = some (.cells #[.int .i64 4, .int .i64 n, .string s, .slice none 0 0] 24 (0, 0)) := (Below.heap_alloc _ _ _ (by omega)).trans r1
      obtain ⟨p0, p1, p2, p3⟩ := tbox_cells r6
      have pf : ∀ j, (w6.alloc (.cells #[.int .i64 k5, .int .i64 n5, .string s5, .slice a5 l5 c5] 24)).frozen? ⟨w.heap.size, j, none⟩ = false := fun j => by simp [World.frozen?, r6]
      have t1 : w8.heap[w.heap.size]? = some (.cells #[.int .i64 4, .int .i64 n, .string s, .slice (some ⟨w6.heap.size, 0, none⟩) 1 1] 24 (0, 0)) := by rw [hw8]; exact set_block (o := 3) r6 _
      have t2 : w8.heap[w.heap.size + 1]? = some (.cells #[.int .i64 0, .int .i64 0, .string (ByteArray.mk #[]), .slice none 0 0] 24 (0, 0)) := by rw [hw8]; exact (Below.heap_setCell _ _ _ _ (by simp)).trans ((Below.heap_alloc _ _ _ (by omega)).trans r2)
      have hsz8 : w8.heap.size = w6.heap.size + 1 := by rw [hw8]; simp
      have hT8 : TsIn (fun c => w.heap.size + 3 ≤ c ∧ c < w8.heap.size) w8 (.slice (some ⟨w6.heap.size, 0, none⟩) 1 1) [t.bare] := by
        have h1 := one_ts (q := fun c => w.heap.size + 3 ≤ c ∧ c < w6.heap.size + 1) hT6 (fun c hc => by have := hc.2; omega) (fun c hc => ⟨hc.1, by have := hc.2; omega⟩) ⟨hlt6, by omega⟩
        rw [hw8]
        exact h1.carry (fun c hc => Below.heap_setCell _ _ _ _ (by have := hc.1; simp; omega)) (fun c hc => ⟨hc.1, by simpa using hc.2⟩)
      obtain ⟨w9, hw9, hb9, hT9, hB9, hs9⟩ := boxed_new (w := w) (q := fun c => w.heap.size + 3 ≤ c ∧ c < w8.heap.size) t2 (hT8.term (k := 4) (n := n) (s := s) HP.out.1 HP.out.2.1 HP.out.2.2) (fun c hc => by have := hc.1; omega) (fun c hc => hc) hB8 (Nat.le_succ _)
      obtain ⟨e0_, e1_, e2_, e3_⟩ := tbox_cells t1
      obtain ⟨d0, d1, d2, d3⟩ := tbox_cells t2
      have df : ∀ j, w8.frozen? ⟨w.heap.size + 1, j, none⟩ = false := fun j => by simp [World.frozen?, t2]
      have HF := Lib.hid (And.intro hw9 (And.intro hb9 (And.intro hT9 (And.intro hB9 (And.intro hs9 (And.intro hsz8 (And.intro hlt6 (And.intro (hK5.carry (fun c hc => (hB9.block c (HPp.out c hc)).trans (hB05.block c (HPp.out c hc)).symm) (fun _ h => h)) hB05))))))))
      have H8 := Lib.hid hw8
      clear hw9 hb9 hT9 hB9 hs9 hsz8 hlt6 hB8 r6 t1 t2 hT8 hw8 u1 u2 u3 hT5 hB5 hsz5 hw6 hb6 hT6 hB6 hs6 ho6 r1 r2 q0 q1 q2 q3 ht hbp gf
      go_upto_region 7 with fail
      rw [← H8.out]
      clear g0 g1 g2 g3 rf p0 p1 p2 p3 pf
      go_wp2_with fail
      obtain ⟨hw9, hb9, hT9, hB9, hs9, hsz8, hlt6, hK9, hB05⟩ := HF.out
      rw [← hw9]
      obtain ⟨f0, f1, f2, f3⟩ := tbox_cells hb9
      refine bodyPost_ret (v := .tuple #[.agg #[.int .i64 4, .int .i64 n, .string s, .slice (some ⟨w6.heap.size, 0, none⟩) 1 1], .slice va lv cv]) (by simp [results, Try.f97, go_sem, f0, f1, f2, f3]) rfl ?_
      refine ⟨_, _, _, _, _, _, _, _, _, rfl, ?_, ?_, hB9⟩
      · rw [bare_wraps]
        exact hT9.carry (fun _ _ => rfl) (fun c hc => ⟨by have := hc.1; omega, by rw [hs9]; exact hc.2⟩)
      · rw [ckids_wraps]
        exact hK9
    · have HL := Lib.hid hw
      have HT := Lib.hid (TmIn.kids hv)
      have HPp := Lib.hid hp
      clear hb2 hx1 hx2 hsz2 hb3 hy1 hy2 hsz3 hw2 hw3 ih hv ha hlc hcm y0 y1 y2 y3 z0 z1 z2 z3 yf zf hp
      have fin : Hid (∃ w4, w4 = ((((w3.setCell ⟨w.heap.size + 1, 0, none⟩ (.int .i64 k)).setCell ⟨w.heap.size + 1, 1, none⟩ (.int .i64 n)).setCell ⟨w.heap.size + 1, 2, none⟩ (.string s)).setCell ⟨w.heap.size + 1, 3, none⟩ (.slice none 0 0)) ∧
          w4.heap[w.heap.size + 1]? = some (.cells #[.int .i64 k, .int .i64 n, .string s, .slice none 0 0] 24 (0, 0)) ∧ TmIn (fun c => w.heap.size ≤ c ∧ c < w4.heap.size) w4 (.agg #[.int .i64 k, .int .i64 n, .string s, .slice none 0 0]) (Tm.mk k n s ks).bare ∧ TsIn p w4 (.slice a len cap) (Tm.mk k n s ks).ckids ∧ Below w.heap.size w w4) := by
        obtain ⟨w4, e, h1, h2, h3, h4⟩ := boxed_new (w := w) HW.out.2.2.2.2.1 ((noTs (fun _ => False) w3).term hk hn hs') (q := fun c => False) (fun b hb => hb.elim) (fun b hb => hb.elim) HW.out.2.2.1 (Nat.le_succ _)
        rw [bare_else HL.out, ckids_else HL.out]
        exact ⟨w4, e, h1, h2.carry (fun _ hb => hb.elim) (fun _ hb => hb.elim), HT.out.carry (fun c hc => h3.block c (HPp.out c hc)) (fun _ hc => hc), h3⟩
      by_cases h4 : k = 4
      · have hl1 : ((len : Int) == 1) = false := by
          have : len ≠ 1 := fun e => hw ⟨h4, hlen ▸ e⟩
          simp; omega
        subst h4
        clear hw hlen
        go_enter Try.func97, Try.ntmps97
        go_upto_region 1 with fail
        rw [← HW.out.1]
        go_upto_region 3 with fail
        rw [← HW.out.2.1]
        clear x0 x1 x2 x3 xf
        obtain ⟨y0, y1, y2, y3⟩ := tbox_cells HW.out.2.2.2.1
        obtain ⟨z0, z1, z2, z3⟩ := tbox_cells HW.out.2.2.2.2.1
        have zf : ∀ j, w3.frozen? ⟨w.heap.size + 1, j, none⟩ = false := fun j => by simp [World.frozen?, HW.out.2.2.2.2.1]
        go_wp2_with fail
        obtain ⟨w4, hw4, hb4, hT, hK, hB⟩ := fin.out
        rw [← hw4]
        obtain ⟨f0, f1, f2, f3⟩ := tbox_cells hb4
        refine bodyPost_ret (v := .tuple #[.agg #[.int .i64 4, .int .i64 n, .string s, .slice none 0 0], .slice a len cap]) (by simp [results, Try.f97, go_sem, f0, f1, f2, f3]) rfl ?_
        exact ⟨_, _, _, _, _, _, _, _, _, rfl, hT, hK, hB⟩
      · have h41 : (k == 4) = false := by simpa using h4
        clear hw h4 hlen
        go_enter Try.func97, Try.ntmps97
        go_upto_region 1 with fail
        rw [← HW.out.1]
        go_upto_region 3 with fail
        rw [← HW.out.2.1]
        clear x0 x1 x2 x3 xf
        obtain ⟨y0, y1, y2, y3⟩ := tbox_cells HW.out.2.2.2.1
        obtain ⟨z0, z1, z2, z3⟩ := tbox_cells HW.out.2.2.2.2.1
        have zf : ∀ j, w3.frozen? ⟨w.heap.size + 1, j, none⟩ = false := fun j => by simp [World.frozen?, HW.out.2.2.2.2.1]
        go_wp2_with fail
        obtain ⟨w4, hw4, hb4, hT, hK, hB⟩ := fin.out
        rw [← hw4]
        obtain ⟨f0, f1, f2, f3⟩ := tbox_cells hb4
        refine bodyPost_ret (v := .tuple #[.agg #[.int .i64 k, .int .i64 n, .string s, .slice none 0 0], .slice a len cap]) (by simp [results, Try.f97, go_sem, f0, f1, f2, f3]) rfl ?_
        exact ⟨_, _, _, _, _, _, _, _, _, rfl, hT, hK, hB⟩
end Go.Proofs.Ytfjnajngelemkaa
