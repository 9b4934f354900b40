/-
  seal.Erase and seal.Hide: the functions that they make, and what they answer.
-/
import Derived.Test.YtbdkakpbhijilaaSeal2
import Derived.Laws.EntriesVeiled
namespace Go.Proofs.Ytbdkakpbhijilaa
open Go.RowKit Go.Shelf
set_option linter.unusedVariables false

/-- All that was there is as it was, but for one block. -/
structure But (w0 : World) (B : Nat) (w' : World) : Prop where
  os : w'.os = w0.os
  tape : w'.tape = w0.tape
  output : w'.output = w0.output
  size : w0.heap.size ≤ w'.heap.size
  same : ∀ b, b < w0.heap.size → b ≠ B → w'.heap[b]? = w0.heap[b]?
theorem But.refl (w : World) (B : Nat) : But w B w := ⟨rfl, rfl, rfl, Nat.le_refl _, fun _ _ _ => rfl⟩
theorem But.below {w0 w' w'' : World} {B : Nat} (h : But w0 B w') (k : Below w'.heap.size w' w'') : But w0 B w'' :=
  ⟨k.os.trans h.os, k.tape.trans h.tape, k.output.trans h.output, Nat.le_trans h.size k.size, fun b hb hne => (k.block b (Nat.lt_of_lt_of_le hb h.size)).trans (h.same b hb hne)⟩
theorem But.of {w0 w' : World} {B : Nat} (k : Below w0.heap.size w0 w') : But w0 B w' := (But.refl w0 B).below k
theorem But.trans {w0 w' w'' : World} {B : Nat} (h : But w0 B w') (k : But w' B w'') : But w0 B w'' :=
  ⟨k.os.trans h.os, k.tape.trans h.tape, k.output.trans h.output, Nat.le_trans h.size k.size, fun b hb hne => (k.same b (Nat.lt_of_lt_of_le hb h.size) hne).trans (h.same b hb hne)⟩
theorem But.drew {w0 w' : World} {B : Nat} (h : But w0 B w') : But w0 B w'.drew := ⟨h.os, h.tape, h.output, h.size, h.same⟩
theorem But.set {w0 w' : World} {B : Nat} (h : But w0 B w') (o : Nat) (v : Value) : But w0 B (w'.setCell ⟨B, o, none⟩ v) :=
  ⟨h.os, h.tape, h.output, by simpa using h.size, fun b hb hne => (Below.heap_setCell w' ⟨B, o, none⟩ v b hne).trans (h.same b hb hne)⟩
theorem But.cell {w0 w' : World} {B : Nat} (h : But w0 B w') {b o : Nat} {v : Value} (hc : w0.cell? ⟨b, o, none⟩ = some v) (hlt : b < w0.heap.size) (hne : b ≠ B) : w'.cell? ⟨b, o, none⟩ = some v :=
  (World.cell?_of_block (a := ⟨b, o, none⟩) (h.same b hlt hne)).trans hc
theorem But.has {w0 w' : World} {B : Nat} (h : But w0 B w') {n₀ : Nat} (hn : n₀ ≤ w0.heap.size) (hB : n₀ ≤ B) {v : Value} {T : Tm} (ht : IsTm n₀ w0 v T) : Has w' v T :=
  TmIn.carry (fun b hb => h.same b (by have : b < n₀ := hb; omega) (by have : b < n₀ := hb; omega)) (fun b hb => by have : b < n₀ := hb; have := h.size; omega) ht
theorem But.isBelow {w0 w' : World} {B m : Nat} (h : But w0 B w') (hm : m ≤ B) (hs : m ≤ w0.heap.size) : Below m w0 w' := ⟨h.os, h.tape, h.output, h.size, fun b hb => h.same b (by omega) (by omega)⟩

theorem one_below {W W' : World} {B : Nat} {v : Value} {t : TypeId} {z : Nat × Nat} (h : W.heap[B]? = some (.cells #[v] t z)) (hb : Below W.heap.size W W') : W'.heap[B]? = some (.cells #[v] t z) :=
  (hb.block B (Array.getElem?_eq_some_iff.1 h).1).trans h
theorem one_cell {W : World} {B : Nat} {v : Value} {t : TypeId} {z : Nat × Nat} (h : W.heap[B]? = some (.cells #[v] t z)) : W.cell? ⟨B, 0, none⟩ = some v := by simp [World.cell?, h]
theorem one_free {W : World} {B : Nat} {v : Value} {t : TypeId} (h : W.heap[B]? = some (.cells #[v] t (0, 0))) (j : Nat) : W.frozen? ⟨B, j, none⟩ = false := by simp [World.frozen?, h]

theorem zeroFn (w : World) : (zeroValue 34).run Try.prog w = .ok .nilFunc w := by kernel_rfl

set_option maxRecDepth 100000 in
set_option maxHeartbeats 4000000 in
theorem erase1_at (T : Tm) : ∀ (v : Value) (w : World) (B1 : Nat), w.heap[B1]? = some (.cells #[.func (.func 43) #[] #[.pointer (some ⟨B1, 0, none⟩)]] 34 (0, 0)) → Has w v T → T.size ≤ 1000000000000 →
    Calls Try.prog 43 #[v, .pointer (some ⟨B1, 0, none⟩)] w (NewTm w T.er) := by
  induction T using Tm.ind with
  | h k n s ks ih =>
    intro v w B1 hfn hv hs
    obtain ⟨k_, n_, s_, a, len, cap, ks_, rfl, e, rfl, hk, hn, hs', hc, hm, ha⟩ := hv.form
    injection e with e1 e2 e3 e4
    subst e1 e2 e3 e4
    have hsz : ks.length ≤ 1000000000000 := by have := Tm.length_le_sizes ks; rw [Tm.size_mk] at hs; omega
    have hkl : ∀ t ∈ ks, t.size ≤ 1000000000000 := fun t ht => by have := Tm.size_le_sizes ht; rw [Tm.size_mk] at hs; omega
    obtain ⟨w2, hw2⟩ : ∃ w2, w2 = (w.alloc (.cells #[.int .i64 k, .int .i64 n, .string s, .slice a ks.length cap] 24)).alloc (.cells #[.int .i64 0, .int .i64 0, .string (ByteArray.mk #[]), .slice none 0 0] 24) := ⟨_, rfl⟩
    have hb2 : Below w.heap.size w w2 := by rw [hw2]; exact ((Below.refl _ w).alloc (Nat.le_refl _) _).alloc (by simp) _
    have hx1 : w2.heap[w.heap.size]? = some (.cells #[.int .i64 k, .int .i64 n, .string s, .slice a ks.length cap] 24 (0, 0)) := by rw [hw2]; exact (Below.heap_alloc _ _ _ (by simp)).trans (World.alloc_heap_new _ _)
    have hx2 : w2.heap[w.heap.size + 1]? = some (.cells #[.int .i64 0, .int .i64 0, .string (ByteArray.mk #[]), .slice none 0 0] 24 (0, 0)) := by rw [hw2]; simpa using World.alloc_heap_new (w.alloc (.cells #[.int .i64 k, .int .i64 n, .string s, .slice a ks.length cap] 24)) (.cells #[.int .i64 0, .int .i64 0, .string (ByteArray.mk #[]), .slice none 0 0] 24)
    have hsz2 : w2.heap.size = w.heap.size + 2 := by rw [hw2]; simp
    have hz := zeroTerm
    have hwr := wraps_at _ _ w2 (Has.below hv hb2)
    by_cases hw : k = 4 ∧ ks.length = 1
    · obtain ⟨t, rfl, rfl⟩ := wraps_form (n := n) (s := s) hw
      rw [Tm.er_wraps]
      obtain ⟨b, o, k1, n1, s1, a1, l1, c1, T1, rfl, hbn, e0, e1, e2, e3, hT1, ht1⟩ := IsTm.kid hv 0 (by simp)
      have eT : T1 = t := by simpa using hT1.symm
      subst eT
      have hwr' := hwr.mono (R' := fun e w3 => e = .returned (.bool true) ∧ Below w2.heap.size w2 w3 ∧ Below w.heap.size w w3) (fun e w3 h => ⟨by rw [h.1]; rfl, h.2, hb2.trans (h.2.mono hb2.size)⟩)
      have HH := Lib.hid (And.intro hw2 (And.intro hx1 (And.intro hx2 (And.intro hsz2 (And.intro hfn (And.intro ht1 (And.intro e0 (And.intro e1 (And.intro e2 e3)))))))))
      have HI := Lib.hid (And.intro ih hkl)
      clear hx1 hx2 hsz2 hfn ht1 e0 e1 e2 e3 ih hkl hv hb2 hwr hT1 hs
      rw [hw2] at hwr'
      clear hw2
      go_enter Try.func43, Try.ntmps43
      go_wp2_with (go_at_call 44; refine hwr'.mono ?_; clear hwr'; rintro e w3 ⟨rfl, hb23, hb3⟩)
      obtain ⟨hw2, hx1, hx2, hsz2, hfn, ht1, e0, e1, e2, e3⟩ := HH.out
      rw [← hw2] at hb23
      have g1 := tbox_below hx1 hb23
      have g2 := tbox_below hx2 hb23
      have g3 := hb3.block B1 (Array.getElem?_eq_some_iff.1 hfn).1 |>.trans hfn
      have hB1 : B1 < w.heap.size := (Array.getElem?_eq_some_iff.1 hfn).1
      have hs3 : w.heap.size + 2 ≤ w3.heap.size := by have := hb23.size; omega
      obtain ⟨x0, x1, x2, x3⟩ := tbox_cells g1
      have q0 := (hb3.cell (p := ⟨b, o + 0 * 4, none⟩) hbn).trans e0
      have q1 := (hb3.cell (p := ⟨b, o + 0 * 4 + 1, none⟩) hbn).trans e1
      have q2 := (hb3.cell (p := ⟨b, o + 0 * 4 + 2, none⟩) hbn).trans e2
      have q3 := (hb3.cell (p := ⟨b, o + 0 * 4 + 3, none⟩) hbn).trans e3
      simp only [Nat.zero_mul, Nat.add_zero] at q0 q1 q2 q3
      have HS : ∀ w', But w3 (w.heap.size + 1) w' → (w'.cell? ⟨B1, 0, none⟩ = some (.func (.func 43) #[] #[.pointer (some ⟨B1, 0, none⟩)]) ∧ w'.cell? ⟨w.heap.size, 3, none⟩ = some (.slice (some ⟨b, o, none⟩) 1 cap) ∧ w'.cell? ⟨b, o, none⟩ = some (.int .i64 k1) ∧ w'.cell? ⟨b, o + 1, none⟩ = some (.int .i64 n1) ∧ w'.cell? ⟨b, o + 2, none⟩ = some (.string s1) ∧ w'.cell? ⟨b, o + 3, none⟩ = some (.slice a1 l1 c1) ∧ But w3 (w.heap.size + 1) w') := fun w' h =>
        ⟨h.cell (one_cell g3) (by omega) (by omega), h.cell x3 (by omega) (by omega), h.cell q0 (by omega) (by omega), h.cell q1 (by omega) (by omega), h.cell q2 (by omega) (by omega), h.cell q3 (by omega) (by omega), h⟩
      have hdr : Below w3.heap.size w3 w3.drew := (Below.refl _ _).drew
      have hnew : Calls Try.prog 43 #[.agg #[.int .i64 k1, .int .i64 n1, .string s1, .slice a1 l1 c1], .pointer (some ⟨B1, 0, none⟩)] w3.drew fun e w4 => ∃ k4 n4 s4 a4 l4 c4, e = .returned (.agg #[.int .i64 k4, .int .i64 n4, .string s4, .slice a4 l4 c4]) ∧ w4.cell? ⟨w.heap.size + 1, 0, none⟩ = some (.int .i64 0) ∧ w4.cell? ⟨w.heap.size + 1, 1, none⟩ = some (.int .i64 0) ∧ w4.cell? ⟨w.heap.size + 1, 2, none⟩ = some (.string (ByteArray.mk #[])) ∧ w4.cell? ⟨w.heap.size + 1, 3, none⟩ = some (.slice none 0 0) ∧ (∀ j, w4.frozen? ⟨w.heap.size + 1, j, none⟩ = false) ∧
          w4.heap[w.heap.size + 1]? = some (.cells #[.int .i64 0, .int .i64 0, .string (ByteArray.mk #[]), .slice none 0 0] 24 (0, 0)) ∧ TmIn (fun b => w3.heap.size ≤ b ∧ b < w4.heap.size) w4 (.agg #[.int .i64 k4, .int .i64 n4, .string s4, .slice a4 l4 c4]) T1.er ∧ Below w.heap.size w w4 ∧ But w3 (w.heap.size + 1) w4 :=
        (HI.out.1 T1 (by simp) _ w3.drew B1 (one_below g3 hdr) (IsTm.later (hb3.trans (hdr.mono hb3.size)) hb3.size ht1) (HI.out.2 T1 (by simp))).mono fun e w4 h4 => by
          obtain ⟨r, rfl, hr, hb4⟩ := h4
          obtain ⟨k4, n4, s4, a4, l4, c4, ks4, rfl, -⟩ := hr.form
          have hb4' : Below w3.heap.size w3 w4 := hdr.trans hb4
          have y2 := tbox_below g2 hb4'
          obtain ⟨z0, z1, z2, z3⟩ := tbox_cells y2
          exact ⟨k4, n4, s4, a4, l4, c4, rfl, z0, z1, z2, z3, (fun j => by simp [World.frozen?, y2]), y2, hr, hb3.trans (hb4'.mono hb3.size), But.of hb4'⟩
      have H3 := Lib.hid hs3
      clear hb23 g1 g2 g3 x0 x1 x2 x3 q0 q1 q2 q3 HH hw2 hx1 hx2 hsz2 hfn ht1 e0 e1 e2 e3 HI hs3 hB1 hbn
      go_wp2_with fail
      go_region_held3 (fun w' => w'.cell? ⟨B1, 0, none⟩ = some (.func (.func 43) #[] #[.pointer (some ⟨B1, 0, none⟩)]) ∧ w'.cell? ⟨w.heap.size, 3, none⟩ = some (.slice (some ⟨b, o, none⟩) 1 cap) ∧ w'.cell? ⟨b, o, none⟩ = some (.int .i64 k1) ∧ w'.cell? ⟨b, o + 1, none⟩ = some (.int .i64 n1) ∧ w'.cell? ⟨b, o + 2, none⟩ = some (.string s1) ∧ w'.cell? ⟨b, o + 3, none⟩ = some (.slice a1 l1 c1) ∧ But w3 (w.heap.size + 1) w')
        (first
          | exact HS _ (But.of hdr)
          | exact HS _ hbut
          | exact HS _ ((((hbut.set 0 _).set 1 _).set 2 _).set 3 _))
        (first
          | (go_at_call 43; (with_reducible refine hnew.mono ?_); rintro e w4 ⟨k4, n4, s4, a4, l4, c4, rfl, z0, z1, z2, z3, zf, y2, hT, hB, hbut⟩))
      go_wp2_with fail
      have h5 := boxed_result y2 hT (fun b hb => by have := H3.out; have := hb.1; have := hb.2; omega) hB (Nat.le_succ _)
      generalize ((((w4.setCell ⟨w.heap.size + 1, 0, none⟩ (.int .i64 k4)).setCell ⟨w.heap.size + 1, 1, none⟩ (.int .i64 n4)).setCell ⟨w.heap.size + 1, 2, none⟩ (.string s4)).setCell ⟨w.heap.size + 1, 3, none⟩ (.slice a4 l4 c4)) = w5 at h5 ⊢
      obtain ⟨hb5, h5⟩ := h5
      obtain ⟨f0, f1, f2, f3⟩ := tbox_cells hb5
      refine bodyPost_ret (v := .agg #[.int .i64 k4, .int .i64 n4, .string s4, .slice a4 l4 c4]) (by simp [results, Try.f43, go_sem, f0, f1, f2, f3]) rfl ?_
      exact h5
    · rw [Tm.er_else hw]
      have hwr' := hwr.mono (R' := fun e w3 => e = .returned (.bool false) ∧ Below w2.heap.size w2 w3 ∧ Below w.heap.size w w3 ∧ w3.cell? ⟨w.heap.size, 0, none⟩ = some (.int .i64 k) ∧ w3.cell? ⟨w.heap.size, 1, none⟩ = some (.int .i64 n) ∧ w3.cell? ⟨w.heap.size, 2, none⟩ = some (.string s) ∧ w3.cell? ⟨w.heap.size, 3, none⟩ = some (.slice a ks.length cap) ∧ w3.cell? ⟨B1, 0, none⟩ = some (.func (.func 43) #[] #[.pointer (some ⟨B1, 0, none⟩)])) (fun e w3 h => by
        have hb := hb2.trans (h.2.mono hb2.size)
        obtain ⟨x0, x1, x2, x3⟩ := tbox_cells (tbox_below hx1 h.2)
        exact ⟨by rw [h.1]; exact congrArg (fun b => Ending.returned (.bool b)) (decide_eq_false hw), h.2, hb, x0, x1, x2, x3, one_cell ((hb.block B1 (Array.getElem?_eq_some_iff.1 hfn).1).trans hfn)⟩)
      have hwk : ∀ w3, Below w2.heap.size w2 w3 → Below w.heap.size w w3 → Calls Try.prog 45 #[.agg #[.int .i64 k, .int .i64 n, .string s, .slice a ks.length cap], .func (.func 43) #[] #[.pointer (some ⟨B1, 0, none⟩)]] w3 fun e w4 => ∃ k4 n4 s4 a4 l4 c4, e = .returned (.agg #[.int .i64 k4, .int .i64 n4, .string s4, .slice a4 l4 c4]) ∧ w4.cell? ⟨w.heap.size + 1, 0, none⟩ = some (.int .i64 0) ∧ w4.cell? ⟨w.heap.size + 1, 1, none⟩ = some (.int .i64 0) ∧ w4.cell? ⟨w.heap.size + 1, 2, none⟩ = some (.string (ByteArray.mk #[])) ∧ w4.cell? ⟨w.heap.size + 1, 3, none⟩ = some (.slice none 0 0) ∧ (∀ j, w4.frozen? ⟨w.heap.size + 1, j, none⟩ = false) ∧
          w4.heap[w.heap.size + 1]? = some (.cells #[.int .i64 0, .int .i64 0, .string (ByteArray.mk #[]), .slice none 0 0] 24 (0, 0)) ∧ TmIn (fun b => w3.heap.size ≤ b ∧ b < w4.heap.size) w4 (.agg #[.int .i64 k4, .int .i64 n4, .string s4, .slice a4 l4 c4]) (.mk k n s (ks.map Tm.er)) ∧ Below w.heap.size w w4 ∧ w.heap.size + 2 ≤ w3.heap.size := fun w3 h23 h3 =>
        (withKids_erase B1 Tm.er k n s ks _ w3 (IsTm.later h3 h3.size hv) hsz (fun t ht v w' hb' hv' => ih t ht v w' B1 (one_below (((h3.block B1 (Array.getElem?_eq_some_iff.1 hfn).1).trans hfn)) hb') hv' (hkl t ht))).mono fun e w4 h4 => by
          obtain ⟨r, rfl, hr, hb4⟩ := h4
          obtain ⟨k4, n4, s4, a4, l4, c4, ks4, rfl, -⟩ := hr.form
          have y2 := tbox_below (tbox_below hx2 h23) hb4
          obtain ⟨z0, z1, z2, z3⟩ := tbox_cells y2
          exact ⟨k4, n4, s4, a4, l4, c4, rfl, z0, z1, z2, z3, (fun j => by simp [World.frozen?, y2]), y2, hr, h3.trans (hb4.mono h3.size), by have := h23.size; omega⟩
      have HH := Lib.hid hw2
      clear hx1 hx2 hsz2 hfn ih hkl hv hb2 hwr hs
      rw [hw2] at hwr'
      clear hw2
      go_enter Try.func43, Try.ntmps43
      go_wp2_with (first
        | (go_at_call 44; refine hwr'.mono ?_; clear hwr'; rintro e w3 ⟨rfl, hb23, hb3, x0, x1, x2, x3, x4⟩; rw [← HH.out] at hb23)
        | (go_at_call 45; refine (hwk _ hb23 hb3).mono ?_; clear hwk; rintro e w4 ⟨k4, n4, s4, a4, l4, c4, rfl, z0, z1, z2, z3, zf, y2, hT, hB, hs3⟩))
      have h5 := boxed_result y2 hT (fun b hb => by have := hb.1; have := hb.2; omega) hB (Nat.le_succ _)
      generalize ((((w4.setCell ⟨w.heap.size + 1, 0, none⟩ (.int .i64 k4)).setCell ⟨w.heap.size + 1, 1, none⟩ (.int .i64 n4)).setCell ⟨w.heap.size + 1, 2, none⟩ (.string s4)).setCell ⟨w.heap.size + 1, 3, none⟩ (.slice a4 l4 c4)) = w5 at h5 ⊢
      obtain ⟨hb5, h5⟩ := h5
      obtain ⟨f0, f1, f2, f3⟩ := tbox_cells hb5
      refine bodyPost_ret (v := .agg #[.int .i64 k4, .int .i64 n4, .string s4, .slice a4 l4 c4]) (by simp [results, Try.f43, go_sem, f0, f1, f2, f3]) rfl ?_
      exact h5

set_option maxRecDepth 100000 in
set_option maxHeartbeats 2000000 in
theorem erase_at (v : Value) (T : Tm) (w : World) (hv : Has w v T) (hs : T.size ≤ 1000000000000) : Calls Try.prog 19 #[v] w (NewTm w T.er) := by
  obtain ⟨k, n, s, a, len, cap, ks, rfl, e, -⟩ := hv.form
  obtain ⟨w2, hw2⟩ : ∃ w2, w2 = (w.alloc (.cells #[.int .i64 k, .int .i64 n, .string s, .slice a len cap] 24)).alloc (.cells #[.int .i64 0, .int .i64 0, .string (ByteArray.mk #[]), .slice none 0 0] 24) := ⟨_, rfl⟩
  have hb2 : Below w.heap.size w w2 := by rw [hw2]; exact ((Below.refl _ w).alloc (Nat.le_refl _) _).alloc (by simp) _
  have hx1 : w2.heap[w.heap.size]? = some (.cells #[.int .i64 k, .int .i64 n, .string s, .slice a len cap] 24 (0, 0)) := by rw [hw2]; exact (Below.heap_alloc _ _ _ (by simp)).trans (World.alloc_heap_new _ _)
  have hx2 : w2.heap[w.heap.size + 1]? = some (.cells #[.int .i64 0, .int .i64 0, .string (ByteArray.mk #[]), .slice none 0 0] 24 (0, 0)) := by rw [hw2]; simpa using World.alloc_heap_new (w.alloc (.cells #[.int .i64 k, .int .i64 n, .string s, .slice a len cap] 24)) (.cells #[.int .i64 0, .int .i64 0, .string (ByteArray.mk #[]), .slice none 0 0] 24)
  have hsz2 : w2.heap.size = w.heap.size + 1 + 1 := by rw [hw2]; simp
  have hz := zeroTerm
  have hnf := zeroFn
  obtain ⟨w3, hw3⟩ : ∃ w3, w3 = w2.alloc (.cells #[.func (.func 43) #[] #[.pointer (some ⟨w.heap.size + 1 + 1, 0, none⟩)]] 34) := ⟨_, rfl⟩
  have hb3 : Below w.heap.size w w3 := by rw [hw3]; exact hb2.alloc (by omega) _
  have h1 : w3.heap[w.heap.size]? = some (.cells #[.int .i64 k, .int .i64 n, .string s, .slice a len cap] 24 (0, 0)) := by rw [hw3]; exact (Below.heap_alloc _ _ _ (by omega)).trans hx1
  have h2 : w3.heap[w.heap.size + 1]? = some (.cells #[.int .i64 0, .int .i64 0, .string (ByteArray.mk #[]), .slice none 0 0] 24 (0, 0)) := by rw [hw3]; exact (Below.heap_alloc _ _ _ (by omega)).trans hx2
  have hsz3 : w3.heap.size = w.heap.size + 1 + 1 + 1 := by rw [hw3]; simp [hsz2]
  have h3 : w3.heap[w.heap.size + 1 + 1]? = some (.cells #[.func (.func 43) #[] #[.pointer (some ⟨w.heap.size + 1 + 1, 0, none⟩)]] 34 (0, 0)) := by
    rw [hw3]
    have := World.alloc_heap_new w2 (.cells #[.func (.func 43) #[] #[.pointer (some ⟨w.heap.size + 1 + 1, 0, none⟩)]] 34)
    rw [hsz2] at this
    exact this
  have hcall := (erase1_at T _ w3 (w.heap.size + 1 + 1) h3 (IsTm.later hb3 hb3.size hv) hs).mono (R' := fun e w4 => ∃ k4 n4 s4 a4 l4 c4, e = .returned (.agg #[.int .i64 k4, .int .i64 n4, .string s4, .slice a4 l4 c4]) ∧ w4.cell? ⟨w.heap.size + 1, 0, none⟩ = some (.int .i64 0) ∧ w4.cell? ⟨w.heap.size + 1, 1, none⟩ = some (.int .i64 0) ∧ w4.cell? ⟨w.heap.size + 1, 2, none⟩ = some (.string (ByteArray.mk #[])) ∧ w4.cell? ⟨w.heap.size + 1, 3, none⟩ = some (.slice none 0 0) ∧ (∀ j, w4.frozen? ⟨w.heap.size + 1, j, none⟩ = false) ∧
      w4.heap[w.heap.size + 1]? = some (.cells #[.int .i64 0, .int .i64 0, .string (ByteArray.mk #[]), .slice none 0 0] 24 (0, 0)) ∧ TmIn (fun b => w3.heap.size ≤ b ∧ b < w4.heap.size) w4 (.agg #[.int .i64 k4, .int .i64 n4, .string s4, .slice a4 l4 c4]) T.er ∧ Below w.heap.size w w4) (fun e w4 h4 => by
    obtain ⟨r, rfl, hr, hb4⟩ := h4
    obtain ⟨k4, n4, s4, a4, l4, c4, ks4, rfl, -⟩ := hr.form
    have y2 := tbox_below h2 hb4
    obtain ⟨z0, z1, z2, z3⟩ := tbox_cells y2
    exact ⟨k4, n4, s4, a4, l4, c4, rfl, z0, z1, z2, z3, (fun j => by simp [World.frozen?, y2]), y2, hr, hb3.trans (hb4.mono hb3.size)⟩)
  obtain ⟨x0, x1, x2, x3⟩ := tbox_cells h1
  have x4 := one_cell h3
  have HS := Lib.hid hsz3
  have HW := Lib.hid (And.intro hw2 hw3)
  have hmf : ∀ (fn : Fn) (first cap : Array Value) (w : World), (Instr.makeFunc fn first cap).run Try.prog w = .ok (.func fn first cap) w := fun _ _ _ _ => rfl
  clear hv hb2 hx1 hx2 hsz2 e hb3 h1 h2 h3 hsz3
  rw [hw2] at hw3
  clear hw2
  subst hw3
  go_enter Try.func19, Try.ntmps19
  go_wp2_with (go_at_call 43; refine hcall.mono ?_; clear hcall; rintro e w4 ⟨k4, n4, s4, a4, l4, c4, rfl, z0, z1, z2, z3, zf, y2, hT, hB⟩)
  have h5 := boxed_result y2 hT (fun b hb => by have := HS.out; have := hb.1; have := hb.2; omega) hB (Nat.le_succ _)
  generalize ((((w4.setCell ⟨w.heap.size + 1, 0, none⟩ (.int .i64 k4)).setCell ⟨w.heap.size + 1, 1, none⟩ (.int .i64 n4)).setCell ⟨w.heap.size + 1, 2, none⟩ (.string s4)).setCell ⟨w.heap.size + 1, 3, none⟩ (.slice a4 l4 c4)) = w5 at h5 ⊢
  obtain ⟨hb5, h5⟩ := h5
  obtain ⟨f0, f1, f2, f3⟩ := tbox_cells hb5
  refine bodyPost_ret (v := .agg #[.int .i64 k4, .int .i64 n4, .string s4, .slice a4 l4 c4]) (by simp [results, Try.f19, go_sem, f0, f1, f2, f3]) rfl ?_
  exact h5

end Go.Proofs.Ytbdkakpbhijilaa
