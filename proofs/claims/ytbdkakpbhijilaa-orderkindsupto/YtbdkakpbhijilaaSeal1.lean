/-
  seal.wraps, seal.whole, seal.levelOf, seal.Put: what they answer.
-/
import Derived.Test.YtbdkakpbhijilaaSealM
import Derived.Test.YtbdkakpbhijilaaMake
import Derived.Test.YtbdkakpbhijilaaShown
import Derived.Test.YtbdkakpbhijilaaLv
import Derived.Test.YtbdkakpbhijilaaFam
import Derived.Test.YtbdkakpbhijilaaLast
import Derived.Deep.RegionHeld3
namespace Go.Proofs.Ytbdkakpbhijilaa
open Go.RowKit Go.Shelf
set_option linter.unusedVariables false

/-- A term that is stored whole into a box of one's own, and handed back. -/
theorem boxed_result {w w4 : World} {B : Nat} {c0 c1 c2 c3 : Value} (y : w4.heap[B]? = some (.cells #[c0, c1, c2, c3] 24 (0, 0))) {v0 v1 v2 v3 : Value} {T : Tm} {p : Nat → Prop} (hT : TmIn p w4 (.agg #[v0, v1, v2, v3]) T)
    (hp : ∀ b, p b → B < b ∧ b < w4.heap.size) (hB : Below w.heap.size w w4) (hw : w.heap.size ≤ B) :
    ((((w4.setCell ⟨B, 0, none⟩ v0).setCell ⟨B, 1, none⟩ v1).setCell ⟨B, 2, none⟩ v2).setCell ⟨B, 3, none⟩ v3).heap[B]? = some (.cells #[v0, v1, v2, v3] 24 (0, 0)) ∧ NewTm w T (.returned (.agg #[v0, v1, v2, v3])) ((((w4.setCell ⟨B, 0, none⟩ v0).setCell ⟨B, 1, none⟩ v1).setCell ⟨B, 2, none⟩ v2).setCell ⟨B, 3, none⟩ v3) := by
  refine ⟨four_block y v0 v1 v2 v3, _, rfl, hT.carry (fun b hb => ?_) (fun b hb => ?_), (((hB.setCell (p := ⟨B, 0, none⟩) hw v0).setCell (p := ⟨B, 1, none⟩) hw v1).setCell (p := ⟨B, 2, none⟩) hw v2).setCell (p := ⟨B, 3, none⟩) hw v3⟩
  · have := (hp b hb).1
    rw [Below.heap_setCell _ _ _ _ (by simp; omega), Below.heap_setCell _ _ _ _ (by simp; omega), Below.heap_setCell _ _ _ _ (by simp; omega), Below.heap_setCell _ _ _ _ (by simp; omega)]
  · have := hp b hb
    simp
    omega

theorem gets_of_reads {w : World} {v : Value} {e : Ending} {w' : World} (h : Reads w v e w') : Gets w v e w' := h.below

set_option maxRecDepth 100000 in
theorem wraps_at (v : Value) (T : Tm) (w : World) (hv : Has w v T) : Calls Try.prog 44 #[v] w (Gets w (.bool T.wrapsT)) := by
  obtain ⟨k, n, s, a, len, cap, ks, rfl, rfl, rfl, -⟩ := hv.form
  have hb : Below w.heap.size w (w.alloc (.cells #[.int .i64 k, .int .i64 n, .string s, .slice a ks.length cap] 24)) := (Below.refl _ w).alloc (Nat.le_refl _) _
  have HB := Lib.hid hb
  clear hb hv
  show Calls _ _ _ _ (Gets w (.bool (decide (k = 4 ∧ ks.length = 1))))
  generalize ks.length = len at HB ⊢
  by_cases h4 : k = 4
  · subst h4
    have hd : ((len : Int) == 1) = decide ((4 : Int) = 4 ∧ len = 1) := by
      by_cases h : len = 1
      · subst h; rfl
      · rw [decide_eq_false (fun e => h e.2)]; simp; omega
    rw [← hd]
    clear hd
    go_enter Try.func44, Try.ntmps44
    go_wp2_with fail
    go_ret
    exact ⟨rfl, HB.out⟩
  · rw [decide_eq_false (fun e => h4 e.1)]
    have h4' : (k == 4) = false := by simpa using h4
    go_enter Try.func44, Try.ntmps44
    go_wp2_with fail
    go_ret
    exact ⟨rfl, HB.out⟩

set_option maxRecDepth 100000 in
set_option maxHeartbeats 1000000 in
theorem whole_at (v : Value) (T : Tm) (w : World) (hv : Has w v T) (hs : T.size ≤ 1000000000000) : Calls Try.prog 58 #[v] w (NewTm w T) := by
  obtain ⟨k, n, s, a, len, cap, ks, rfl, e, -⟩ := hv.form
  obtain ⟨w2, hw2⟩ : ∃ w2, w2 = (w.alloc (.cells #[.int .i64 k, .int .i64 n, .string s, .slice a len cap] 24)).alloc (.cells #[.int .i64 0, .int .i64 0, .string (ByteArray.mk #[]), .slice none 0 0] 24) := ⟨_, rfl⟩
  have hb : Below w.heap.size w w2 := by rw [hw2]; exact ((Below.refl _ w).alloc (Nat.le_refl _) _).alloc (by simp) _
  have hx2 : w2.heap[w.heap.size + 1]? = some (.cells #[.int .i64 0, .int .i64 0, .string (ByteArray.mk #[]), .slice none 0 0] 24 (0, 0)) := by rw [hw2]; simpa using World.alloc_heap_new (w.alloc (.cells #[.int .i64 k, .int .i64 n, .string s, .slice a len cap] 24)) (.cells #[.int .i64 0, .int .i64 0, .string (ByteArray.mk #[]), .slice none 0 0] 24)
  have hsz2 : w2.heap.size = w.heap.size + 2 := by rw [hw2]; simp
  have hsh := (shift_at 0 T _ w2 (Has.below hv hb) hs).mono (R' := fun e w4 => ∃ k4 n4 s4 a4 l4 c4, e = .returned (.agg #[.int .i64 k4, .int .i64 n4, .string s4, .slice a4 l4 c4]) ∧ w4.cell? ⟨w.heap.size + 1, 0, none⟩ = some (.int .i64 0) ∧ w4.cell? ⟨w.heap.size + 1, 1, none⟩ = some (.int .i64 0) ∧ w4.cell? ⟨w.heap.size + 1, 2, none⟩ = some (.string (ByteArray.mk #[])) ∧ w4.cell? ⟨w.heap.size + 1, 3, none⟩ = some (.slice none 0 0) ∧ (∀ j, w4.frozen? ⟨w.heap.size + 1, j, none⟩ = false) ∧
      w4.heap[w.heap.size + 1]? = some (.cells #[.int .i64 0, .int .i64 0, .string (ByteArray.mk #[]), .slice none 0 0] 24 (0, 0)) ∧ TmIn (fun b => w2.heap.size ≤ b ∧ b < w4.heap.size) w4 (.agg #[.int .i64 k4, .int .i64 n4, .string s4, .slice a4 l4 c4]) T ∧ Below w.heap.size w w4) (fun e w4 h4 => by
    obtain ⟨r, rfl, hr, hb4⟩ := h4
    rw [TmIn.shift_zero hv] at hr
    obtain ⟨k4, n4, s4, a4, l4, c4, ks4, rfl, -⟩ := hr.form
    have y2 := tbox_below hx2 hb4
    obtain ⟨x0, x1, x2, x3⟩ := tbox_cells y2
    exact ⟨k4, n4, s4, a4, l4, c4, rfl, x0, x1, x2, x3, (fun j => by simp [World.frozen?, y2]), y2, hr, hb.trans (hb4.mono hb.size)⟩)
  have hz := zeroTerm
  have HS := Lib.hid hsz2
  have HW := Lib.hid hw2
  clear hv hb hx2 hsz2 e
  rw [hw2] at hsh
  clear hw2
  go_enter Try.func58, Try.ntmps58
  go_wp2_with (go_at_call 69; refine hsh.mono ?_; clear hsh; rintro e w4 ⟨k4, n4, s4, a4, l4, c4, rfl, x0, x1, x2, x3, xf, y2, hT, hB⟩)
  rw [← HW.out] at hT
  have h5 := boxed_result y2 hT (fun b hb => by have := HS.out; have := hb.1; have := hb.2; omega) hB (Nat.le_succ _)
  generalize ((((w4.setCell ⟨w.heap.size + 1, 0, none⟩ (.int .i64 k4)).setCell ⟨w.heap.size + 1, 1, none⟩ (.int .i64 n4)).setCell ⟨w.heap.size + 1, 2, none⟩ (.string s4)).setCell ⟨w.heap.size + 1, 3, none⟩ (.slice a4 l4 c4)) = w5 at h5 ⊢
  obtain ⟨hb5, h5⟩ := h5
  obtain ⟨f0, f1, f2, f3⟩ := tbox_cells hb5
  refine bodyPost_ret (v := .agg #[.int .i64 k4, .int .i64 n4, .string s4, .slice a4 l4 c4]) (by simp [results, Try.f58, go_sem, f0, f1, f2, f3]) rfl ?_
  exact h5

set_option maxRecDepth 100000 in
set_option maxHeartbeats 1000000 in
theorem level_at (v : Value) (k n : Int) (s : ByteArray) (ks : List Tm) (w : World) (b N : Nat) (hL : ChainAt w b N) (hv : Has w v (.mk k n s ks)) : Calls Try.prog 54 #[.pointer (some ⟨b, 0, none⟩), v] w (Gets w (.int .i64 (lvC N n : Nat))) := by
  obtain ⟨k_, n_, s_, a, len, cap, ks_, rfl, e, -, -, hn, -⟩ := hv.form
  injection e with e1 e2 e3 e4
  subst e1 e2 e3 e4
  obtain ⟨w2, hw2⟩ : ∃ w2, w2 = w.alloc (.cells #[.int .i64 k, .int .i64 n, .string s, .slice a len cap] 24) := ⟨_, rfl⟩
  have hb : Below w.heap.size w w2 := by rw [hw2]; exact (Below.refl _ w).alloc (Nat.le_refl _) _
  have hx2 : w2.heap[w.heap.size]? = some (.cells #[.int .i64 k, .int .i64 n, .string s, .slice a len cap] 24 (0, 0)) := by rw [hw2]; exact World.alloc_heap_new _ _
  have hL2 := hL.below hb
  have hlt : w.heap.size < w2.heap.size := (Array.getElem?_eq_some_iff.1 hx2).1
  obtain ⟨x0, x1, x2, x3⟩ := tbox_cells hx2
  obtain ⟨I, inst, F, n0, hF0, hFb, hFc⟩ := later_family w2
  have K1 := fun i => ((hFb i).cell (p := ⟨w.heap.size, 1, none⟩) hlt).trans x1
  have C1 := Lib.hid (fun i => calls_fam hFc i ((ch_len (hL2.below (hFb i))).mono fun _ _ h => gets_of_reads h))
  have C2 := Lib.hid (fun i => (ch_top (hL2.below (hFb i))).mono fun _ _ h => gets_of_reads h)
  have HB := Lib.hid (And.intro hb (And.intro hlt (And.intro hFb hw2)))
  have hN := hL.pos
  clear hb hx2 hL2 hlt x0 x1 x2 x3 hFb hFc hv hL hw2
  by_cases h0 : n < 0
  · have h0' : decide (n < 0) = true := decide_eq_true h0
    have e : lvC N n = N - 1 := by unfold lvC; rw [if_neg (by omega)]
    rw [e]
    go_enter Try.func54, Try.ntmps54
    go_wp2_with fail
    rw [← HB.out.2.2.2]
    refine wp_region_fam F n0 hF0 (by kernel_rfl) (by kernel_rfl) ?_
    clear hF0
    repeat (go_big_quiet_step (fail))
    refine wpQuiet_nil ?_
    intro _ hw'
    obtain ⟨nq, hw''⟩ := hw'
    subst hw''
    go_wp2_with (go_at_call 68; refine (C2.out nq).mono ?_; rintro e w3 ⟨rfl, hb3⟩)
    go_ret
    have h1 := HB.out.1.trans ((HB.out.2.2.1 nq).mono HB.out.1.size)
    exact ⟨rfl, h1.trans (hb3.mono h1.size)⟩
  · have h0' : decide (n < 0) = false := decide_eq_false h0
    by_cases h1 : (N : Int) ≤ n
    · have h1' : decide ((N : Int) ≤ n) = true := decide_eq_true h1
      have e : lvC N n = N - 1 := by unfold lvC; rw [if_neg (by omega)]
      rw [e]
      go_enter Try.func54, Try.ntmps54
      go_wp2_with fail
      rw [← HB.out.2.2.2]
      refine wp_region_fam F n0 hF0 (by kernel_rfl) (by kernel_rfl) ?_
      clear hF0
      repeat (go_big_quiet_step (first | (go_at_call 66; exact C1.out _)))
      refine wpQuiet_nil ?_
      intro _ hw'
      obtain ⟨nq, hw''⟩ := hw'
      subst hw''
      go_wp2_with (go_at_call 68; refine (C2.out nq).mono ?_; rintro e w3 ⟨rfl, hb3⟩)
      go_ret
      have h1 := HB.out.1.trans ((HB.out.2.2.1 nq).mono HB.out.1.size)
      exact ⟨rfl, h1.trans (hb3.mono h1.size)⟩
    · have h1' : decide ((N : Int) ≤ n) = false := decide_eq_false h1
      have e : lvC N n = n.toNat := by unfold lvC; rw [if_pos (by omega)]
      have e2 : ((n.toNat : Nat) : Int) = n := by omega
      rw [e, e2]
      go_enter Try.func54, Try.ntmps54
      go_wp2_with fail
      rw [← HB.out.2.2.2]
      refine wp_region_fam F n0 hF0 (by kernel_rfl) (by kernel_rfl) ?_
      clear hF0
      repeat (go_big_quiet_step (first | (go_at_call 66; exact C1.out _)))
      refine wpQuiet_nil ?_
      intro _ hw'
      obtain ⟨nq, hw''⟩ := hw'
      subst hw''
      have h2 := K1 nq
      go_wp2_with fail
      go_ret
      exact ⟨rfl, HB.out.1.trans ((HB.out.2.2.1 nq).mono HB.out.1.size)⟩

set_option maxRecDepth 100000 in
set_option maxHeartbeats 1000000 in
theorem put_at (v : Value) (T : Tm) (l : Int) (w : World) (hl : i64ok l) (hv : Has w v T) (hs : T.size ≤ 1000000000000) : Calls Try.prog 28 #[v, .int .i64 l] w (NewTm w (putT T l)) := by
  obtain ⟨k, n, s, a, len, cap, ks, rfl, e, -⟩ := hv.form
  obtain ⟨w2, hw2⟩ : ∃ w2, w2 = (w.alloc (.cells #[.int .i64 k, .int .i64 n, .string s, .slice a len cap] 24)).alloc (.cells #[.int .i64 0, .int .i64 0, .string (ByteArray.mk #[]), .slice none 0 0] 24) := ⟨_, rfl⟩
  have hb : Below w.heap.size w w2 := by rw [hw2]; exact ((Below.refl _ w).alloc (Nat.le_refl _) _).alloc (by simp) _
  have hx2 : w2.heap[w.heap.size + 1]? = some (.cells #[.int .i64 0, .int .i64 0, .string (ByteArray.mk #[]), .slice none 0 0] 24 (0, 0)) := by rw [hw2]; simpa using World.alloc_heap_new (w.alloc (.cells #[.int .i64 k, .int .i64 n, .string s, .slice a len cap] 24)) (.cells #[.int .i64 0, .int .i64 0, .string (ByteArray.mk #[]), .slice none 0 0] 24)
  have hsz2 : w2.heap.size = w.heap.size + 2 := by rw [hw2]; simp
  have hsh := (whole_at _ T w2 (Has.below hv hb) hs).mono (R' := fun e w4 => ∃ k4 n4 s4 a4 l4 c4, e = .returned (.agg #[.int .i64 k4, .int .i64 n4, .string s4, .slice a4 l4 c4]) ∧ (∀ o : Obj, (w4.alloc o).cell? ⟨w.heap.size + 1, 0, none⟩ = some (.int .i64 0)) ∧ (∀ o : Obj, (w4.alloc o).cell? ⟨w.heap.size + 1, 1, none⟩ = some (.int .i64 0)) ∧ (∀ o : Obj, (w4.alloc o).cell? ⟨w.heap.size + 1, 2, none⟩ = some (.string (ByteArray.mk #[]))) ∧ (∀ o : Obj, (w4.alloc o).cell? ⟨w.heap.size + 1, 3, none⟩ = some (.slice none 0 0)) ∧ (∀ (o : Obj) j, (w4.alloc o).frozen? ⟨w.heap.size + 1, j, none⟩ = false) ∧
      (∀ o : Obj, (w4.alloc o).heap[w.heap.size + 1]? = some (.cells #[.int .i64 0, .int .i64 0, .string (ByteArray.mk #[]), .slice none 0 0] 24 (0, 0))) ∧ TmIn (fun b => w2.heap.size ≤ b ∧ b < w4.heap.size) w4 (.agg #[.int .i64 k4, .int .i64 n4, .string s4, .slice a4 l4 c4]) T ∧ Below w.heap.size w w4 ∧ w2.heap.size ≤ w4.heap.size) (fun e w4 h4 => by
    obtain ⟨r, rfl, hr, hb4⟩ := h4
    obtain ⟨k4, n4, s4, a4, l4, c4, ks4, rfl, -⟩ := hr.form
    have y2 : ∀ o : Obj, (w4.alloc o).heap[w.heap.size + 1]? = some (.cells #[.int .i64 0, .int .i64 0, .string (ByteArray.mk #[]), .slice none 0 0] 24 (0, 0)) := fun o => (Below.heap_alloc _ _ _ (by have := hb4.size; omega)).trans (tbox_below hx2 hb4)
    exact ⟨k4, n4, s4, a4, l4, c4, rfl, fun o => (tbox_cells (y2 o)).1, fun o => (tbox_cells (y2 o)).2.1, fun o => (tbox_cells (y2 o)).2.2.1, fun o => (tbox_cells (y2 o)).2.2.2, (fun o j => by simp [World.frozen?, y2 o]), y2, hr, hb.trans (hb4.mono hb.size), hb4.size⟩)
  have hz := zeroTerm
  have HS := Lib.hid hsz2
  have HW := Lib.hid hw2
  clear hv hb hx2 hsz2 e
  rw [hw2] at hsh
  clear hw2
  go_enter Try.func28, Try.ntmps28
  go_wp2_with (go_at_call 58; refine hsh.mono ?_; clear hsh; rintro e w4 ⟨k4, n4, s4, a4, l4, c4, rfl, x0, x1, x2, x3, xf, y2, hT, hB, hz4⟩)
  rw [← HW.out] at hT hz4
  have hS := HS.out
  have hone : TsIn (fun b => w2.heap.size ≤ b ∧ b < (w4.alloc (.cells #[.int .i64 k4, .int .i64 n4, .string s4, .slice a4 l4 c4] 24)).heap.size) (w4.alloc (.cells #[.int .i64 k4, .int .i64 n4, .string s4, .slice a4 l4 c4] 24)) (.slice (some ⟨w4.heap.size, 0, none⟩) 1 1) [T] := by
    obtain ⟨c0', c1', c2', c3'⟩ := tbox_cells (World.alloc_heap_new w4 (.cells #[.int .i64 k4, .int .i64 n4, .string s4, .slice a4 l4 c4] 24))
    refine ⟨some ⟨w4.heap.size, 0, none⟩, 1, rfl, by simp, by unfold maxLen; omega, (fun h => by cases h), fun i hi => ?_⟩
    have hi' : i = 0 := by simp at hi; omega
    subst hi'
    exact ⟨w4.heap.size, 0, k4, n4, s4, a4, l4, c4, rfl, ⟨hz4, by simp⟩, c0', c1', c2', c3', hT.carry (fun b' hb' => Below.heap_alloc _ _ _ hb'.2) (fun b' hb' => ⟨hb'.1, by have := hb'.2; simp; omega⟩)⟩
  have h5 := boxed_result (w := w) (y2 _) (hone.term (k := 4) (n := l) (s := ByteArray.mk #[]) ⟨by decide, by decide⟩ hl (Nat.zero_le _)) (fun b hb => ⟨by have := hb.1; omega, hb.2⟩) (hB.alloc (by omega) _) (Nat.le_succ _)
  generalize (((((w4.alloc (.cells #[.int .i64 k4, .int .i64 n4, .string s4, .slice a4 l4 c4] 24)).setCell ⟨w.heap.size + 1, 0, none⟩ (.int .i64 4)).setCell ⟨w.heap.size + 1, 1, none⟩ (.int .i64 l)).setCell ⟨w.heap.size + 1, 2, none⟩ (.string (ByteArray.mk #[]))).setCell ⟨w.heap.size + 1, 3, none⟩ (.slice (some ⟨w4.heap.size, 0, none⟩) 1 1)) = w5 at h5 ⊢
  obtain ⟨hb5, h5⟩ := h5
  obtain ⟨f0, f1, f2, f3⟩ := tbox_cells hb5
  refine bodyPost_ret (v := .agg #[.int .i64 4, .int .i64 l, .string (ByteArray.mk #[]), .slice (some ⟨w4.heap.size, 0, none⟩) 1 1]) (by simp [results, Try.f28, go_sem, f0, f1, f2, f3]) rfl ?_
  exact h5

end Go.Proofs.Ytbdkakpbhijilaa
