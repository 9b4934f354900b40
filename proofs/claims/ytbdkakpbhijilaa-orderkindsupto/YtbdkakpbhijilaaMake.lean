/-
  term.Make, term.Atom, term.Num, term.Let: the terms that they make.
-/
import Derived.Test.YtbdkakpbhijilaaShift
namespace Go.Proofs.Ytbdkakpbhijilaa
open Go.RowKit Go.Shelf
set_option linter.unusedVariables false

theorem wrap64_id {x : Int} (h : i64ok x) : wrap64 x = x := by obtain ⟨h1, h2⟩ := h; simp only [wrap64]; omega

theorem TmIn.shift_zero {p : Nat → Prop} {W : World} {v : Value} {T : Tm} (h : TmIn p W v T) : T.shift 0 = T := by
  induction h with
  | mk hk hn hs hc hm ha vs K N S hv hkid ih =>
    rw [Tm.shift_mk, Tm.shifts_eq, Int.add_zero, wrap64_id hn, ite_self]
    congr 1
    refine List.ext_getElem (by simp) fun i h1 h2 => ?_
    rw [List.getElem_map]
    exact ih i h2
theorem TsIn.shift_zero {p : Nat → Prop} {W : World} {v : Value} {ks : List Tm} (h : TsIn p W v ks) : Tm.shifts 0 ks = ks := by
  have h1 := (h.term (k := 0) (n := 0) (s := ByteArray.mk #[]) ⟨by decide, by decide⟩ ⟨by decide, by decide⟩ (Nat.zero_le _)).shift_zero
  rw [Tm.shift_mk] at h1
  injection h1

theorem NewTm.has {w w' : World} {T : Tm} {e : Ending} (h : NewTm w T e w') : ∃ k n s a len cap, e = .returned (.agg #[.int .i64 k, .int .i64 n, .string s, .slice a len cap]) ∧ Has w' (.agg #[.int .i64 k, .int .i64 n, .string s, .slice a len cap]) T ∧ Below w.heap.size w w' := by
  obtain ⟨r, rfl, hr, hb⟩ := h
  obtain ⟨k, n, s, a, len, cap, ks, rfl, -⟩ := hr.form
  exact ⟨k, n, s, a, len, cap, rfl, hr.carry (fun _ _ => rfl) (fun b hb => hb.2), hb⟩

set_option maxRecDepth 100000 in
set_option maxHeartbeats 2000000 in
theorem make_at (s : ByteArray) (v : Value) (ks : List Tm) (w : World) (hs : s.size ≤ maxLen) (hv : HasTs w v ks) (hl : Tm.sizes ks ≤ 1000000000000) :
    Calls Try.prog 27 #[.string s, v] w (NewTm w (.mk 3 0 s ks)) := by
  have hlen : ks.length ≤ 1000000000000 := by have := Tm.length_le_sizes ks; omega
  obtain ⟨w2, hw2⟩ : ∃ w2, w2 = w.alloc (.cells #[.int .i64 0, .int .i64 0, .string (ByteArray.mk #[]), .slice none 0 0] 24) := ⟨_, rfl⟩
  have hb : Below w.heap.size w w2 := by rw [hw2]; exact (Below.refl _ w).alloc (Nat.le_refl _) _
  have hx2 : w2.heap[w.heap.size]? = some (.cells #[.int .i64 0, .int .i64 0, .string (ByteArray.mk #[]), .slice none 0 0] 24 (0, 0)) := by rw [hw2]; exact World.alloc_heap_new _ _
  have hsz2 : w2.heap.size = w.heap.size + 1 := by rw [hw2]; simp
  have hsh := (shifted_of 0 ks (fun t ht v w hv => shift_at 0 t v w hv (by have := Tm.size_le_sizes ht; omega)) v w2 (HasTs.below hv hb) hlen).mono (R' := fun e w4 => ∃ a4 l4 c4, e = .returned (.slice a4 l4 c4) ∧
      w4.cell? ⟨w.heap.size, 0, none⟩ = some (.int .i64 0) ∧ w4.cell? ⟨w.heap.size, 1, none⟩ = some (.int .i64 0) ∧ w4.cell? ⟨w.heap.size, 2, none⟩ = some (.string (ByteArray.mk #[])) ∧ w4.cell? ⟨w.heap.size, 3, none⟩ = some (.slice none 0 0) ∧ (∀ j, w4.frozen? ⟨w.heap.size, j, none⟩ = false) ∧
        w4.heap[w.heap.size]? = some (.cells #[.int .i64 0, .int .i64 0, .string (ByteArray.mk #[]), .slice none 0 0] 24 (0, 0)) ∧
        TsIn (fun b => w.heap.size + 1 ≤ b ∧ b < w4.heap.size) w4 (.slice a4 l4 c4) ks ∧ Below w.heap.size w w4) (fun e w4 h4 => by
      obtain ⟨r, rfl, hr, hb4⟩ := h4
      rw [hv.shift_zero] at hr
      obtain ⟨a4, c4, rfl, h5⟩ := id hr
      have y2 := tbox_below hx2 hb4
      obtain ⟨x0, x1, x2, x3⟩ := tbox_cells y2
      exact ⟨a4, _, c4, rfl, x0, x1, x2, x3, (fun j => by simp [World.frozen?, y2]), y2, hr.carry (fun _ _ => rfl) (fun b hb => ⟨by rw [← hsz2]; exact hb.1, hb.2⟩), hb.trans (hb4.mono hb.size)⟩)
  have hz := zeroTerm
  obtain ⟨a, cap, rfl, -⟩ := id hv
  clear hv hb hx2 hsz2 hlen hl
  subst hw2
  go_enter Try.func27, Try.ntmps27
  go_wp2_with (go_at_call 57; refine hsh.mono ?_; clear hsh; rintro e w4 ⟨a4, l4, c4, rfl, x0, x1, x2, x3, xf, y2, hT, hB⟩)
  have hb5 := four_block y2 (.int .i64 3) (.int .i64 0) (.string s) (.slice a4 l4 c4)
  have ho5 : ∀ b, w.heap.size + 1 ≤ b → ((((w4.setCell ⟨w.heap.size, 0, none⟩ (.int .i64 3)).setCell ⟨w.heap.size, 1, none⟩ (.int .i64 0)).setCell ⟨w.heap.size, 2, none⟩ (.string s)).setCell ⟨w.heap.size, 3, none⟩ (.slice a4 l4 c4)).heap[b]? = w4.heap[b]? := fun b hb => by
    rw [Below.heap_setCell _ _ _ _ (by simp; omega), Below.heap_setCell _ _ _ _ (by simp; omega), Below.heap_setCell _ _ _ _ (by simp; omega), Below.heap_setCell _ _ _ _ (by simp; omega)]
  have hB5 := (((hB.setCell (p := ⟨w.heap.size, 0, none⟩) (Nat.le_refl _) (.int .i64 3)).setCell (p := ⟨w.heap.size, 1, none⟩) (Nat.le_refl _) (.int .i64 0)).setCell (p := ⟨w.heap.size, 2, none⟩) (Nat.le_refl _) (.string s)).setCell (p := ⟨w.heap.size, 3, none⟩) (Nat.le_refl _) (.slice a4 l4 c4)
  have hs5 : ((((w4.setCell ⟨w.heap.size, 0, none⟩ (.int .i64 3)).setCell ⟨w.heap.size, 1, none⟩ (.int .i64 0)).setCell ⟨w.heap.size, 2, none⟩ (.string s)).setCell ⟨w.heap.size, 3, none⟩ (.slice a4 l4 c4)).heap.size = w4.heap.size := by simp
  generalize ((((w4.setCell ⟨w.heap.size, 0, none⟩ (.int .i64 3)).setCell ⟨w.heap.size, 1, none⟩ (.int .i64 0)).setCell ⟨w.heap.size, 2, none⟩ (.string s)).setCell ⟨w.heap.size, 3, none⟩ (.slice a4 l4 c4)) = w5 at hb5 ho5 hB5 hs5 ⊢
  obtain ⟨f0, f1, f2, f3⟩ := tbox_cells hb5
  refine bodyPost_ret (v := .agg #[.int .i64 3, .int .i64 0, .string s, .slice a4 l4 c4]) (by simp [results, Try.f27, go_sem, f0, f1, f2, f3]) rfl ?_
  exact ⟨_, rfl, (hT.carry (q := fun b => w.heap.size ≤ b ∧ b < w5.heap.size) (fun b hb => ho5 b hb.1) (fun b hb => ⟨by omega, by rw [hs5]; exact hb.2⟩)).term ⟨by decide, by decide⟩ ⟨by decide, by decide⟩ hs, hB5⟩

theorem noTs (p : Nat → Prop) (w : World) : TsIn p w (.slice none 0 0) [] := ⟨none, 0, rfl, Nat.le_refl _, Nat.zero_le _, fun _ => rfl, fun i hi => absurd hi (Nat.not_lt_zero _)⟩

set_option maxRecDepth 100000 in
theorem let_at (n : Int) (w : World) (hn : i64ok n) : Calls Try.prog 25 #[.int .i64 n] w (NewTm w (.mk 1 n (ByteArray.mk #[]) [])) := by
  have hz := zeroTerm
  go_enter Try.func25, Try.ntmps25
  go_wp2_with fail
  obtain ⟨f0, f1, f2, f3⟩ := tbox_cells (World.alloc_heap_new w (.cells #[.int .i64 1, .int .i64 n, .string (ByteArray.mk #[]), .slice none 0 0] 24))
  refine bodyPost_ret (v := .agg #[.int .i64 1, .int .i64 n, .string (ByteArray.mk #[]), .slice none 0 0]) (by simp [results, Try.f25, go_sem, f0, f1, f2, f3]) rfl ?_
  exact ⟨_, rfl, (noTs _ _).term ⟨by decide, by decide⟩ hn (Nat.zero_le _), (Below.refl _ w).alloc (Nat.le_refl _) _⟩

set_option maxRecDepth 100000 in
theorem num_at (n : Int) (w : World) (hn : i64ok n) : Calls Try.prog 26 #[.int .i64 n] w (NewTm w (.mk 2 n (ByteArray.mk #[]) [])) := by
  have hz := zeroTerm
  go_enter Try.func26, Try.ntmps26
  go_wp2_with fail
  obtain ⟨f0, f1, f2, f3⟩ := tbox_cells (World.alloc_heap_new w (.cells #[.int .i64 2, .int .i64 n, .string (ByteArray.mk #[]), .slice none 0 0] 24))
  refine bodyPost_ret (v := .agg #[.int .i64 2, .int .i64 n, .string (ByteArray.mk #[]), .slice none 0 0]) (by simp [results, Try.f26, go_sem, f0, f1, f2, f3]) rfl ?_
  exact ⟨_, rfl, (noTs _ _).term ⟨by decide, by decide⟩ hn (Nat.zero_le _), (Below.refl _ w).alloc (Nat.le_refl _) _⟩

set_option maxRecDepth 100000 in
set_option maxHeartbeats 1000000 in
theorem atom_at (s : ByteArray) (w : World) (hs : s.size ≤ maxLen) : Calls Try.prog 29 #[.string s] w (NewTm w (.mk 3 0 s [])) := by
  have hz := zeroTerm
  obtain ⟨w2, hw2⟩ : ∃ w2, w2 = w.alloc (.cells #[.int .i64 0, .int .i64 0, .string (ByteArray.mk #[]), .slice none 0 0] 24) := ⟨_, rfl⟩
  have hb : Below w.heap.size w w2 := by rw [hw2]; exact (Below.refl _ w).alloc (Nat.le_refl _) _
  have hx2 : w2.heap[w.heap.size]? = some (.cells #[.int .i64 0, .int .i64 0, .string (ByteArray.mk #[]), .slice none 0 0] 24 (0, 0)) := by rw [hw2]; exact World.alloc_heap_new _ _
  have hsz2 : w2.heap.size = w.heap.size + 1 := by rw [hw2]; simp
  have hmk := (make_at s (.slice none 0 0) [] w2 hs (noTs _ _) (by simp [Tm.sizes_nil])).mono (R' := fun e w4 => ∃ l4 c4 a4, e = .returned (.agg #[.int .i64 3, .int .i64 0, .string s, .slice a4 l4 c4]) ∧
      w4.cell? ⟨w.heap.size, 0, none⟩ = some (.int .i64 0) ∧ w4.cell? ⟨w.heap.size, 1, none⟩ = some (.int .i64 0) ∧ w4.cell? ⟨w.heap.size, 2, none⟩ = some (.string (ByteArray.mk #[])) ∧ w4.cell? ⟨w.heap.size, 3, none⟩ = some (.slice none 0 0) ∧ (∀ j, w4.frozen? ⟨w.heap.size, j, none⟩ = false) ∧
        w4.heap[w.heap.size]? = some (.cells #[.int .i64 0, .int .i64 0, .string (ByteArray.mk #[]), .slice none 0 0] 24 (0, 0)) ∧
        TmIn (fun b => w.heap.size + 1 ≤ b ∧ b < w4.heap.size) w4 (.agg #[.int .i64 3, .int .i64 0, .string s, .slice a4 l4 c4]) (.mk 3 0 s []) ∧ Below w.heap.size w w4) (fun e w4 h4 => by
      obtain ⟨r, rfl, hr, hb4⟩ := h4
      obtain ⟨k, n, s', a, len, cap, ks, rfl, e, -⟩ := hr.form
      injection e with e1 e2 e3 e4
      subst e1 e2 e3
      have y2 := tbox_below hx2 hb4
      obtain ⟨x0, x1, x2, x3⟩ := tbox_cells y2
      exact ⟨len, cap, a, rfl, x0, x1, x2, x3, (fun j => by simp [World.frozen?, y2]), y2, hr.carry (fun _ _ => rfl) (fun b hb => ⟨by rw [← hsz2]; exact hb.1, hb.2⟩), hb.trans (hb4.mono hb.size)⟩)
  clear hb hx2 hsz2
  subst hw2
  go_enter Try.func29, Try.ntmps29
  go_wp2_with (go_at_call 27; refine hmk.mono ?_; clear hmk; rintro e w4 ⟨l4, c4, a4, rfl, x0, x1, x2, x3, xf, y2, hT, hB⟩)
  have hb5 := four_block y2 (.int .i64 3) (.int .i64 0) (.string s) (.slice a4 l4 c4)
  have ho5 : ∀ b, w.heap.size + 1 ≤ b → ((((w4.setCell ⟨w.heap.size, 0, none⟩ (.int .i64 3)).setCell ⟨w.heap.size, 1, none⟩ (.int .i64 0)).setCell ⟨w.heap.size, 2, none⟩ (.string s)).setCell ⟨w.heap.size, 3, none⟩ (.slice a4 l4 c4)).heap[b]? = w4.heap[b]? := fun b hb => by
    rw [Below.heap_setCell _ _ _ _ (by simp; omega), Below.heap_setCell _ _ _ _ (by simp; omega), Below.heap_setCell _ _ _ _ (by simp; omega), Below.heap_setCell _ _ _ _ (by simp; omega)]
  have hB5 := (((hB.setCell (p := ⟨w.heap.size, 0, none⟩) (Nat.le_refl _) (.int .i64 3)).setCell (p := ⟨w.heap.size, 1, none⟩) (Nat.le_refl _) (.int .i64 0)).setCell (p := ⟨w.heap.size, 2, none⟩) (Nat.le_refl _) (.string s)).setCell (p := ⟨w.heap.size, 3, none⟩) (Nat.le_refl _) (.slice a4 l4 c4)
  have hs5 : ((((w4.setCell ⟨w.heap.size, 0, none⟩ (.int .i64 3)).setCell ⟨w.heap.size, 1, none⟩ (.int .i64 0)).setCell ⟨w.heap.size, 2, none⟩ (.string s)).setCell ⟨w.heap.size, 3, none⟩ (.slice a4 l4 c4)).heap.size = w4.heap.size := by simp
  generalize ((((w4.setCell ⟨w.heap.size, 0, none⟩ (.int .i64 3)).setCell ⟨w.heap.size, 1, none⟩ (.int .i64 0)).setCell ⟨w.heap.size, 2, none⟩ (.string s)).setCell ⟨w.heap.size, 3, none⟩ (.slice a4 l4 c4)) = w5 at hb5 ho5 hB5 hs5 ⊢
  obtain ⟨f0, f1, f2, f3⟩ := tbox_cells hb5
  refine bodyPost_ret (v := .agg #[.int .i64 3, .int .i64 0, .string s, .slice a4 l4 c4]) (by simp [results, Try.f29, go_sem, f0, f1, f2, f3]) rfl ?_
  exact ⟨_, rfl, hT.carry (fun b hb => ho5 b hb.1) (fun b hb => ⟨by omega, by rw [hs5]; exact hb.2⟩), hB5⟩

end Go.Proofs.Ytbdkakpbhijilaa
