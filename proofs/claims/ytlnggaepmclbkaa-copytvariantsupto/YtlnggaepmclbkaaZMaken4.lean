/-
  term.Make, term.Atom, term.Num, term.Let: the terms that they make.
-/
import Derived.Test.YtlnggaepmclbkaaZVarsn2
import Derived.Laws.AppendOwnNone
import Derived.Deep.Heap
import Derived.Deep.RegionHeld3
namespace Go.Proofs.Ytlnggaepmclbkaa
open Go.RowKit Go.Shelf
set_option linter.unusedVariables false

theorem wrap64_id {x : Int} (h : i64ok x) : wrap64 x = x := by obtain ⟨h1, h2⟩ := h; simp only [wrap64]; omega

theorem TmIn.shift_zero {p : Nat → Prop} {W : World} {v : Value} {T : Tm} (h : TmIn p W v T) : T.shift 0 = T := by
  induction h with
  | mk hk hn hs hc hm ha vs K N S hv hkid ih =>
    rw [Tm.shift_mk, Tm.shifts_eq, Int.add_zero, wrap64_id hn, ite_self]
    congr 1
    refine List.ext_getElem (by simp) fun i h1 h2 => ?_
    rw [List.getElem_map]
    exact ih i h2
theorem TsIn.shift_zero {p : Nat → Prop} {W : World} {v : Value} {ks : List Tm} (h : TsIn p W v ks) : Tm.shifts 0 ks = ks := by
  have h1 := (h.term (k := 0) (n := 0) (s := ByteArray.mk #[]) ⟨by decide, by decide⟩ ⟨by decide, by decide⟩ (Nat.zero_le _)).shift_zero
  rw [Tm.shift_mk] at h1
  injection h1

theorem NewTm.has {w w' : World} {T : Tm} {e : Ending} (h : NewTm w T e w') : ∃ k n s a len cap, e = .returned (.agg #[.int .i64 k, .int .i64 n, .string s, .slice a len cap]) ∧ Has w' (.agg #[.int .i64 k, .int .i64 n, .string s, .slice a len cap]) T ∧ Below w.heap.size w w' := by
  obtain ⟨r, rfl, hr, hb⟩ := h
  obtain ⟨k, n, s, a, len, cap, ks, rfl, -⟩ := hr.form
  exact ⟨k, n, s, a, len, cap, rfl, hr.carry (fun _ _ => rfl) (fun b hb => hb.2), hb⟩

set_option maxRecDepth 100000 in
set_option maxHeartbeats 2000000 in
theorem make_at (s : ByteArray) (v : Value) (ks : List Tm) (w : World) (hs : s.size ≤ maxLen) (hv : HasTs w v ks) (hl : Tm.sizes ks ≤ 1000000000000) :
    Calls Try.prog 26 #[.string s, v] w (NewTm w (.mk 3 0 s ks)) := by
  have hlen : ks.length ≤ 1000000000000 := by have := Tm.length_le_sizes ks; omega
  obtain ⟨w2, hw2⟩ : ∃ w2, w2 = w.alloc (.cells #[.int .i64 0, .int .i64 0, .string (ByteArray.mk #[]), .slice none 0 0] 24) := ⟨_, rfl⟩
  have hb : Below w.heap.size w w2 := by rw [hw2]; exact (Below.refl _ w).alloc (Nat.le_refl _) _
  have hx2 : w2.heap[w.heap.size]? = some (.cells #[.int .i64 0, .int .i64 0, .string (ByteArray.mk #[]), .slice none 0 0] 24 (0, 0)) := by rw [hw2]; exact World.alloc_heap_new _ _
  have hsz2 : w2.heap.size = w.heap.size + 1 := by rw [hw2]; simp
  have hsh := (shifted_of 0 ks (fun t ht v w hv => shift_at 0 t v w hv (by have := Tm.size_le_sizes ht; omega)) v w2 (HasTs.below hv hb) hlen).mono (R' := fun e w4 => ∃ a4 l4 c4, e = .returned (.slice a4 l4 c4) ∧
      w4.cell? ⟨w.heap.size, 0, none⟩ = some (.int .i64 0) ∧ w4.cell? ⟨w.heap.size, 1, none⟩ = some (.int .i64 0) ∧ w4.cell? ⟨w.heap.size, 2, none⟩ = some (.string (ByteArray.mk #[])) ∧ w4.cell? ⟨w.heap.size, 3, none⟩ = some (.slice none 0 0) ∧ (∀ j, w4.frozen? ⟨w.heap.size, j, none⟩ = false) ∧
        w4.heap[w.heap.size]? = some (.cells #[.int .i64 0, .int .i64 0, .string (ByteArray.mk #[]), .slice none 0 0] 24 (0, 0)) ∧
        TsIn (fun b => w.heap.size + 1 ≤ b ∧ b < w4.heap.size) w4 (.slice a4 l4 c4) ks ∧ Below w.heap.size w w4) (fun e w4 h4 => by
      obtain ⟨r, rfl, hr, hb4⟩ := h4
      rw [hv.shift_zero] at hr
      obtain ⟨a4, c4, rfl, h5⟩ := id hr
      have y2 := tbox_below hx2 hb4
      obtain ⟨x0, x1, x2, x3⟩ := tbox_cells y2
      exact ⟨a4, _, c4, rfl, x0, x1, x2, x3, (fun j => by simp [World.frozen?, y2]), y2, hr.carry (fun _ _ => rfl) (fun b hb => ⟨by rw [← hsz2]; exact hb.1, hb.2⟩), hb.trans (hb4.mono hb.size)⟩)
  have hz := zeroTerm
  obtain ⟨a, cap, rfl, -⟩ := id hv
  clear hv hb hx2 hsz2 hlen hl
  subst hw2
  go_enter Try.func26, Try.ntmps26
  go_wp2_with (go_at_call 33; refine hsh.mono ?_; clear hsh; rintro e w4 ⟨a4, l4, c4, rfl, x0, x1, x2, x3, xf, y2, hT, hB⟩)
  have hb5 := four_block y2 (.int .i64 3) (.int .i64 0) (.string s) (.slice a4 l4 c4)
  have ho5 : ∀ b, w.heap.size + 1 ≤ b → ((((w4.setCell ⟨w.heap.size, 0, none⟩ (.int .i64 3)).setCell ⟨w.heap.size, 1, none⟩ (.int .i64 0)).setCell ⟨w.heap.size, 2, none⟩ (.string s)).setCell ⟨w.heap.size, 3, none⟩ (.slice a4 l4 c4)).heap[b]? = w4.heap[b]? := fun b hb => by
    rw [Below.heap_setCell _ _ _ _ (by simp; omega), Below.heap_setCell _ _ _ _ (by simp; omega), Below.heap_setCell _ _ _ _ (by simp; omega), Below.heap_setCell _ _ _ _ (by simp; omega)]
  have hB5 := (((hB.setCell (p := ⟨w.heap.size, 0, none⟩) (Nat.le_refl _) (.int .i64 3)).setCell (p := ⟨w.heap.size, 1, none⟩) (Nat.le_refl _) (.int .i64 0)).setCell (p := ⟨w.heap.size, 2, none⟩) (Nat.le_refl _) (.string s)).setCell (p := ⟨w.heap.size, 3, none⟩) (Nat.le_refl _) (.slice a4 l4 c4)
  have hs5 : ((((w4.setCell ⟨w.heap.size, 0, none⟩ (.int .i64 3)).setCell ⟨w.heap.size, 1, none⟩ (.int .i64 0)).setCell ⟨w.heap.size, 2, none⟩ (.string s)).setCell ⟨w.heap.size, 3, none⟩ (.slice a4 l4 c4)).heap.size = w4.heap.size := by simp
  generalize ((((w4.setCell ⟨w.heap.size, 0, none⟩ (.int .i64 3)).setCell ⟨w.heap.size, 1, none⟩ (.int .i64 0)).setCell ⟨w.heap.size, 2, none⟩ (.string s)).setCell ⟨w.heap.size, 3, none⟩ (.slice a4 l4 c4)) = w5 at hb5 ho5 hB5 hs5 ⊢
  obtain ⟨f0, f1, f2, f3⟩ := tbox_cells hb5
  refine bodyPost_ret (v := .agg #[.int .i64 3, .int .i64 0, .string s, .slice a4 l4 c4]) (by simp [results, Try.f26, go_sem, f0, f1, f2, f3]) rfl ?_
  exact ⟨_, rfl, (hT.carry (q := fun b => w.heap.size ≤ b ∧ b < w5.heap.size) (fun b hb => ho5 b hb.1) (fun b hb => ⟨by omega, by rw [hs5]; exact hb.2⟩)).term ⟨by decide, by decide⟩ ⟨by decide, by decide⟩ hs, hB5⟩

theorem noTs (p : Nat → Prop) (w : World) : TsIn p w (.slice none 0 0) [] := ⟨none, 0, rfl, Nat.le_refl _, Nat.zero_le _, fun _ => rfl, fun i hi => absurd hi (Nat.not_lt_zero _)⟩

set_option maxRecDepth 100000 in
theorem let_at (n : Int) (w : World) (hn : i64ok n) : Calls Try.prog 27 #[.int .i64 n] w (NewTm w (.mk 1 n (ByteArray.mk #[]) [])) := by
  have hz := zeroTerm
  go_enter Try.func27, Try.ntmps27
  go_wp2_with fail
  obtain ⟨f0, f1, f2, f3⟩ := tbox_cells (World.alloc_heap_new w (.cells #[.int .i64 1, .int .i64 n, .string (ByteArray.mk #[]), .slice none 0 0] 24))
  refine bodyPost_ret (v := .agg #[.int .i64 1, .int .i64 n, .string (ByteArray.mk #[]), .slice none 0 0]) (by simp [results, Try.f27, go_sem, f0, f1, f2, f3]) rfl ?_
  exact ⟨_, rfl, (noTs _ _).term ⟨by decide, by decide⟩ hn (Nat.zero_le _), (Below.refl _ w).alloc (Nat.le_refl _) _⟩

set_option maxRecDepth 100000 in
theorem num_at (n : Int) (w : World) (hn : i64ok n) : Calls Try.prog 25 #[.int .i64 n] w (NewTm w (.mk 2 n (ByteArray.mk #[]) [])) := by
  have hz := zeroTerm
  go_enter Try.func25, Try.ntmps25
  go_wp2_with fail
  obtain ⟨f0, f1, f2, f3⟩ := tbox_cells (World.alloc_heap_new w (.cells #[.int .i64 2, .int .i64 n, .string (ByteArray.mk #[]), .slice none 0 0] 24))
  refine bodyPost_ret (v := .agg #[.int .i64 2, .int .i64 n, .string (ByteArray.mk #[]), .slice none 0 0]) (by simp [results, Try.f25, go_sem, f0, f1, f2, f3]) rfl ?_
  exact ⟨_, rfl, (noTs _ _).term ⟨by decide, by decide⟩ hn (Nat.zero_le _), (Below.refl _ w).alloc (Nat.le_refl _) _⟩

set_option maxRecDepth 100000 in
set_option maxHeartbeats 1000000 in
theorem atom_at (s : ByteArray) (w : World) (hs : s.size ≤ maxLen) : Calls Try.prog 23 #[.string s] w (NewTm w (.mk 3 0 s [])) := by
  have hz := zeroTerm
  obtain ⟨w2, hw2⟩ : ∃ w2, w2 = w.alloc (.cells #[.int .i64 0, .int .i64 0, .string (ByteArray.mk #[]), .slice none 0 0] 24) := ⟨_, rfl⟩
  have hb : Below w.heap.size w w2 := by rw [hw2]; exact (Below.refl _ w).alloc (Nat.le_refl _) _
  have hx2 : w2.heap[w.heap.size]? = some (.cells #[.int .i64 0, .int .i64 0, .string (ByteArray.mk #[]), .slice none 0 0] 24 (0, 0)) := by rw [hw2]; exact World.alloc_heap_new _ _
  have hsz2 : w2.heap.size = w.heap.size + 1 := by rw [hw2]; simp
  have hmk := (make_at s (.slice none 0 0) [] w2 hs (noTs _ _) (by simp [Tm.sizes_nil])).mono (R' := fun e w4 => ∃ l4 c4 a4, e = .returned (.agg #[.int .i64 3, .int .i64 0, .string s, .slice a4 l4 c4]) ∧
      w4.cell? ⟨w.heap.size, 0, none⟩ = some (.int .i64 0) ∧ w4.cell? ⟨w.heap.size, 1, none⟩ = some (.int .i64 0) ∧ w4.cell? ⟨w.heap.size, 2, none⟩ = some (.string (ByteArray.mk #[])) ∧ w4.cell? ⟨w.heap.size, 3, none⟩ = some (.slice none 0 0) ∧ (∀ j, w4.frozen? ⟨w.heap.size, j, none⟩ = false) ∧
        w4.heap[w.heap.size]? = some (.cells #[.int .i64 0, .int .i64 0, .string (ByteArray.mk #[]), .slice none 0 0] 24 (0, 0)) ∧
        TmIn (fun b => w.heap.size + 1 ≤ b ∧ b < w4.heap.size) w4 (.agg #[.int .i64 3, .int .i64 0, .string s, .slice a4 l4 c4]) (.mk 3 0 s []) ∧ Below w.heap.size w w4) (fun e w4 h4 => by
      obtain ⟨r, rfl, hr, hb4⟩ := h4
      obtain ⟨k, n, s', a, len, cap, ks, rfl, e, -⟩ := hr.form
      injection e with e1 e2 e3 e4
      subst e1 e2 e3
      have y2 := tbox_below hx2 hb4
      obtain ⟨x0, x1, x2, x3⟩ := tbox_cells y2
      exact ⟨len, cap, a, rfl, x0, x1, x2, x3, (fun j => by simp [World.frozen?, y2]), y2, hr.carry (fun _ _ => rfl) (fun b hb => ⟨by rw [← hsz2]; exact hb.1, hb.2⟩), hb.trans (hb4.mono hb.size)⟩)
  clear hb hx2 hsz2
  subst hw2
  go_enter Try.func23, Try.ntmps23
  go_wp2_with (go_at_call 26; refine hmk.mono ?_; clear hmk; rintro e w4 ⟨l4, c4, a4, rfl, x0, x1, x2, x3, xf, y2, hT, hB⟩)
  have hb5 := four_block y2 (.int .i64 3) (.int .i64 0) (.string s) (.slice a4 l4 c4)
  have ho5 : ∀ b, w.heap.size + 1 ≤ b → ((((w4.setCell ⟨w.heap.size, 0, none⟩ (.int .i64 3)).setCell ⟨w.heap.size, 1, none⟩ (.int .i64 0)).setCell ⟨w.heap.size, 2, none⟩ (.string s)).setCell ⟨w.heap.size, 3, none⟩ (.slice a4 l4 c4)).heap[b]? = w4.heap[b]? := fun b hb => by
    rw [Below.heap_setCell _ _ _ _ (by simp; omega), Below.heap_setCell _ _ _ _ (by simp; omega), Below.heap_setCell _ _ _ _ (by simp; omega), Below.heap_setCell _ _ _ _ (by simp; omega)]
  have hB5 := (((hB.setCell (p := ⟨w.heap.size, 0, none⟩) (Nat.le_refl _) (.int .i64 3)).setCell (p := ⟨w.heap.size, 1, none⟩) (Nat.le_refl _) (.int .i64 0)).setCell (p := ⟨w.heap.size, 2, none⟩) (Nat.le_refl _) (.string s)).setCell (p := ⟨w.heap.size, 3, none⟩) (Nat.le_refl _) (.slice a4 l4 c4)
  have hs5 : ((((w4.setCell ⟨w.heap.size, 0, none⟩ (.int .i64 3)).setCell ⟨w.heap.size, 1, none⟩ (.int .i64 0)).setCell ⟨w.heap.size, 2, none⟩ (.string s)).setCell ⟨w.heap.size, 3, none⟩ (.slice a4 l4 c4)).heap.size = w4.heap.size := by simp
  generalize ((((w4.setCell ⟨w.heap.size, 0, none⟩ (.int .i64 3)).setCell ⟨w.heap.size, 1, none⟩ (.int .i64 0)).setCell ⟨w.heap.size, 2, none⟩ (.string s)).setCell ⟨w.heap.size, 3, none⟩ (.slice a4 l4 c4)) = w5 at hb5 ho5 hB5 hs5 ⊢
  obtain ⟨f0, f1, f2, f3⟩ := tbox_cells hb5
  refine bodyPost_ret (v := .agg #[.int .i64 3, .int .i64 0, .string s, .slice a4 l4 c4]) (by simp [results, Try.f23, go_sem, f0, f1, f2, f3]) rfl ?_
  exact ⟨_, rfl, hT.carry (fun b hb => ho5 b hb.1) (fun b hb => ⟨by omega, by rw [hs5]; exact hb.2⟩), hB5⟩

end Go.Proofs.Ytlnggaepmclbkaa

namespace Go.Proofs.Ytlnggaepmclbkaa
open Go.RowKit Go.Shelf
set_option linter.unusedVariables false

theorem below_draws {B : Nat} {a w : World} (h : Below B a w) : ∀ n, Below B a (w.drewN n)
  | 0 => h
  | n + 1 => (below_draws h n).drew

set_option maxRecDepth 100000 in
set_option maxHeartbeats 1000000 in
theorem rsize_at (T : Tm) : ∀ (v : Value) (w : World), Has w v T → T.size ≤ 1000000000000 → Calls Try.prog 28 #[v] w (Gets w (.int .i64 (T.size : Int))) := by
  induction T using Tm.ind with
  | h k n s ks ih =>
    intro v w hv hs
    obtain ⟨k_, n_, s_, a, len, cap, ks_, rfl, e, rfl, hk, hn, hs', hc, hm, ha⟩ := hv.form
    injection e with e1 e2 e3 e4
    subst e1 e2 e3 e4
    rw [Tm.size_mk] at hs ⊢
    have hlen : ks.length ≤ 1000000000000 := by have := Tm.length_le_sizes ks; omega
    obtain ⟨w1, hw1⟩ : ∃ w1, w1 = w.alloc (.cells #[.int .i64 k, .int .i64 n, .string s, .slice a ks.length cap] 24) := ⟨_, rfl⟩
    have hB1 : Below w.heap.size w w1 := by rw [hw1]; exact (Below.refl _ w).alloc (Nat.le_refl _) _
    have hbox : w1.heap[w.heap.size]? = some (.cells #[.int .i64 k, .int .i64 n, .string s, .slice a ks.length cap] 24 (0, 0)) := by rw [hw1]; exact World.alloc_heap_new _ _
    go_enter Try.func28, Try.ntmps28
    have HH := Lib.hid (And.intro hs (And.intro hB1 hbox))
    have HW := Lib.hid hw1
    clear hs hB1 hbox hw1
    go_wp2_with fail
    rw [← HW.out]
    go_loopw [3, 4] (fun x i wr => ∃ c : Nat, x = .int .i64 ((1 + Tm.sizes (ks.take c) : Nat) : Int) ∧ i = .int .i64 c ∧ c ≤ ks.length ∧ Below w1.heap.size w1 wr) (fun _ i _ => ks.length - (intOf i).toNat)
    case atStart => exact ⟨0, by simp [Tm.sizes_nil], rfl, Nat.zero_le _, Below.refl _ _⟩
    case round =>
      obtain ⟨c, rfl, rfl, hcl, hB⟩ := hrel
      have hbr := tbox_below HH.out.2.2 hB
      obtain ⟨b0, b1, b2, b3⟩ := tbox_cells hbr
      have hwr : Below w.heap.size w wr := HH.out.2.1.trans (hB.mono HH.out.2.1.size)
      by_cases hlt : c < ks.length
      · obtain ⟨b, o, k1, n1, s1, a1, l1, c1, T1, rfl, hbn, e0, e1, e2, e3, hT1, ht1⟩ := IsTm.kid hv c hlt
        have q0 := (hwr.cell (p := ⟨b, o + c * 4, none⟩) hbn).trans e0
        have q1 := (hwr.cell (p := ⟨b, o + c * 4 + 1, none⟩) hbn).trans e1
        have q2 := (hwr.cell (p := ⟨b, o + c * 4 + 2, none⟩) hbn).trans e2
        have q3 := (hwr.cell (p := ⟨b, o + c * 4 + 3, none⟩) hbn).trans e3
        have hts := Tm.take_succ_sizes ks c T1 hT1
        have htl := Tm.sizes_take_le ks (c + 1)
        have hs0 := HH.out.1
        obtain ⟨m, hm'⟩ : ∃ m, Tm.sizes (ks.take c) = m := ⟨_, rfl⟩
        obtain ⟨m1, hm1⟩ : ∃ m1, T1.size = m1 := ⟨_, rfl⟩
        have hih := (ih T1 (List.mem_of_getElem? hT1) _ wr (IsTm.later hwr hwr.size ht1) (by omega)).mono (R' := fun e w2 => e = .returned (.int .i64 (m1 : Int)) ∧ Below w1.heap.size w1 w2) (fun e w2 h => ⟨by rw [← hm1]; exact h.1, hB.trans (h.2.mono hB.size)⟩)
        have hmb : m + m1 ≤ 1000000000000 := by omega
        have HR := Lib.hid (And.intro hts (And.intro hm' hm1))
        clear ih hv e0 e1 e2 e3 ht1 hts htl hs0 hT1
        rw [hm']
        clear hm' hm1
        have hmi : ((1 + m : Nat) : Int) + (m1 : Int) ≤ 1000000000001 := by omega
        go_wp2_with (go_at_call 28; refine hih.mono ?_; rintro e w2 ⟨rfl, hB2⟩)
        go_roundw
        case rel =>
          refine ⟨c + 1, ?_, by simp, hlt, hB2⟩
          rw [HR.out.1, HR.out.2.1, HR.out.2.2]
          exact congrArg (Value.int .i64) (by omega)
        case measure => simp [intOf]; omega
      · have hce : c = ks.length := by omega
        subst hce
        clear ih hv
        rw [List.take_length]
        go_wp2_with fail
        go_ret
        exact ⟨rfl, hwr⟩

end Go.Proofs.Ytlnggaepmclbkaa

namespace Go.Proofs.Ytlnggaepmclbkaa
open Go.RowKit Go.Shelf
set_option linter.unusedVariables false

theorem two_terms {w : World} {k1 n1 k2 n2 : Int} {s1 s2 : ByteArray} {a1 a2 : Option Addr} {l1 c1 l2 c2 : Nat} {T1 T2 : Tm} (h1 : Has w (.agg #[.int .i64 k1, .int .i64 n1, .string s1, .slice a1 l1 c1]) T1) (h2 : Has w (.agg #[.int .i64 k2, .int .i64 n2, .string s2, .slice a2 l2 c2]) T2) :
    HasTs (w.alloc (.cells #[.int .i64 k1, .int .i64 n1, .string s1, .slice a1 l1 c1, .int .i64 k2, .int .i64 n2, .string s2, .slice a2 l2 c2] 24)) (.slice (some ⟨w.heap.size, 0, none⟩) 2 2) [T1, T2] := by
  have hb : Below w.heap.size w (w.alloc (.cells #[.int .i64 k1, .int .i64 n1, .string s1, .slice a1 l1 c1, .int .i64 k2, .int .i64 n2, .string s2, .slice a2 l2 c2] 24)) := (Below.refl _ w).alloc (Nat.le_refl _) _
  refine ⟨some ⟨w.heap.size, 0, none⟩, 2, rfl, by simp, by unfold maxLen; omega, (fun h => by cases h), fun i hi => ?_⟩
  have hi' : i = 0 ∨ i = 1 := by simp at hi; omega
  rcases hi' with rfl | rfl
  · exact ⟨w.heap.size, 0, k1, n1, s1, a1, l1, c1, rfl, by simp, (World.cell?_alloc_new w _ _ _).trans rfl, (World.cell?_alloc_new w _ _ _).trans rfl, (World.cell?_alloc_new w _ _ _).trans rfl, (World.cell?_alloc_new w _ _ _).trans rfl, Has.below h1 hb⟩
  · exact ⟨w.heap.size, 0, k2, n2, s2, a2, l2, c2, rfl, by simp, (World.cell?_alloc_new w _ _ _).trans rfl, (World.cell?_alloc_new w _ _ _).trans rfl, (World.cell?_alloc_new w _ _ _).trans rfl, (World.cell?_alloc_new w _ _ _).trans rfl, Has.below h2 hb⟩

theorem one_term {w : World} {k1 n1 : Int} {s1 : ByteArray} {a1 : Option Addr} {l1 c1 : Nat} {T1 : Tm} (h1 : Has w (.agg #[.int .i64 k1, .int .i64 n1, .string s1, .slice a1 l1 c1]) T1) :
    HasTs (w.alloc (.cells #[.int .i64 k1, .int .i64 n1, .string s1, .slice a1 l1 c1] 24)) (.slice (some ⟨w.heap.size, 0, none⟩) 1 1) [T1] := by
  have hb : Below w.heap.size w (w.alloc (.cells #[.int .i64 k1, .int .i64 n1, .string s1, .slice a1 l1 c1] 24)) := (Below.refl _ w).alloc (Nat.le_refl _) _
  refine ⟨some ⟨w.heap.size, 0, none⟩, 1, rfl, by simp, by unfold maxLen; omega, (fun h => by cases h), fun i hi => ?_⟩
  have hi' : i = 0 := by simp at hi; omega
  subst hi'
  exact ⟨w.heap.size, 0, k1, n1, s1, a1, l1, c1, rfl, by simp, (World.cell?_alloc_new w _ _ _).trans rfl, (World.cell?_alloc_new w _ _ _).trans rfl, (World.cell?_alloc_new w _ _ _).trans rfl, (World.cell?_alloc_new w _ _ _).trans rfl, Has.below h1 hb⟩

def exG : Tm := .mk 3 0 (ByteArray.mk #[103]) [.mk 1 2 (ByteArray.mk #[]) [], .mk 1 4 (ByteArray.mk #[]) []]
def exF : Tm := .mk 3 0 (ByteArray.mk #[102]) [.mk 1 4 (ByteArray.mk #[]) [], exG]
theorem exF_size : exF.size = 5 := by decide
theorem exF_deep : exF.deep = 3 := by decide
theorem exF_vars : exF.vars = [4, 2] := by decide
theorem empty_toList : (ByteArray.mk #[]).toList = [] := by
  unfold ByteArray.toList
  rw [ByteArray.toList.loop]
  rfl
theorem exF_valid : exF.valid 1 = true := by
  have h1 : (ByteArray.mk #[102]).size = 1 := rfl
  have h2 : (ByteArray.mk #[103]).size = 1 := rfl
  simp [Tm.valid, validL, exF, exG, Tm.parts_mk, Tm.partss_cons, Tm.partss_nil, Tm.formed, Tm.kind, Tm.num, Tm.name, Tm.kids, h1, h2]
theorem exF_check : exF.check 1 = 0 := by
  rw [Tm.check, exF_size, exF_deep, exF_valid]; decide

theorem two_ints (w : World) (x y : Int) : IntsAt (w.alloc (.cells #[.int .i64 x, .int .i64 y] 3)) (.slice (some ⟨w.heap.size, 0, none⟩) 2 2) [x, y] := by
  refine ⟨some ⟨w.heap.size, 0, none⟩, 2, rfl, by simp, by unfold maxLen; omega, (fun h => by cases h), fun i hi => ?_⟩
  have hi' : i = 0 ∨ i = 1 := by simp at hi; omega
  rcases hi' with rfl | rfl
  · exact ⟨w.heap.size, 0, rfl, by simp, (World.cell?_alloc_new w _ _ _).trans rfl⟩
  · exact ⟨w.heap.size, 0, rfl, by simp, (World.cell?_alloc_new w _ _ _).trans rfl⟩
theorem one_int (w : World) (x : Int) : IntsAt (w.alloc (.cells #[.int .i64 x] 3)) (.slice (some ⟨w.heap.size, 0, none⟩) 1 1) [x] := by
  refine ⟨some ⟨w.heap.size, 0, none⟩, 1, rfl, by simp, by unfold maxLen; omega, (fun h => by cases h), fun i hi => ?_⟩
  have hi' : i = 0 := by simp at hi; omega
  subst hi'
  exact ⟨w.heap.size, 0, rfl, by simp, (World.cell?_alloc_new w _ _ _).trans rfl⟩

end Go.Proofs.Ytlnggaepmclbkaa

namespace Go.Proofs.Ytlnggaepmclbkaa
open Go.RowKit Go.Shelf
set_option linter.unusedVariables false

abbrev Quad := Int × Int × ByteArray × Value
def qval (q : Quad) : Value := .agg #[.int .i64 q.1, .int .i64 q.2.1, .string q.2.2.1, q.2.2.2]
def flatQ : List Quad → List Value
  | [] => []
  | q :: r => .int .i64 q.1 :: .int .i64 q.2.1 :: .string q.2.2.1 :: q.2.2.2 :: flatQ r
theorem flatQ_length : ∀ qs, (flatQ qs).length = qs.length * 4
  | [] => rfl
  | q :: r => by simp [flatQ, flatQ_length r]; omega
theorem flatQ_append : ∀ qs rs, flatQ (qs ++ rs) = flatQ qs ++ flatQ rs
  | [], _ => rfl
  | q :: r, rs => by simp [flatQ, flatQ_append r rs]
theorem flatQ_get : ∀ (qs : List Quad) (i : Nat) (q : Quad), qs[i]? = some q → (flatQ qs)[i * 4]? = some (.int .i64 q.1) ∧ (flatQ qs)[i * 4 + 1]? = some (.int .i64 q.2.1) ∧ (flatQ qs)[i * 4 + 2]? = some (.string q.2.2.1) ∧ (flatQ qs)[i * 4 + 3]? = some q.2.2.2
  | [], i, q, h => by simp at h
  | p :: r, 0, q, h => by
    have h' : p = q := by simpa using h
    subst h'
    exact ⟨rfl, rfl, rfl, rfl⟩
  | p :: r, i + 1, q, h => by
    have := flatQ_get r i q (by simpa using h)
    have e : (i + 1) * 4 = i * 4 + 4 := by omega
    rw [e]
    exact this

/-- Each of the cells' quadruples is that term. -/
def QsOk (p : Nat → Prop) (w : World) (qs : List Quad) (ks : List Tm) : Prop :=
  qs.length = ks.length ∧ ∀ (i : Nat) (q : Quad) (t : Tm), qs[i]? = some q → ks[i]? = some t → (∃ a l c, q.2.2.2 = .slice a l c) ∧ TmIn p w (qval q) t
theorem QsOk.carry {p q : Nat → Prop} {A B : World} (h : ∀ b, p b → B.heap[b]? = A.heap[b]?) (hq : ∀ b, p b → q b) {qs : List Quad} {ks : List Tm} (ht : QsOk p A qs ks) : QsOk q B qs ks :=
  ⟨ht.1, fun i q t h1 h2 => ⟨(ht.2 i q t h1 h2).1, (ht.2 i q t h1 h2).2.carry h hq⟩⟩
theorem QsOk.append {p : Nat → Prop} {w : World} {qs rs : List Quad} {ks ls : List Tm} (h : QsOk p w qs ks) (k : QsOk p w rs ls) : QsOk p w (qs ++ rs) (ks ++ ls) := by
  refine ⟨by rw [List.length_append, List.length_append, h.1, k.1], fun i q t h1 h2 => ?_⟩
  by_cases hi : i < qs.length
  · rw [List.getElem?_append_left hi] at h1
    rw [List.getElem?_append_left (by rw [← h.1]; exact hi)] at h2
    exact h.2 i q t h1 h2
  · rw [List.getElem?_append_right (by omega)] at h1
    rw [List.getElem?_append_right (by rw [← h.1]; omega), ← h.1] at h2
    exact k.2 _ q t h1 h2
theorem flatQ_one {p : Nat → Prop} {w : World} : ∀ {qs : List Quad} {ks : List Tm}, QsOk p w qs ks → ∀ u ∈ flatQ qs, u.oneCell' = true
  | [], _, _, u, h => by simp [flatQ] at h
  | q :: r, [], h, u, hu => by have := h.1; simp at this
  | q :: r, t :: ts, h, u, hu => by
    have h0 := (h.2 0 q t rfl rfl).1
    obtain ⟨a, l, c, e⟩ := h0
    simp only [flatQ, List.mem_cons] at hu
    rcases hu with rfl | rfl | rfl | rfl | hu
    · rfl
    · rfl
    · rfl
    · rw [e]; rfl
    · exact flatQ_one (qs := r) (ks := ts) ⟨by have := h.1; simpa using this, fun i q' t' h1 h2 => h.2 (i + 1) q' t' (by simpa using h1) (by simpa using h2)⟩ u hu

/-- The cells of a list that came. -/
theorem src_quads {p : Nat → Prop} {w : World} {v : Value} {ks : List Tm} (h : TsIn p w v ks) : ∃ a cap qs, v = .slice a ks.length cap ∧ (a = none → cap = 0 ∧ ks = []) ∧ QsOk p w qs ks ∧ ∀ ad, a = some ad → ∀ j u, (flatQ qs)[j]? = some u → w.cell? (ad.add j) = some u := by
  obtain ⟨a, cap, rfl, hc, hm, ha, hx⟩ := h
  have hx' : ∀ i, i < ks.length → ∃ q : Quad, (∃ b o, a = some ⟨b, o, none⟩ ∧ w.cell? ⟨b, o + i * 4, none⟩ = some (.int .i64 q.1) ∧ w.cell? ⟨b, o + i * 4 + 1, none⟩ = some (.int .i64 q.2.1) ∧ w.cell? ⟨b, o + i * 4 + 2, none⟩ = some (.string q.2.2.1) ∧ w.cell? ⟨b, o + i * 4 + 3, none⟩ = some q.2.2.2) ∧
      (∃ a l c, q.2.2.2 = .slice a l c) ∧ ∀ t, ks[i]? = some t → TmIn p w (qval q) t := fun i hi => by
    obtain ⟨b, o, k', n', s', a', l', c', e, hb, c0, c1, c2, c3, ht⟩ := hx i hi
    refine ⟨(k', n', s', .slice a' l' c'), ⟨b, o, e, c0, c1, c2, c3⟩, ⟨a', l', c', rfl⟩, fun t h => ?_⟩
    rw [List.getElem?_eq_getElem hi] at h
    cases h
    exact ht
  have : ∃ f : Nat → Quad, ∀ i, i < ks.length → (∃ b o, a = some ⟨b, o, none⟩ ∧ w.cell? ⟨b, o + i * 4, none⟩ = some (.int .i64 (f i).1) ∧ w.cell? ⟨b, o + i * 4 + 1, none⟩ = some (.int .i64 (f i).2.1) ∧ w.cell? ⟨b, o + i * 4 + 2, none⟩ = some (.string (f i).2.2.1) ∧ w.cell? ⟨b, o + i * 4 + 3, none⟩ = some (f i).2.2.2) ∧
      (∃ a l c, (f i).2.2.2 = .slice a l c) ∧ ∀ t, ks[i]? = some t → TmIn p w (qval (f i)) t := by
    classical
    refine ⟨fun i => if hi : i < ks.length then Classical.choose (hx' i hi) else (0, 0, ByteArray.mk #[], .bool true), fun i hi => ?_⟩
    simp only [dif_pos hi]
    exact Classical.choose_spec (hx' i hi)
  obtain ⟨f, hf⟩ := this
  refine ⟨a, cap, (List.range ks.length).map f, rfl, fun e => ⟨ha e, ?_⟩, ⟨by simp, fun i q t h1 h2 => ?_⟩, ?_⟩
  · cases hk : ks with
    | nil => rfl
    | cons t ts =>
      obtain ⟨⟨b, o, e', _⟩, _⟩ := hf 0 (by rw [hk]; simp)
      rw [e] at e'; cases e'
  · have hi : i < ks.length := (List.getElem?_eq_some_iff.1 h2).1
    have e : f i = q := by simpa [hi] using h1
    subst e
    exact ⟨(hf i hi).2.1, (hf i hi).2.2 t h2⟩
  · intro ad had j u hu
    have hj : j < ks.length * 4 := by
      have := (List.getElem?_eq_some_iff.1 hu).1
      rw [flatQ_length] at this
      simpa using this
    obtain ⟨⟨b, o, e, c0, c1, c2, c3⟩, _⟩ := hf (j / 4) (by omega)
    rw [had] at e
    injection e with e
    subst e
    have ea : (Addr.add ⟨b, o, none⟩ j) = ⟨b, o + j, none⟩ := by
      by_cases e : j = 0
      · subst e; simp [Addr.add]
      · simp [Addr.add, e]
    rw [ea]
    obtain ⟨g0, g1, g2, g3⟩ := flatQ_get ((List.range ks.length).map f) (j / 4) (f (j / 4)) (by rw [List.getElem?_map, List.getElem?_range (by omega)]; rfl)
    have h4 : j % 4 = 0 ∨ j % 4 = 1 ∨ j % 4 = 2 ∨ j % 4 = 3 := by omega
    rcases h4 with m | m | m | m
    · have e : j / 4 * 4 = j := by omega
      rw [e] at c0 g0; rw [c0, ← hu, g0]
    · have e : j / 4 * 4 + 1 = j := by omega
      rw [Nat.add_assoc, e] at c1; rw [e] at g1; rw [c1, ← hu, g1]
    · have e : j / 4 * 4 + 2 = j := by omega
      rw [Nat.add_assoc, e] at c2; rw [e] at g2; rw [c2, ← hu, g2]
    · have e : j / 4 * 4 + 3 = j := by omega
      rw [Nat.add_assoc, e] at c3; rw [e] at g3; rw [c3, ← hu, g3]

def Pv (w : World) (B : Nat) (v : Value) (b : Nat) : Prop := b < w.heap.size ∧ v.ownBlock ≠ some b ∧ b ≠ B
/-- A slice that owns terms; these lie in blocks that are neither its own nor B. -/
def OwnTs (w : World) (base B : Nat) (v : Value) (ks : List Tm) : Prop := ∃ qs, w.ownsRow base 24 4 v qs.length (flatQ qs) ∧ QsOk (Pv w B v) w qs ks

theorem OwnTs.nil (w : World) (base B : Nat) : OwnTs w base B (.slice none 0 0) [] := ⟨[], World.ownsRow_nil _ _ _ _, ⟨rfl, fun i q t h => by simp at h⟩⟩
theorem OwnTs.empty (w : World) (base B : Nat) (hb : base ≤ w.heap.size) : OwnTs (w.alloc (.cells #[] 24)) base B (.slice (some ⟨w.heap.size, 0, none⟩) 0 0) [] :=
  ⟨[], ⟨rfl, Or.inr ⟨w.heap.size, 0, #[], rfl, hb, Go.Deep.blk_alloc_new _ _, Nat.le_refl _, Nat.zero_le _, rfl, rfl⟩⟩, ⟨rfl, fun i q t h => by simp at h⟩⟩
theorem OwnTs.lt {w : World} {base B : Nat} {v : Value} {ks : List Tm} (h : OwnTs w base B v ks) : ∀ k, v.ownBlock = some k → base ≤ k := fun k hk => by
  obtain ⟨qs, h1, _⟩ := h
  exact (World.ownsRow.lt h1 k hk).1
theorem OwnTs.lt2 {w : World} {base B : Nat} {v : Value} {ks : List Tm} (h : OwnTs w base B v ks) : ∀ k, v.ownBlock = some k → k < w.heap.size := fun k hk => by
  obtain ⟨qs, h1, _⟩ := h
  exact (World.ownsRow.lt h1 k hk).2
theorem OwnTs.form {w : World} {base B : Nat} {v : Value} {ks : List Tm} (h : OwnTs w base B v ks) : ∃ a c, v = .slice a ks.length c := by
  obtain ⟨qs, h1, h2⟩ := h
  rw [h2.1] at h1
  rcases h1.2 with ⟨rfl, e⟩ | ⟨g, cap, cur, rfl, _⟩
  · exact ⟨none, 0, by rw [e]⟩
  · exact ⟨_, _, rfl⟩
/-- It stays where neither its row nor what its terms lie in has turned. -/
theorem OwnTs.kept {w w' : World} {base B : Nat} {v : Value} {ks : List Tm} (h : OwnTs w base B v ks) (hs : w.heap.size ≤ w'.heap.size) (hk : ∀ b, b < w.heap.size → b ≠ B → w'.heap[b]? = w.heap[b]?) (hB : v.ownBlock ≠ some B) : OwnTs w' base B v ks := by
  obtain ⟨qs, h1, h2⟩ := h
  refine ⟨qs, ?_, h2.carry (fun b hb => hk b hb.1 hb.2.2) (fun b hb => ⟨Nat.lt_of_lt_of_le hb.1 hs, hb.2⟩)⟩
  obtain ⟨hl, ⟨h0, h1⟩ | ⟨g, cap, cur, h0, hg, hh, r⟩⟩ := h1
  · exact ⟨hl, Or.inl ⟨h0, h1⟩⟩
  · refine ⟨hl, Or.inr ⟨g, cap, cur, h0, hg, ?_, r⟩⟩
    rw [hk g (Array.getElem?_eq_some_iff.1 hh).1 (fun e => hB (by rw [h0, e]; rfl))]
    exact hh
theorem OwnTs.alloc {w : World} {base B : Nat} {v : Value} {ks : List Tm} (h : OwnTs w base B v ks) (hB : v.ownBlock ≠ some B) (o : Obj) : OwnTs (w.alloc o) base B v ks :=
  h.kept (by simp) (fun b hb _ => Below.heap_alloc w o b hb) hB
theorem OwnTs.ts {w : World} {base B : Nat} {v : Value} {ks : List Tm} (h : OwnTs w base B v ks) : TsIn (fun b => b < w.heap.size) w v ks := by
  obtain ⟨qs, h1, h2⟩ := h
  rw [h2.1] at h1
  obtain ⟨_, ⟨rfl, h0⟩ | ⟨g, cap, cur, rfl, hg, hh, hc1, hc2, hc3, hc4⟩⟩ := h1
  · obtain rfl : ks = [] := List.eq_nil_of_length_eq_zero h0
    exact noTs _ _
  · refine ⟨some ⟨g, 0, none⟩, cap, rfl, hc1, hc2, (fun h => by cases h), fun i hi => ?_⟩
    have hq : i < qs.length := by rw [h2.1]; exact hi
    obtain ⟨⟨a, l, c, e⟩, hT⟩ := h2.2 i qs[i] ks[i] (List.getElem?_eq_getElem hq) (List.getElem?_eq_getElem hi)
    obtain ⟨g0, g1, g2, g3⟩ := flatQ_get qs i qs[i] (List.getElem?_eq_getElem hq)
    have cell : ∀ j, j < ks.length * 4 → w.cell? ⟨g, j, none⟩ = (flatQ qs)[j]? := fun j hj => by
      rw [← hc4, List.getElem?_take_of_lt hj]
      simp [World.cell?, hh]
    refine ⟨g, 0, qs[i].1, qs[i].2.1, qs[i].2.2.1, a, l, c, rfl, (Array.getElem?_eq_some_iff.1 hh).1, ?_, ?_, ?_, ?_, ?_⟩
    · rw [Nat.zero_add, cell _ (by omega)]; exact g0
    · rw [Nat.zero_add, cell _ (by omega)]; exact g1
    · rw [Nat.zero_add, cell _ (by omega)]; exact g2
    · rw [Nat.zero_add, cell _ (by omega), g3, e]
    · have hT' := hT.carry (q := fun b => b < w.heap.size) (B := w) (fun _ _ => rfl) (fun b hb => hb.1)
      unfold qval at hT'
      rw [e] at hT'
      exact hT'

/-- append, run. -/
theorem run_append_ts {w : World} (ty : TypeId) (base B : Nat) (v u : Value) (ks ls : List Tm) (hown : OwnTs w base B v ks) (hsrc : TsIn (Pv w B v) w u ls) (hl : ks.length + ls.length ≤ 1000000000000) (hbase : base ≤ w.heap.size) (hB : B < w.heap.size) :
    ∃ v' w', (Builtin.append_ #[22, 22] ty #[v, u]).run Try.prog w = .ok v' w' ∧ OwnTs w' base B v' (ks ++ ls) ∧ w.grownBy w' v.ownBlock ∧ (v'.ownBlock = v.ownBlock ∨ v'.ownBlock = some w.heap.size) := by
  obtain ⟨i0, hi, hz0, hz1, hz2⟩ := info_parts infoTerm
  obtain ⟨qs, h1, h2⟩ := hown
  obtain ⟨a, cap, rs, rfl, h3, h4, h5⟩ := src_quads hsrc
  cases a with
  | none =>
    obtain ⟨rfl, rfl⟩ := h3 rfl
    refine ⟨v, w, run_append_owned_none w base 22 ty 24 i0 4 Try.underlying22 hi v qs.length (flatQ qs) h1, ⟨qs, h1, by rw [List.append_nil]; exact h2⟩, ⟨rfl, rfl, rfl, Nat.le_refl _, fun _ _ _ => rfl⟩, Or.inl rfl⟩
  | some ad =>
    have hql : qs.length = ks.length := h2.1
    have hrl : rs.length = ls.length := h4.1
    obtain ⟨v', w', hr, ho, hg, _, hat⟩ := run_append_own_at (P := Try.prog) w base 22 ty 24 i0 _ 4 56 Try.underlying22 hi hz0 hz1 hz2 rfl (by decide) v qs.length (flatQ qs) h1 ad ls.length cap (flatQ rs) (by rw [flatQ_length, hrl]) (h5 ad rfl) (flatQ_one h4) (by unfold maxLen; omega) (by omega) hbase
    refine ⟨v', w', hr, ⟨qs ++ rs, ?_, ?_⟩, hg, hat⟩
    · rw [List.length_append, flatQ_append, hrl]; exact ho
    · refine (h2.append h4).carry (fun b hb => hg.block b hb.1 (fun e => hb.2.1 e.symm)) (fun b hb => ⟨Nat.lt_of_lt_of_le hb.1 hg.size, fun e => ?_, hb.2.2⟩)
      rcases hat with hat | hat
      · exact hb.2.1 (hat.symm.trans e)
      · rw [hat] at e; injection e with e; have := hb.1; omega

/-- append, at a step of a region that draws its order. -/
theorem step_append_ts {w : World} {ops : Array Oper} {o : Oper} {a : Act} {K : Act → World → Prop} {Q : Exit → Act → World → Prop} {E : Prop} (hgd : o.guard = none) (s x : Operand)
    (ho : o.op = .call { callee := .builtin .append, args := #[s, x], argTypes := #[22, 22] })
    (base B : Nat) (v u : Value) (ks ls : List Tm) (hs : a.eval s = v) (hx : a.eval x = u) (hown : OwnTs w base B v ks) (hsrc : TsIn (Pv w B v) w u ls) (hl : ks.length + ls.length ≤ 1000000000000) (hbase : base ≤ w.heap.size) (hB : B < w.heap.size)
    (h : ∀ v' w', OwnTs w' base B v' (ks ++ ls) → w.grownBy w' v.ownBlock → (v'.ownBlock = v.ownBlock ∨ v'.ownBlock = some w.heap.size) → K (a.put o.dst v') w') :
    if Region.wanted o (yielded ops a.tmps) = true then Oper.wp Try.prog o a w K Q else E := by
  have hw : Region.wanted o (yielded ops a.tmps) = true := by simp [Region.wanted, hgd]
  rw [if_pos hw]
  obtain ⟨v', w', hr, h2, h3, h4⟩ := run_append_ts o.type base B v u ks ls hown hsrc hl hbase hB
  unfold Oper.wp execOp
  simp only [ho, resolve, invoke, builtin, Sem.run_bind, Sem.run_pure, Result.andThen_ok, List.map_toArray, List.map_cons, List.map_nil, hs, hx, hr]
  exact h v' w' h2 h3 h4

/-- Behind some steps that let all lie that lay in w5, but the last cell of a term's box. -/
structure After (w5 : World) (B : Nat) (k n : Int) (s : ByteArray) (w' : World) : Prop where
  os : w'.os = w5.os
  tape : w'.tape = w5.tape
  output : w'.output = w5.output
  size : w5.heap.size ≤ w'.heap.size
  same : ∀ b, b < w5.heap.size → b ≠ B → w'.heap[b]? = w5.heap[b]?
  box : ∃ v, w'.heap[B]? = some (.cells #[.int .i64 k, .int .i64 n, .string s, v] 24 (0, 0))
  lt : B < w5.heap.size

theorem After.drew {w5 w' : World} {B : Nat} {k n : Int} {s : ByteArray} (h : After w5 B k n s w') : After w5 B k n s w'.drew := ⟨h.os, h.tape, h.output, h.size, h.same, h.box, h.lt⟩
theorem After.grown {w5 w' w'' : World} {B : Nat} {k n : Int} {s : ByteArray} {row : Option Nat} (h : After w5 B k n s w') (hg : w'.grownBy w'' row) (hr : ∀ b, row = some b → w5.heap.size ≤ b) : After w5 B k n s w'' := by
  obtain ⟨v, hv⟩ := h.box
  have hne : ∀ b, b < w5.heap.size → some b ≠ row := fun b hb e => by have := hr b e.symm; omega
  exact ⟨hg.os.trans h.os, hg.tape.trans h.tape, hg.output.trans h.output, Nat.le_trans h.size hg.size, fun b hb hB => (hg.block b (Nat.lt_of_lt_of_le hb h.size) (hne b hb)).trans (h.same b hb hB),
    ⟨v, (hg.block B (Array.getElem?_eq_some_iff.1 hv).1 (hne B h.lt)).trans hv⟩, h.lt⟩
theorem After.alloc {w5 w' : World} {B : Nat} {k n : Int} {s : ByteArray} (h : After w5 B k n s w') (o : Obj) : After w5 B k n s (w'.alloc o) := h.grown (World.grownBy_alloc w' o none) (fun b e => by cases e)
theorem After.below {w5 w' w'' : World} {B : Nat} {k n : Int} {s : ByteArray} (h : After w5 B k n s w') (hb : Below w'.heap.size w' w'') : After w5 B k n s w'' := by
  obtain ⟨v, hv⟩ := h.box
  exact ⟨hb.os.trans h.os, hb.tape.trans h.tape, hb.output.trans h.output, Nat.le_trans h.size hb.size, fun b hb' hB => (hb.block b (Nat.lt_of_lt_of_le hb' h.size)).trans (h.same b hb' hB),
    ⟨v, (hb.block B (Array.getElem?_eq_some_iff.1 hv).1).trans hv⟩, h.lt⟩
theorem After.set {w5 w' : World} {B : Nat} {k n : Int} {s : ByteArray} (h : After w5 B k n s w') (u : Value) : After w5 B k n s (w'.setCell ⟨B, 3, none⟩ u) := by
  obtain ⟨v, hv⟩ := h.box
  exact ⟨h.os, h.tape, h.output, by simpa using h.size, fun b hb hB => (Below.heap_setCell w' ⟨B, 3, none⟩ u b hB).trans (h.same b hb hB), ⟨u, set_block (o := 3) hv u⟩, h.lt⟩
theorem After.isBelow {w5 w' : World} {B : Nat} {k n : Int} {s : ByteArray} (h : After w5 B k n s w') {m : Nat} (hm : m ≤ B) : Below m w5 w' :=
  ⟨h.os, h.tape, h.output, h.size, fun b hb => h.same b (by have := h.lt; omega) (by omega)⟩
theorem After.cell {w5 w' : World} {B : Nat} {k n : Int} {s : ByteArray} (h : After w5 B k n s w') {b o : Nat} {v : Value} (hc : w5.cell? ⟨b, o, none⟩ = some v) (hB : b ≠ B) : w'.cell? ⟨b, o, none⟩ = some v := by
  have hlt : b < w5.heap.size := by
    unfold World.cell? at hc
    split at hc
    · rename_i hb; exact (Array.getElem?_eq_some_iff.1 hb).1
    · cases hc
  rw [World.cell?_of_block (w := w5) (a := ⟨b, o, none⟩) (h.same b hlt hB)]
  exact hc
theorem After.some {w5 w' : World} {B : Nat} {k n : Int} {s : ByteArray} (h : After w5 B k n s w') : w'.cell? ⟨B, 3, none⟩ = some ((w'.cell? ⟨B, 3, none⟩).getD undef) ∧ w'.frozen? ⟨B, 3, none⟩ = false := by
  obtain ⟨v, hv⟩ := h.box
  constructor
  · simp [World.cell?, hv]
  · simp [World.frozen?, hv]

end Go.Proofs.Ytlnggaepmclbkaa
