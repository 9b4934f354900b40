/-
  The law TermSame: its walk.
-/
import Derived.Test.YtmbikojjhdildaaShown
import Derived.Test.YtmbikojjhdildaaOwnT
import Derived.Test.YtmbikojjhdildaaSame
import Derived.Laws.Concat
import Derived.Test.YtmbikojjhdildaaFam
import Derived.Deep.RegionHeld3
namespace Go.Proofs.Ytmbikojjhdildaa
open Go.RowKit Go.Shelf
open Classical
set_option linter.unusedVariables false

theorem has_ok {w : World} {k n : Int} {s : ByteArray} {v : Value} {T : Tm} (h : Has w (.agg #[.int .i64 k, .int .i64 n, .string s, v]) T) : i64ok k ∧ i64ok n ∧ s.size ≤ maxLen := by
  obtain ⟨_, _, _, _, _, _, _, e1, _, _, hki, hni, hsi, _⟩ := h.form
  simp only [Value.agg.injEq, Array.mk.injEq, List.cons.injEq, Value.int.injEq, Value.string.injEq, true_and, and_true] at e1
  obtain ⟨rfl, rfl, rfl, _⟩ := e1
  exact ⟨hki, hni, hsi⟩

theorem set_inv {W : World} {B : Nat} {a b c v u : Value} {t : TypeId} {z : Nat × Nat} (h : (W.setCell ⟨B, 3, none⟩ u).heap[B]? = some (.cells #[a, b, c, v] t z)) : v = u := by
  have hlt : B < W.heap.size := by have := (Array.getElem?_eq_some_iff.1 h).1; simpa using this
  have hW : W.heap[B]? = some W.heap[B] := Array.getElem?_eq_getElem hlt
  have hm : (W.setCell ⟨B, 3, none⟩ u).heap[B]? = some (match W.heap[B] with | .cells c elem frozen => .cells (c.setIfInBounds 3 u) elem frozen | o => o) := by
    show (W.heap.modify B _)[B]? = _
    rw [Array.getElem?_eq_getElem (by rw [Array.size_modify]; exact hlt), Array.getElem_modify_self]
    rfl
  rw [hm] at h
  cases ho : W.heap[B] with
  | cells cur e f =>
    rw [ho] at h
    simp only [Option.some.injEq, Obj.cells.injEq] at h
    have h3 := congrArg (fun x : Array Value => x[3]?) h.1
    have hs := congrArg Array.size h.1
    simp at hs
    simp [hs] at h3
    exact h3.symm
  | _ => rw [ho] at h; simp at h

theorem cell_al {W : World} {a : Addr} {v : Value} (o : Obj) (h : W.cell? a = some v) : (W.alloc o).cell? a = some v := cell_kept h (World.grownBy_alloc W o none) (fun r e => by cases e)

set_option maxRecDepth 100000 in
set_option maxHeartbeats 4000000 in
theorem termSame_at (u v : Value) (A B : Tm) (w : World) (hu : Has w u A) (hv : Has w v B) (hs : A.size ≤ 1000000000000) (ht : B.size ≤ 1000000000000) (hnm : A.name.size ≤ 1048576) :
    Calls Try.prog 7 #[u, v] w fun r w' => r = .returned (.bool true) ∧ Below w.heap.size w w' := by
  obtain ⟨k, n, s, a, len, cap, ks, rfl, e', hlk, -⟩ := hu.form
  have HK := Lib.hid hlk
  clear hlk
  have hAe := e'
  obtain ⟨k', n', s', a', len', cap', ks', rfl, e'', -⟩ := hv.form
  clear e' e''
  have HAe := Lib.hid hAe
  obtain ⟨w1, hw1⟩ : ∃ w1, w1 = (w.alloc (.cells #[.int .i64 k, .int .i64 n, .string s, .slice a len cap] 24)).alloc (.cells #[.int .i64 k', .int .i64 n', .string s', .slice a' len' cap'] 24) := ⟨_, rfl⟩
  have hB1 : Below w.heap.size w w1 := by rw [hw1]; exact ((Below.refl _ w).alloc (Nat.le_refl _) _).alloc (by simp) _
  have hx1 : w1.heap[w.heap.size]? = some (.cells #[.int .i64 k, .int .i64 n, .string s, .slice a len cap] 24 (0, 0)) := by rw [hw1]; exact (Below.heap_alloc _ _ _ (by simp)).trans (World.alloc_heap_new _ _)
  have hy1 : w1.heap[w.heap.size + 1]? = some (.cells #[.int .i64 k', .int .i64 n', .string s', .slice a' len' cap'] 24 (0, 0)) := by rw [hw1]; simpa using World.alloc_heap_new (w.alloc (.cells #[.int .i64 k, .int .i64 n, .string s, .slice a len cap] 24)) (.cells #[.int .i64 k', .int .i64 n', .string s', .slice a' len' cap'] 24)
  have H1 := Lib.hid (And.intro hw1 (And.intro hB1 (And.intro hx1 hy1)))
  clear hw1 hB1 hx1 hy1
  go_enter Try.func7, Try.ntmps7
  go_wp2_with fail
  rw [← H1.out.1]
  refine (shown_at w1).mono ?_
  rintro r w2 ⟨rfl, hb⟩
  have H2 := Lib.hid (And.intro (H1.out.2.1.trans (hb.mono H1.out.2.1.size)) (And.intro (tbox_below H1.out.2.2.1 hb) (tbox_below H1.out.2.2.2 hb)))
  obtain ⟨x0, x1, x2, x3⟩ := tbox_cells H2.out.2.1
  have hA2 := Has.below hu H2.out.1
  have hB2 := Has.below hv H2.out.1
  clear hb H1 hu hv
  go_wp2_with fail
  refine (few_at _ A w2 hA2 hs).mono ?_
  rintro r w3 ⟨rfl, hb⟩
  have H3 := Lib.hid (And.intro (H2.out.1.trans (hb.mono H2.out.1.size)) (And.intro (tbox_below H2.out.2.1 hb) (tbox_below H2.out.2.2 hb)))
  have hA3 := Has.below hA2 hb
  have hB3 := Has.below hB2 hb
  clear hb H2 hA2 hB2 x0 x1 x2 x3
  by_cases hfew : A.size ≤ 3000
  case neg =>
    rw [decide_eq_false hfew]
    clear hA3 hB3
    go_wp2_with fail
    go_ret
    exact ⟨rfl, H3.out.1⟩
  rw [decide_eq_true hfew]
  obtain ⟨x0, x1, x2, x3⟩ := tbox_cells H3.out.2.2
  go_wp2_with fail
  refine (few_at _ B w3 hB3 ht).mono ?_
  rintro r w4 ⟨rfl, hb⟩
  have H4 := Lib.hid (And.intro (H3.out.1.trans (hb.mono H3.out.1.size)) (And.intro (tbox_below H3.out.2.1 hb) (tbox_below H3.out.2.2 hb)))
  have hA4 := Has.below hA3 hb
  have hB4 := Has.below hB3 hb
  clear hb H3 hA3 hB3 x0 x1 x2 x3
  by_cases hfew2 : B.size ≤ 3000
  case neg =>
    rw [decide_eq_false hfew2]
    clear hA4 hB4
    go_wp2_with fail
    go_ret
    exact ⟨rfl, H4.out.1⟩
  rw [decide_eq_true hfew2]
  obtain ⟨x0, x1, x2, x3⟩ := tbox_cells H4.out.2.1
  clear x0 x1 x2 x3
  obtain ⟨x0, x1, x2, x3⟩ := tbox_cells H4.out.2.1
  obtain ⟨y0, y1, y2, y3⟩ := tbox_cells H4.out.2.2
  have hsb : s.size ≤ 1048576 := by rw [hAe] at hnm; exact hnm
  have a1 : ∀ o, (w4.alloc o).cell? ⟨w.heap.size, 0, none⟩ = some (.int .i64 k) ∧ (w4.alloc o).cell? ⟨w.heap.size, 1, none⟩ = some (.int .i64 n) ∧ (w4.alloc o).cell? ⟨w.heap.size, 2, none⟩ = some (.string s) ∧ (w4.alloc o).cell? ⟨w.heap.size, 3, none⟩ = some (.slice a len cap) := fun o => ⟨cell_al o x0, cell_al o x1, cell_al o x2, cell_al o x3⟩
  have a2 : ∀ o o', ((w4.alloc o).alloc o').cell? ⟨w.heap.size, 0, none⟩ = some (.int .i64 k) ∧ ((w4.alloc o).alloc o').cell? ⟨w.heap.size, 1, none⟩ = some (.int .i64 n) ∧ ((w4.alloc o).alloc o').cell? ⟨w.heap.size, 2, none⟩ = some (.string s) ∧ ((w4.alloc o).alloc o').cell? ⟨w.heap.size, 3, none⟩ = some (.slice a len cap) := fun o o' => ⟨cell_al o' (a1 o).1, cell_al o' (a1 o).2.1, cell_al o' (a1 o).2.2.1, cell_al o' (a1 o).2.2.2⟩
  have hadd : ∀ w', (Op.stringOp .add s (ByteArray.mk #[120])).run Try.prog w' = .ok (.string (s ++ ByteArray.mk #[120])) w' := fun w' => run_string_add_sum w' s _ (by have : (ByteArray.mk #[120]).size = 1 := rfl; omega)
  obtain ⟨s2, hs2⟩ : ∃ s2, s2 = s ++ ByteArray.mk #[120] := ⟨_, rfl⟩
  rw [← hs2] at hadd
  have HS2 := Lib.hid hs2
  clear hs2
  obtain ⟨w5, hw5⟩ : ∃ w5, w5 = (((w4.alloc (.cells #[.int .i64 k, .int .i64 (wrap64 (n + 1)), .string s, .slice a len cap] 24)).alloc (.cells #[.int .i64 k, .int .i64 n, .string s2, .slice a len cap] 24)).alloc (.cells #[.int .i64 k, .int .i64 n, .string s, .slice a len cap] 24)) := ⟨_, rfl⟩
  have hB45 : Below w4.heap.size w4 w5 := by rw [hw5]; exact (((Below.refl _ _).alloc (Nat.le_refl _) _).alloc (by simp) _).alloc (by simp; omega) _
  have hsz5 : w5.heap.size = w4.heap.size + 3 := by rw [hw5]; simp
  have hb6 : w5.heap[w4.heap.size]? = some (.cells #[.int .i64 k, .int .i64 (wrap64 (n + 1)), .string s, .slice a len cap] 24 (0, 0)) := by rw [hw5]; exact ((Below.heap_alloc _ _ _ (by simp; omega)).trans (Below.heap_alloc _ _ _ (by simp))).trans (World.alloc_heap_new _ _)
  have hb7 : w5.heap[w4.heap.size + 1]? = some (.cells #[.int .i64 k, .int .i64 n, .string s2, .slice a len cap] 24 (0, 0)) := by rw [hw5]; refine (Below.heap_alloc _ _ _ (by simp)).trans ?_; simpa using World.alloc_heap_new (w4.alloc (.cells #[.int .i64 k, .int .i64 (wrap64 (n + 1)), .string s, .slice a len cap] 24)) (.cells #[.int .i64 k, .int .i64 n, .string s2, .slice a len cap] 24)
  have hb8 : w5.heap[w4.heap.size + 1 + 1]? = some (.cells #[.int .i64 k, .int .i64 n, .string s, .slice a len cap] 24 (0, 0)) := by rw [hw5]; simpa using World.alloc_heap_new ((w4.alloc (.cells #[.int .i64 k, .int .i64 (wrap64 (n + 1)), .string s, .slice a len cap] 24)).alloc (.cells #[.int .i64 k, .int .i64 n, .string s2, .slice a len cap] 24)) (.cells #[.int .i64 k, .int .i64 n, .string s, .slice a len cap] 24)
  have hb2 := tbox_below H4.out.2.1 hB45
  have hb3 := tbox_below H4.out.2.2 hB45
  have HW5 := Lib.hid hw5
  clear hw5
  go_wp2_with fail
  rw [← HW5.out]
  obtain ⟨B8, hB8⟩ : ∃ B8, B8 = w4.heap.size + 1 + 1 := ⟨_, rfl⟩
  rw [← hB8] at hb8 ⊢
  have hl2 : w.heap.size < w4.heap.size := (Array.getElem?_eq_some_iff.1 H4.out.2.1).1
  have hl3 : w.heap.size + 1 < w4.heap.size := (Array.getElem?_eq_some_iff.1 H4.out.2.2).1
  have hAf0 : After w5 B8 k n s w5 := ⟨rfl, rfl, rfl, Nat.le_refl _, fun _ _ _ => rfl, ⟨_, hb8⟩, by omega⟩
  obtain ⟨f, hf⟩ : ∃ f : World → Value, ∀ w', After w5 B8 k n s w' → w'.cell? ⟨B8, 3, none⟩ = some (f w') := ⟨fun w' => (w'.cell? ⟨B8, 3, none⟩).getD undef, fun w' h => h.some.1⟩
  obtain ⟨z0, z1, z2, z3⟩ := tbox_cells hb2
  obtain ⟨t0, t1, t2, t3⟩ := tbox_cells hb3
  have HS : ∀ w', After w5 B8 k n s w' → (w'.cell? ⟨w.heap.size, 3, none⟩ = some (.slice a len cap) ∧ w'.cell? ⟨w.heap.size + 1, 0, none⟩ = some (.int .i64 k') ∧ w'.cell? ⟨w.heap.size + 1, 1, none⟩ = some (.int .i64 n') ∧ w'.cell? ⟨w.heap.size + 1, 2, none⟩ = some (.string s') ∧ w'.cell? ⟨w.heap.size + 1, 3, none⟩ = some (.slice a' len' cap') ∧ w'.cell? ⟨B8, 3, none⟩ = some (f w') ∧ w'.frozen? ⟨B8, 3, none⟩ = false ∧ After w5 B8 k n s w') := fun w' h =>
    ⟨h.cell z3 (by omega), h.cell t0 (by omega), h.cell t1 (by omega), h.cell t2 (by omega), h.cell t3 (by omega), hf w' h, h.some.2, h⟩
  have hkA : TsIn (fun b => b < w4.heap.size) w4 (.slice a len cap) ks := by rw [HAe.out] at hA4; exact TmIn.kids hA4
  have hlks : ks.length ≤ 3000 := by have h1 := Tm.length_le_sizes ks; rw [HAe.out, Tm.size_mk] at hfew; omega
  have hsrcK : ∀ w' (v : Value), After w5 B8 k n s w' → (∀ b, v.ownBlock = some b → w5.heap.size ≤ b) → TsIn (Pv w' B8 v) w' (.slice a len cap) ks := fun w' v h hv =>
    hkA.carry (fun b hb => (h.same b (by omega) (by omega)).trans (hB45.block b hb)) (fun b hb => ⟨Nat.lt_of_lt_of_le (by omega) h.size, fun e => by have := hv b e; omega, by omega⟩)
  have hlit : ∀ w' (Bl : Nat) (v : Value), After w5 B8 k n s w' → w5.heap.size ≤ Bl → w'.heap[Bl]? = some (.cells #[.int .i64 k', .int .i64 n', .string s', .slice a' len' cap'] 24 (0, 0)) → v.ownBlock ≠ some Bl → (∀ b, v.ownBlock = some b → w5.heap.size ≤ b) → TsIn (Pv w' B8 v) w' (.slice (some ⟨Bl, 0, none⟩) 1 1) [B] := fun w' Bl v h hBl hblk hne hv => by
    obtain ⟨c0, c1, c2, c3⟩ := tbox_cells hblk
    refine ⟨some ⟨Bl, 0, none⟩, 1, rfl, by simp, by unfold maxLen; omega, (fun h => by cases h), fun i hi => ?_⟩
    have hi' : i = 0 := by simp at hi; omega
    subst hi'
    exact ⟨Bl, 0, k', n', s', a', len', cap', rfl, ⟨(Array.getElem?_eq_some_iff.1 hblk).1, hne, by omega⟩, c0, c1, c2, c3, hB4.carry (fun b hb => (h.same b (by omega) (by omega)).trans (hB45.block b hb)) (fun b hb => ⟨Nat.lt_of_lt_of_le (by omega) h.size, fun e => by have := hv b e; omega, by omega⟩)⟩
  have hbs : ∀ w', After w5 B8 k n s w' → w5.heap.size ≤ w'.heap.size ∧ B8 < w'.heap.size := fun w' h => ⟨h.size, Nat.lt_of_lt_of_le h.lt h.size⟩
  have H5 := Lib.hid (And.intro hB45 (And.intro hb2 (And.intro hb3 (And.intro hb6 (And.intro hb7 (And.intro hB8 (And.intro hsz5 hkA)))))))
  clear z0 z1 z2 z3 t0 t1 t2 t3 x0 x1 x2 x3 y0 y1 y2 y3 a1 a2 hadd hb2 hb3 hb6 hb7 hb8 hf hkA
  have hB8lt : B8 < w5.heap.size := hAf0.lt
  clear hsz5 hB8
  have hneE : (Value.slice (some ⟨w5.heap.size, 0, none⟩) 0 0).ownBlock ≠ some B8 := by simp [Value.ownBlock]; omega
  have hneV : ∀ v : Value, (∀ b, v.ownBlock = some b → w5.heap.size ≤ b) → v.ownBlock ≠ some B8 := fun v h e => by have := h _ e; omega
  have hownC : OwnTs ((w5.drew.alloc (.cells #[.int .i64 k', .int .i64 n', .string s', .slice a' len' cap'] 24)).alloc (.cells #[] 24)) w5.heap.size B8 (.slice (some ⟨w5.heap.size + 1, 0, none⟩) 0 0) [] := by
    have := OwnTs.empty (w5.drew.alloc (.cells #[.int .i64 k', .int .i64 n', .string s', .slice a' len' cap'] 24)) w5.heap.size B8 (by simp)
    simpa using this
  have hg1sz : ∀ (o : Obj) (wA : World) (r : Option Nat), (w5.drew.alloc o).grownBy wA r → w5.heap.size + 1 ≤ wA.heap.size := fun o wA r h => by have := h.size; simpa using this
  have hlB : ∀ (wA : World), ((w5.drew.alloc (.cells #[] 24)).alloc (.cells #[.int .i64 k', .int .i64 n', .string s', .slice a' len' cap'] 24)).grownBy wA (some w5.heap.size) → wA.heap[w5.heap.size + 1]? = some (.cells #[.int .i64 k', .int .i64 n', .string s', .slice a' len' cap'] 24 (0, 0)) := fun wA h =>
    (h.block _ (by simp) (by simp)).trans (by simpa using World.alloc_heap_new (w5.drew.alloc (.cells #[] 24)) (.cells #[.int .i64 k', .int .i64 n', .string s', .slice a' len' cap'] 24))
  have hlC : ∀ (wA : World), ((w5.drew.alloc (.cells #[.int .i64 k', .int .i64 n', .string s', .slice a' len' cap'] 24)).alloc (.cells #[] 24)).grownBy wA (some (w5.heap.size + 1)) → wA.heap[w5.heap.size]? = some (.cells #[.int .i64 k', .int .i64 n', .string s', .slice a' len' cap'] 24 (0, 0)) := fun wA h =>
    (h.block _ (by simp; omega) (by simp)).trans ((Below.heap_alloc _ _ _ (by simp)).trans (World.alloc_heap_new w5.drew _))
  have hneB : ∀ v : Value, (v.ownBlock = some w5.heap.size ∨ v.ownBlock = some ((w5.drew.alloc (.cells #[] 24)).alloc (.cells #[.int .i64 k', .int .i64 n', .string s', .slice a' len' cap'] 24)).heap.size) → v.ownBlock ≠ some (w5.heap.size + 1) := fun v h e => by
    rcases h with h | h <;> (rw [h] at e; simp at e; try omega)
  have hneC : ∀ v : Value, (v.ownBlock = some (w5.heap.size + 1) ∨ v.ownBlock = some ((w5.drew.alloc (.cells #[.int .i64 k', .int .i64 n', .string s', .slice a' len' cap'] 24)).alloc (.cells #[] 24)).heap.size) → v.ownBlock ≠ some w5.heap.size := fun v h e => by
    rcases h with h | h <;> (rw [h] at e; simp at e; try omega)
  go_region_held3 (fun w' => w'.cell? ⟨w.heap.size, 3, none⟩ = some (.slice a len cap) ∧ w'.cell? ⟨w.heap.size + 1, 0, none⟩ = some (.int .i64 k') ∧ w'.cell? ⟨w.heap.size + 1, 1, none⟩ = some (.int .i64 n') ∧ w'.cell? ⟨w.heap.size + 1, 2, none⟩ = some (.string s') ∧ w'.cell? ⟨w.heap.size + 1, 3, none⟩ = some (.slice a' len' cap') ∧ w'.cell? ⟨B8, 3, none⟩ = some (f w') ∧ w'.frozen? ⟨B8, 3, none⟩ = false ∧ After w5 B8 k n s w')
    (first
      | exact HS _ hAf0.drew
      | (go_split_ands; exact HS _ (After.alloc (by assumption) _))
      | (go_split_ands; exact HS _ (After.grown (by assumption) hg2 ho1.lt))
      | (go_split_ands; exact HS _ (After.grown (by assumption) hg1 (by intro b e; cases e; simp)))
      | (go_split_ands; exact HS _ (After.set (by assumption) _)))
    (first
      | (refine step_append_ts rfl (.tmp 31) (.tmp 33) rfl w5.heap.size B8 (.slice (some ⟨w5.heap.size, 0, none⟩) 0 0) _ [] ks rfl rfl (OwnTs.empty w5.drew _ _ (Nat.le_refl _)) (hsrcK _ _ (by go_split_ands; assumption) (by intro b e; cases e; simp)) (by simp; omega) (hbs _ (by go_split_ands; assumption)).1 (hbs _ (by go_split_ands; assumption)).2 ?_; intro v1 wA ho1 hg1 hat1; rw [List.nil_append] at ho1; obtain ⟨a1', c1', e1⟩ := ho1.form; subst e1)
      | (refine step_append_ts rfl (.tmp 31) (.tmp 33) rfl w5.heap.size B8 (.slice (some ⟨w5.heap.size, 0, none⟩) 0 0) _ [] ks rfl rfl ((OwnTs.empty w5.drew _ _ (Nat.le_refl _)).alloc hneE _) (hsrcK _ _ (by go_split_ands; assumption) (by intro b e; cases e; simp)) (by simp; omega) (hbs _ (by go_split_ands; assumption)).1 (hbs _ (by go_split_ands; assumption)).2 ?_; intro v1 wA ho1 hg1 hat1; rw [List.nil_append] at ho1; obtain ⟨a1', c1', e1⟩ := ho1.form; subst e1)
      | (refine step_append_ts rfl (.tmp 31) (.tmp 33) rfl w5.heap.size B8 (.slice (some ⟨w5.heap.size + 1, 0, none⟩) 0 0) _ [] ks rfl rfl hownC (hsrcK _ _ (by go_split_ands; assumption) (by intro b e; cases e; simp)) (by simp; omega) (hbs _ (by go_split_ands; assumption)).1 (hbs _ (by go_split_ands; assumption)).2 ?_; intro v1 wA ho1 hg1 hat1; rw [List.nil_append] at ho1; obtain ⟨a1', c1', e1⟩ := ho1.form; subst e1)
      | (refine step_append_ts rfl (.tmp 34) (.tmp 36) rfl w5.heap.size B8 (.slice a1' ks.length c1') _ ks [B] rfl rfl (ho1.alloc (hneV _ ho1.lt) _) (hlit _ _ _ (by go_split_ands; assumption) (Nat.le_trans (Nat.le_succ _) (hg1sz _ _ _ hg1)) (World.alloc_heap_new _ _) (fun e => Nat.lt_irrefl _ (ho1.lt2 _ e)) ho1.lt) (by simp; omega) (hbs _ (by go_split_ands; assumption)).1 (hbs _ (by go_split_ands; assumption)).2 ?_; intro v2 wB ho2 hg2 hat2; obtain ⟨a2', c2', e2⟩ := ho2.form; subst e2)
      | (refine step_append_ts rfl (.tmp 34) (.tmp 36) rfl w5.heap.size B8 (.slice a1' ks.length c1') _ ks [B] rfl rfl ho1 (hlit _ (w5.heap.size + 1) _ (by go_split_ands; assumption) (Nat.le_succ _) (hlB _ hg1) (hneB _ hat1) ho1.lt) (by simp; omega) (hbs _ (by go_split_ands; assumption)).1 (hbs _ (by go_split_ands; assumption)).2 ?_; intro v2 wB ho2 hg2 hat2; obtain ⟨a2', c2', e2⟩ := ho2.form; subst e2)
      | (refine step_append_ts rfl (.tmp 34) (.tmp 36) rfl w5.heap.size B8 (.slice a1' ks.length c1') _ ks [B] rfl rfl ho1 (hlit _ w5.heap.size _ (by go_split_ands; assumption) (Nat.le_refl _) (hlC _ hg1) (hneC _ hat1) ho1.lt) (by simp; omega) (hbs _ (by go_split_ands; assumption)).1 (hbs _ (by go_split_ands; assumption)).2 ?_; intro v2 wB ho2 hg2 hat2; obtain ⟨a2', c2', e2⟩ := ho2.form; subst e2))
  · have hAf6 : After w5 B8 k n s (wB.setCell ⟨B8, 3, none⟩ (.slice a2' (ks.length + 1) c2')) := by go_split_ands; assumption
    have hz6 : (wB.setCell ⟨B8, 3, none⟩ (.slice a2' (ks.length + 1) c2')).heap[B8]? = some (.cells #[.int .i64 k, .int .i64 n, .string s, .slice a2' (ks.length + 1) c2'] 24 (0, 0)) := by
      obtain ⟨v0, hv0⟩ := hAf6.box
      rw [hv0, set_inv hv0]
    have hlen6 : (ks ++ [B]).length = ks.length + 1 := by simp
    rw [hlen6] at ho2
    have ho6 : OwnTs (wB.setCell ⟨B8, 3, none⟩ (.slice a2' (ks.length + 1) c2')) w5.heap.size B8 (.slice a2' (ks.length + 1) c2') (ks ++ [B]) :=
      ho2.kept (by simp) (fun b _ hb => Below.heap_setCell wB ⟨B8, 3, none⟩ _ b hb) (hneV _ ho2.lt)
    generalize hW6 : (wB.setCell ⟨B8, 3, none⟩ (.slice a2' (ks.length + 1) c2')) = w6 at hz6 hAf6 ho6 ⊢
    obtain ⟨lz, hlz⟩ : ∃ lz, ks.length + 1 = lz := ⟨_, rfl⟩
    rw [hlz] at hz6 ho6 ⊢
    clear hW6 hlz hlen6
    rename_i hHeld0
    clear hHeld0
    clear ho2 hg2 hat2 ho1 hg1 hat1
    obtain ⟨hB45, hb2, hb3, hb6, hb7, hB8, hsz5, hkA⟩ := H5.out
    have hc2 := (hAf6.same _ (by omega) (by omega)).trans hb2
    have hc3 := (hAf6.same _ (by omega) (by omega)).trans hb3
    have hc6 := (hAf6.same _ (by omega) (by omega)).trans hb6
    have hc7 := (hAf6.same _ (by omega) (by omega)).trans hb7
    have car : ∀ b, b < w4.heap.size → w6.heap[b]? = w4.heap[b]? := fun b hb => (hAf6.same b (by omega) (by omega)).trans (hB45.block b hb)
    have siz : w4.heap.size ≤ w6.heap.size := by have := hAf6.size; omega
    have hA6 : Has w6 (.agg #[.int .i64 k, .int .i64 n, .string s, .slice a len cap]) A := hA4.carry car (fun b hb => Nat.lt_of_lt_of_le hb siz)
    have hB6 : Has w6 (.agg #[.int .i64 k', .int .i64 n', .string s', .slice a' len' cap']) B := hB4.carry car (fun b hb => Nat.lt_of_lt_of_le hb siz)
    have hk6 : TsIn (fun b => b < w6.heap.size) w6 (.slice a len cap) ks := hkA.carry car (fun b hb => Nat.lt_of_lt_of_le hb siz)
    obtain ⟨hki, hni, hsi⟩ := has_ok hA4
    have hs2s : s2.size = s.size + 1 := by rw [HS2.out]; simp [ByteArray.size_append]; rfl
    have hX6 : Has w6 (.agg #[.int .i64 k, .int .i64 (wrap64 (n + 1)), .string s, .slice a len cap]) (.mk k (wrap64 (n + 1)) s ks) := hk6.term hki (wrap64_ok _) hsi
    have hY6 : Has w6 (.agg #[.int .i64 k, .int .i64 n, .string s2, .slice a len cap]) (.mk k n s2 ks) := hk6.term hki hni (by unfold maxLen; omega)
    have hZ6 : Has w6 (.agg #[.int .i64 k, .int .i64 n, .string s, .slice a2' lz c2']) (.mk k n s (ks ++ [B])) := ho6.ts.term hki hni hsi
    have hAm := HAe.out
    have hzA : ∀ (m : Int) (t : ByteArray), (Tm.mk k m t ks).size ≤ 1000000000000 := fun m t => by rw [Tm.size_mk]; rw [hAm, Tm.size_mk] at hfew; omega
    have hzZ : (Tm.mk k n s (ks ++ [B])).size ≤ 1000000000000 := by rw [Tm.size_mk, Tm.sizes_append, Tm.sizes_cons, Tm.sizes_nil]; rw [hAm, Tm.size_mk] at hfew; omega
    have neX : ¬ (A = Tm.mk k (wrap64 (n + 1)) s ks) := fun e => by
      rw [hAm] at e; injection e with _ e2; simp only [wrap64] at e2; have := hni.1; have := hni.2; omega
    have neY : ¬ (A = Tm.mk k n s2 ks) := fun e => by
      rw [hAm] at e; injection e with _ _ e3; rw [← e3] at hs2s; omega
    have neZ : ¬ (A = Tm.mk k n s (ks ++ [B])) := fun e => by
      rw [hAm] at e; injection e with _ _ _ e4; have := congrArg List.length e4; simp at this
    have l2 : w.heap.size < w6.heap.size := (Array.getElem?_eq_some_iff.1 hc2).1
    have l3 : w.heap.size + 1 < w6.heap.size := (Array.getElem?_eq_some_iff.1 hc3).1
    have l6 : w4.heap.size < w6.heap.size := (Array.getElem?_eq_some_iff.1 hc6).1
    have l7 : w4.heap.size + 1 < w6.heap.size := (Array.getElem?_eq_some_iff.1 hc7).1
    have l8 : B8 < w6.heap.size := (Array.getElem?_eq_some_iff.1 hz6).1
    obtain ⟨p0, p1, p2, p3⟩ := tbox_cells hc2
    obtain ⟨q0, q1, q2, q3⟩ := tbox_cells hc3
    obtain ⟨r0, r1, r2, r3⟩ := tbox_cells hc6
    obtain ⟨u0, u1, u2, u3⟩ := tbox_cells hc7
    obtain ⟨v0, v1, v2, v3⟩ := tbox_cells hz6
    have HBw : Hid (Below w.heap.size w w6) := by
      have h1 := H4.out.1
      have h2 : Below w.heap.size w4 w6 := ⟨hAf6.os.trans hB45.os, hAf6.tape.trans hB45.tape, hAf6.output.trans hB45.output, siz, fun b hb => car b (by omega)⟩
      exact h1.trans h2
    have c1 : ∀ w', Below w6.heap.size w6 w' → Calls Try.prog 21 #[.agg #[.int .i64 k, .int .i64 n, .string s, .slice a len cap], .agg #[.int .i64 k', .int .i64 n', .string s', .slice a' len' cap']] w' fun r w'' => r = .returned (.bool (decide (A = B))) ∧ Below w'.heap.size w' w'' ∧ Below w6.heap.size w6 w'' := fun w' hb =>
      (same_at A B _ _ w' (Has.below hA6 hb) (Has.below hB6 hb) hs ht).mono fun r w'' h => ⟨h.1, h.2, hb.trans (h.2.mono hb.size)⟩
    have ctt : ∀ w', Below w6.heap.size w6 w' → Calls Try.prog 21 #[.agg #[.int .i64 k, .int .i64 n, .string s, .slice a len cap], .agg #[.int .i64 k, .int .i64 n, .string s, .slice a len cap]] w' (Gets w' (.bool true)) := fun w' hb =>
      (same_at A A _ _ w' (Has.below hA6 hb) (Has.below hA6 hb) hs hs).mono fun r w'' h => ⟨by rw [h.1, decide_eq_true rfl], h.2⟩
    have ctx : ∀ w', Below w6.heap.size w6 w' → Calls Try.prog 21 #[.agg #[.int .i64 k, .int .i64 n, .string s, .slice a len cap], .agg #[.int .i64 k, .int .i64 (wrap64 (n + 1)), .string s, .slice a len cap]] w' (Gets w' (.bool false)) := fun w' hb =>
      (same_at A _ _ _ w' (Has.below hA6 hb) (Has.below hX6 hb) hs (hzA _ _)).mono fun r w'' h => ⟨by rw [h.1, decide_eq_false neX], h.2⟩
    have cty : ∀ w', Below w6.heap.size w6 w' → Calls Try.prog 21 #[.agg #[.int .i64 k, .int .i64 n, .string s, .slice a len cap], .agg #[.int .i64 k, .int .i64 n, .string s2, .slice a len cap]] w' (Gets w' (.bool false)) := fun w' hb =>
      (same_at A _ _ _ w' (Has.below hA6 hb) (Has.below hY6 hb) hs (hzA _ _)).mono fun r w'' h => ⟨by rw [h.1, decide_eq_false neY], h.2⟩
    have ctz : ∀ w', Below w6.heap.size w6 w' → Calls Try.prog 21 #[.agg #[.int .i64 k, .int .i64 n, .string s, .slice a len cap], .agg #[.int .i64 k, .int .i64 n, .string s, .slice a2' lz c2']] w' (Gets w' (.bool false)) := fun w' hb =>
      (same_at A _ _ _ w' (Has.below hA6 hb) (Has.below hZ6 hb) hs hzZ).mono fun r w'' h => ⟨by rw [h.1, decide_eq_false neZ], h.2⟩
    clear HS hsrcK hlit hbs hneE hneV hownC hg1sz hlB hlC hneB hneC hAf0 hB8lt hAe f hB8 hsz5 siz HW5 H5 H4 hA4 hB4 hl2 hl3 hsb hnm HS2
    clear hX6 hY6 hZ6 ho6 hk6 hzA hzZ neX neY neZ hAf6 car hB45 hkA hs2s hb2 hb3 hb6 hb7 hz6 hc2 hc3 hc6 hc7 hki hni hsi hAm
    have HS : ∀ w', Below w6.heap.size w6 w' → (w'.cell? ⟨w.heap.size, 0, none⟩ = some (.int .i64 k) ∧ w'.cell? ⟨w.heap.size, 1, none⟩ = some (.int .i64 n) ∧ w'.cell? ⟨w.heap.size, 2, none⟩ = some (.string s) ∧ w'.cell? ⟨w.heap.size, 3, none⟩ = some (.slice a len cap) ∧ w'.cell? ⟨w.heap.size + 1, 0, none⟩ = some (.int .i64 k') ∧ w'.cell? ⟨w.heap.size + 1, 1, none⟩ = some (.int .i64 n') ∧ w'.cell? ⟨w.heap.size + 1, 2, none⟩ = some (.string s') ∧ w'.cell? ⟨w.heap.size + 1, 3, none⟩ = some (.slice a' len' cap') ∧ w'.cell? ⟨w4.heap.size, 0, none⟩ = some (.int .i64 k) ∧ w'.cell? ⟨w4.heap.size, 1, none⟩ = some (.int .i64 (wrap64 (n + 1))) ∧ w'.cell? ⟨w4.heap.size, 2, none⟩ = some (.string s) ∧ w'.cell? ⟨w4.heap.size, 3, none⟩ = some (.slice a len cap) ∧ w'.cell? ⟨w4.heap.size + 1, 0, none⟩ = some (.int .i64 k) ∧ w'.cell? ⟨w4.heap.size + 1, 1, none⟩ = some (.int .i64 n) ∧ w'.cell? ⟨w4.heap.size + 1, 2, none⟩ = some (.string s2) ∧ w'.cell? ⟨w4.heap.size + 1, 3, none⟩ = some (.slice a len cap) ∧ w'.cell? ⟨B8, 0, none⟩ = some (.int .i64 k) ∧ w'.cell? ⟨B8, 1, none⟩ = some (.int .i64 n) ∧ w'.cell? ⟨B8, 2, none⟩ = some (.string s) ∧ w'.cell? ⟨B8, 3, none⟩ = some (.slice a2' lz c2') ∧ Below w6.heap.size w6 w') := fun w' hb =>
      ⟨(hb.cell (p := ⟨_, _, none⟩) l2).trans p0, (hb.cell (p := ⟨_, _, none⟩) l2).trans p1, (hb.cell (p := ⟨_, _, none⟩) l2).trans p2, (hb.cell (p := ⟨_, _, none⟩) l2).trans p3, (hb.cell (p := ⟨_, _, none⟩) l3).trans q0, (hb.cell (p := ⟨_, _, none⟩) l3).trans q1, (hb.cell (p := ⟨_, _, none⟩) l3).trans q2, (hb.cell (p := ⟨_, _, none⟩) l3).trans q3, (hb.cell (p := ⟨_, _, none⟩) l6).trans r0, (hb.cell (p := ⟨_, _, none⟩) l6).trans r1, (hb.cell (p := ⟨_, _, none⟩) l6).trans r2, (hb.cell (p := ⟨_, _, none⟩) l6).trans r3, (hb.cell (p := ⟨_, _, none⟩) l7).trans u0, (hb.cell (p := ⟨_, _, none⟩) l7).trans u1, (hb.cell (p := ⟨_, _, none⟩) l7).trans u2, (hb.cell (p := ⟨_, _, none⟩) l7).trans u3, (hb.cell (p := ⟨_, _, none⟩) l8).trans v0, (hb.cell (p := ⟨_, _, none⟩) l8).trans v1, (hb.cell (p := ⟨_, _, none⟩) l8).trans v2, (hb.cell (p := ⟨_, _, none⟩) l8).trans v3, hb⟩
    go_wp2_with fail
    refine (c1 w6 (Below.refl _ _)).mono ?_
    rintro r w7 ⟨rfl, hb67, _⟩
    clear c1
    have HB7 := Lib.hid hb67
    have cut : ∀ w', Below w6.heap.size w6 w' → Calls Try.prog 21 #[.agg #[.int .i64 k', .int .i64 n', .string s', .slice a' len' cap'], .agg #[.int .i64 k, .int .i64 n, .string s, .slice a len cap]] w' (Gets w' (.bool (decide (A = B)))) := fun w' hb =>
      (same_at B A _ _ w' (Has.below hB6 hb) (Has.below hA6 hb) ht hs).mono fun r w'' h => ⟨by rw [h.1]; exact congrArg (fun b => Ending.returned (Value.bool b)) (decide_eq_decide.2 ⟨fun e => e.symm, fun e => e.symm⟩), h.2⟩
    by_cases hAB : A = B
    · have hs4 : A.size ≤ 4000000000000000000 := by omega
      have ht4 : B.size ≤ 4000000000000000000 := by omega
      obtain ⟨sz, hsz⟩ : ∃ sz, A.size = sz := ⟨_, rfl⟩
      obtain ⟨dp, hdp⟩ : ∃ dp, A.deep = dp := ⟨_, rfl⟩
      have cst : ∀ w', Below w6.heap.size w6 w' → Calls Try.prog 14 #[.agg #[.int .i64 k, .int .i64 n, .string s, .slice a len cap]] w' (Gets w' (.int .i64 (sz : Int))) := fun w' hb =>
        (size_at _ A w' (Has.below hA6 hb) hs4).mono fun r w'' h => ⟨by rw [h.1, hsz], h.2⟩
      have csu : ∀ w', Below w6.heap.size w6 w' → Calls Try.prog 14 #[.agg #[.int .i64 k', .int .i64 n', .string s', .slice a' len' cap']] w' (Gets w' (.int .i64 (sz : Int))) := fun w' hb =>
        (size_at _ B w' (Has.below hB6 hb) ht4).mono fun r w'' h => ⟨by rw [h.1, ← hAB, hsz], h.2⟩
      have cdt : ∀ w', Below w6.heap.size w6 w' → Calls Try.prog 16 #[.agg #[.int .i64 k, .int .i64 n, .string s, .slice a len cap]] w' (Gets w' (.int .i64 (dp : Int))) := fun w' hb =>
        (deep_at _ A w' (Has.below hA6 hb) hs4).mono fun r w'' h => ⟨by rw [h.1, hdp], h.2⟩
      have cdu : ∀ w', Below w6.heap.size w6 w' → Calls Try.prog 16 #[.agg #[.int .i64 k', .int .i64 n', .string s', .slice a' len' cap']] w' (Gets w' (.int .i64 (dp : Int))) := fun w' hb =>
        (deep_at _ B w' (Has.below hB6 hb) ht4).mono fun r w'' h => ⟨by rw [h.1, ← hAB, hdp], h.2⟩
      rw [decide_eq_true hAB] at cut ⊢
      clear hAB hA6 hB6 hs ht hs4 ht4 hsz hdp hb67 hfew hfew2 HAe HK p0 p1 p2 p3 q0 q1 q2 q3 r0 r1 r2 r3 u0 u1 u2 u3 v0 v1 v2 v3
      obtain ⟨I, inst, F, n0, hF0, hFb, hFc⟩ := later_family w7
      have hF6 : ∀ i, Below w6.heap.size w6 (F i) := fun i => HB7.out.trans ((hFb i).mono HB7.out.size)
      have K := fun i => HS _ (hF6 i)
      have k0 := fun i => (K i).1
      have k1 := fun i => (K i).2.1
      have k2 := fun i => (K i).2.2.1
      have k3 := fun i => (K i).2.2.2.1
      have k4 := fun i => (K i).2.2.2.2.1
      have k5 := fun i => (K i).2.2.2.2.2.1
      have k6 := fun i => (K i).2.2.2.2.2.2.1
      have k7 := fun i => (K i).2.2.2.2.2.2.2.1
      have k8 := fun i => (K i).2.2.2.2.2.2.2.2.1
      have k9 := fun i => (K i).2.2.2.2.2.2.2.2.2.1
      have k10 := fun i => (K i).2.2.2.2.2.2.2.2.2.2.1
      have k11 := fun i => (K i).2.2.2.2.2.2.2.2.2.2.2.1
      have k12 := fun i => (K i).2.2.2.2.2.2.2.2.2.2.2.2.1
      have k13 := fun i => (K i).2.2.2.2.2.2.2.2.2.2.2.2.2.1
      have k14 := fun i => (K i).2.2.2.2.2.2.2.2.2.2.2.2.2.2.1
      have k15 := fun i => (K i).2.2.2.2.2.2.2.2.2.2.2.2.2.2.2.1
      have k16 := fun i => (K i).2.2.2.2.2.2.2.2.2.2.2.2.2.2.2.2.1
      have k17 := fun i => (K i).2.2.2.2.2.2.2.2.2.2.2.2.2.2.2.2.2.1
      have k18 := fun i => (K i).2.2.2.2.2.2.2.2.2.2.2.2.2.2.2.2.2.2.1
      have k19 := fun i => (K i).2.2.2.2.2.2.2.2.2.2.2.2.2.2.2.2.2.2.2.1
      have Cctt := Lib.hid (fun i => calls_fam hFc i (ctt _ (hF6 i)))
      have Cctx := Lib.hid (fun i => calls_fam hFc i (ctx _ (hF6 i)))
      have Ccty := Lib.hid (fun i => calls_fam hFc i (cty _ (hF6 i)))
      have Cctz := Lib.hid (fun i => calls_fam hFc i (ctz _ (hF6 i)))
      have Ccut := Lib.hid (fun i => calls_fam hFc i (cut _ (hF6 i)))
      have Ccst := Lib.hid (fun i => calls_fam hFc i (cst _ (hF6 i)))
      have Ccsu := Lib.hid (fun i => calls_fam hFc i (csu _ (hF6 i)))
      have Ccdt := Lib.hid (fun i => calls_fam hFc i (cdt _ (hF6 i)))
      have Ccdu := Lib.hid (fun i => calls_fam hFc i (cdu _ (hF6 i)))
      have HF := Lib.hid hF6
      clear K HS hFb hFc hF6 ctt ctx cty ctz cut cst csu cdt cdu
      go_wp2_with fail
      refine wp_region_fam F n0 hF0 (by kernel_rfl) (by kernel_rfl) ?_
      clear hF0
      repeat (go_big_quiet_step (first | (go_at_call 21; (with_reducible exact Cctt.out _)) | (go_at_call 21; (with_reducible exact Cctx.out _)) | (go_at_call 21; (with_reducible exact Ccty.out _)) | (go_at_call 21; (with_reducible exact Cctz.out _)) | (go_at_call 21; (with_reducible exact Ccut.out _)) | (go_at_call 14; (with_reducible exact Ccst.out _)) | (go_at_call 14; (with_reducible exact Ccsu.out _)) | (go_at_call 16; (with_reducible exact Ccdt.out _)) | (go_at_call 16; (with_reducible exact Ccdu.out _))))
      refine wpQuiet_nil ?_
      intro _ hw'
      obtain ⟨nq, hw''⟩ := hw'
      subst hw''
      go_wp2_with fail
      go_ret
      exact ⟨rfl, HBw.out.trans ((HF.out nq).mono HBw.out.size)⟩
    · rw [decide_eq_false hAB] at cut ⊢
      clear hAB hA6 hB6 hs ht hb67 hfew hfew2 HAe HK p0 p1 p2 p3 q0 q1 q2 q3 r0 r1 r2 r3 u0 u1 u2 u3 v0 v1 v2 v3
      obtain ⟨I, inst, F, n0, hF0, hFb, hFc⟩ := later_family w7
      have hF6 : ∀ i, Below w6.heap.size w6 (F i) := fun i => HB7.out.trans ((hFb i).mono HB7.out.size)
      have K := fun i => HS _ (hF6 i)
      have k0 := fun i => (K i).1
      have k1 := fun i => (K i).2.1
      have k2 := fun i => (K i).2.2.1
      have k3 := fun i => (K i).2.2.2.1
      have k4 := fun i => (K i).2.2.2.2.1
      have k5 := fun i => (K i).2.2.2.2.2.1
      have k6 := fun i => (K i).2.2.2.2.2.2.1
      have k7 := fun i => (K i).2.2.2.2.2.2.2.1
      have k8 := fun i => (K i).2.2.2.2.2.2.2.2.1
      have k9 := fun i => (K i).2.2.2.2.2.2.2.2.2.1
      have k10 := fun i => (K i).2.2.2.2.2.2.2.2.2.2.1
      have k11 := fun i => (K i).2.2.2.2.2.2.2.2.2.2.2.1
      have k12 := fun i => (K i).2.2.2.2.2.2.2.2.2.2.2.2.1
      have k13 := fun i => (K i).2.2.2.2.2.2.2.2.2.2.2.2.2.1
      have k14 := fun i => (K i).2.2.2.2.2.2.2.2.2.2.2.2.2.2.1
      have k15 := fun i => (K i).2.2.2.2.2.2.2.2.2.2.2.2.2.2.2.1
      have k16 := fun i => (K i).2.2.2.2.2.2.2.2.2.2.2.2.2.2.2.2.1
      have k17 := fun i => (K i).2.2.2.2.2.2.2.2.2.2.2.2.2.2.2.2.2.1
      have k18 := fun i => (K i).2.2.2.2.2.2.2.2.2.2.2.2.2.2.2.2.2.2.1
      have k19 := fun i => (K i).2.2.2.2.2.2.2.2.2.2.2.2.2.2.2.2.2.2.2.1
      have Cctt := Lib.hid (fun i => calls_fam hFc i (ctt _ (hF6 i)))
      have Cctx := Lib.hid (fun i => calls_fam hFc i (ctx _ (hF6 i)))
      have Ccty := Lib.hid (fun i => calls_fam hFc i (cty _ (hF6 i)))
      have Cctz := Lib.hid (fun i => calls_fam hFc i (ctz _ (hF6 i)))
      have Ccut := Lib.hid (fun i => calls_fam hFc i (cut _ (hF6 i)))
      have HF := Lib.hid hF6
      clear K HS hFb hFc hF6 ctt ctx cty ctz cut
      go_wp2_with fail
      refine wp_region_fam F n0 hF0 (by kernel_rfl) (by kernel_rfl) ?_
      clear hF0
      repeat (go_big_quiet_step (first | (go_at_call 21; (with_reducible exact Cctt.out _)) | (go_at_call 21; (with_reducible exact Cctx.out _)) | (go_at_call 21; (with_reducible exact Ccty.out _)) | (go_at_call 21; (with_reducible exact Cctz.out _)) | (go_at_call 21; (with_reducible exact Ccut.out _))))
      refine wpQuiet_nil ?_
      intro _ hw'
      obtain ⟨nq, hw''⟩ := hw'
      subst hw''
      go_wp2_with fail
      go_ret
      exact ⟨rfl, HBw.out.trans ((HF.out nq).mono HBw.out.size)⟩
  · have hAf6 : After w5 B8 k n s (wB.setCell ⟨B8, 3, none⟩ (.slice a2' (ks.length + 1) c2')) := by go_split_ands; assumption
    have hz6 : (wB.setCell ⟨B8, 3, none⟩ (.slice a2' (ks.length + 1) c2')).heap[B8]? = some (.cells #[.int .i64 k, .int .i64 n, .string s, .slice a2' (ks.length + 1) c2'] 24 (0, 0)) := by
      obtain ⟨v0, hv0⟩ := hAf6.box
      rw [hv0, set_inv hv0]
    have hlen6 : (ks ++ [B]).length = ks.length + 1 := by simp
    rw [hlen6] at ho2
    have ho6 : OwnTs (wB.setCell ⟨B8, 3, none⟩ (.slice a2' (ks.length + 1) c2')) w5.heap.size B8 (.slice a2' (ks.length + 1) c2') (ks ++ [B]) :=
      ho2.kept (by simp) (fun b _ hb => Below.heap_setCell wB ⟨B8, 3, none⟩ _ b hb) (hneV _ ho2.lt)
    generalize hW6 : (wB.setCell ⟨B8, 3, none⟩ (.slice a2' (ks.length + 1) c2')) = w6 at hz6 hAf6 ho6 ⊢
    obtain ⟨lz, hlz⟩ : ∃ lz, ks.length + 1 = lz := ⟨_, rfl⟩
    rw [hlz] at hz6 ho6 ⊢
    clear hW6 hlz hlen6
    rename_i hHeld0
    clear hHeld0
    clear ho2 hg2 hat2 ho1 hg1 hat1
    obtain ⟨hB45, hb2, hb3, hb6, hb7, hB8, hsz5, hkA⟩ := H5.out
    have hc2 := (hAf6.same _ (by omega) (by omega)).trans hb2
    have hc3 := (hAf6.same _ (by omega) (by omega)).trans hb3
    have hc6 := (hAf6.same _ (by omega) (by omega)).trans hb6
    have hc7 := (hAf6.same _ (by omega) (by omega)).trans hb7
    have car : ∀ b, b < w4.heap.size → w6.heap[b]? = w4.heap[b]? := fun b hb => (hAf6.same b (by omega) (by omega)).trans (hB45.block b hb)
    have siz : w4.heap.size ≤ w6.heap.size := by have := hAf6.size; omega
    have hA6 : Has w6 (.agg #[.int .i64 k, .int .i64 n, .string s, .slice a len cap]) A := hA4.carry car (fun b hb => Nat.lt_of_lt_of_le hb siz)
    have hB6 : Has w6 (.agg #[.int .i64 k', .int .i64 n', .string s', .slice a' len' cap']) B := hB4.carry car (fun b hb => Nat.lt_of_lt_of_le hb siz)
    have hk6 : TsIn (fun b => b < w6.heap.size) w6 (.slice a len cap) ks := hkA.carry car (fun b hb => Nat.lt_of_lt_of_le hb siz)
    obtain ⟨hki, hni, hsi⟩ := has_ok hA4
    have hs2s : s2.size = s.size + 1 := by rw [HS2.out]; simp [ByteArray.size_append]; rfl
    have hX6 : Has w6 (.agg #[.int .i64 k, .int .i64 (wrap64 (n + 1)), .string s, .slice a len cap]) (.mk k (wrap64 (n + 1)) s ks) := hk6.term hki (wrap64_ok _) hsi
    have hY6 : Has w6 (.agg #[.int .i64 k, .int .i64 n, .string s2, .slice a len cap]) (.mk k n s2 ks) := hk6.term hki hni (by unfold maxLen; omega)
    have hZ6 : Has w6 (.agg #[.int .i64 k, .int .i64 n, .string s, .slice a2' lz c2']) (.mk k n s (ks ++ [B])) := ho6.ts.term hki hni hsi
    have hAm := HAe.out
    have hzA : ∀ (m : Int) (t : ByteArray), (Tm.mk k m t ks).size ≤ 1000000000000 := fun m t => by rw [Tm.size_mk]; rw [hAm, Tm.size_mk] at hfew; omega
    have hzZ : (Tm.mk k n s (ks ++ [B])).size ≤ 1000000000000 := by rw [Tm.size_mk, Tm.sizes_append, Tm.sizes_cons, Tm.sizes_nil]; rw [hAm, Tm.size_mk] at hfew; omega
    have neX : ¬ (A = Tm.mk k (wrap64 (n + 1)) s ks) := fun e => by
      rw [hAm] at e; injection e with _ e2; simp only [wrap64] at e2; have := hni.1; have := hni.2; omega
    have neY : ¬ (A = Tm.mk k n s2 ks) := fun e => by
      rw [hAm] at e; injection e with _ _ e3; rw [← e3] at hs2s; omega
    have neZ : ¬ (A = Tm.mk k n s (ks ++ [B])) := fun e => by
      rw [hAm] at e; injection e with _ _ _ e4; have := congrArg List.length e4; simp at this
    have l2 : w.heap.size < w6.heap.size := (Array.getElem?_eq_some_iff.1 hc2).1
    have l3 : w.heap.size + 1 < w6.heap.size := (Array.getElem?_eq_some_iff.1 hc3).1
    have l6 : w4.heap.size < w6.heap.size := (Array.getElem?_eq_some_iff.1 hc6).1
    have l7 : w4.heap.size + 1 < w6.heap.size := (Array.getElem?_eq_some_iff.1 hc7).1
    have l8 : B8 < w6.heap.size := (Array.getElem?_eq_some_iff.1 hz6).1
    obtain ⟨p0, p1, p2, p3⟩ := tbox_cells hc2
    obtain ⟨q0, q1, q2, q3⟩ := tbox_cells hc3
    obtain ⟨r0, r1, r2, r3⟩ := tbox_cells hc6
    obtain ⟨u0, u1, u2, u3⟩ := tbox_cells hc7
    obtain ⟨v0, v1, v2, v3⟩ := tbox_cells hz6
    have HBw : Hid (Below w.heap.size w w6) := by
      have h1 := H4.out.1
      have h2 : Below w.heap.size w4 w6 := ⟨hAf6.os.trans hB45.os, hAf6.tape.trans hB45.tape, hAf6.output.trans hB45.output, siz, fun b hb => car b (by omega)⟩
      exact h1.trans h2
    have c1 : ∀ w', Below w6.heap.size w6 w' → Calls Try.prog 21 #[.agg #[.int .i64 k, .int .i64 n, .string s, .slice a len cap], .agg #[.int .i64 k', .int .i64 n', .string s', .slice a' len' cap']] w' fun r w'' => r = .returned (.bool (decide (A = B))) ∧ Below w'.heap.size w' w'' ∧ Below w6.heap.size w6 w'' := fun w' hb =>
      (same_at A B _ _ w' (Has.below hA6 hb) (Has.below hB6 hb) hs ht).mono fun r w'' h => ⟨h.1, h.2, hb.trans (h.2.mono hb.size)⟩
    have ctt : ∀ w', Below w6.heap.size w6 w' → Calls Try.prog 21 #[.agg #[.int .i64 k, .int .i64 n, .string s, .slice a len cap], .agg #[.int .i64 k, .int .i64 n, .string s, .slice a len cap]] w' (Gets w' (.bool true)) := fun w' hb =>
      (same_at A A _ _ w' (Has.below hA6 hb) (Has.below hA6 hb) hs hs).mono fun r w'' h => ⟨by rw [h.1, decide_eq_true rfl], h.2⟩
    have ctx : ∀ w', Below w6.heap.size w6 w' → Calls Try.prog 21 #[.agg #[.int .i64 k, .int .i64 n, .string s, .slice a len cap], .agg #[.int .i64 k, .int .i64 (wrap64 (n + 1)), .string s, .slice a len cap]] w' (Gets w' (.bool false)) := fun w' hb =>
      (same_at A _ _ _ w' (Has.below hA6 hb) (Has.below hX6 hb) hs (hzA _ _)).mono fun r w'' h => ⟨by rw [h.1, decide_eq_false neX], h.2⟩
    have cty : ∀ w', Below w6.heap.size w6 w' → Calls Try.prog 21 #[.agg #[.int .i64 k, .int .i64 n, .string s, .slice a len cap], .agg #[.int .i64 k, .int .i64 n, .string s2, .slice a len cap]] w' (Gets w' (.bool false)) := fun w' hb =>
      (same_at A _ _ _ w' (Has.below hA6 hb) (Has.below hY6 hb) hs (hzA _ _)).mono fun r w'' h => ⟨by rw [h.1, decide_eq_false neY], h.2⟩
    have ctz : ∀ w', Below w6.heap.size w6 w' → Calls Try.prog 21 #[.agg #[.int .i64 k, .int .i64 n, .string s, .slice a len cap], .agg #[.int .i64 k, .int .i64 n, .string s, .slice a2' lz c2']] w' (Gets w' (.bool false)) := fun w' hb =>
      (same_at A _ _ _ w' (Has.below hA6 hb) (Has.below hZ6 hb) hs hzZ).mono fun r w'' h => ⟨by rw [h.1, decide_eq_false neZ], h.2⟩
    clear HS hsrcK hlit hbs hneE hneV hownC hg1sz hlB hlC hneB hneC hAf0 hB8lt hAe f hB8 hsz5 siz HW5 H5 H4 hA4 hB4 hl2 hl3 hsb hnm HS2
    clear hX6 hY6 hZ6 ho6 hk6 hzA hzZ neX neY neZ hAf6 car hB45 hkA hs2s hb2 hb3 hb6 hb7 hz6 hc2 hc3 hc6 hc7 hki hni hsi hAm
    have HS : ∀ w', Below w6.heap.size w6 w' → (w'.cell? ⟨w.heap.size, 0, none⟩ = some (.int .i64 k) ∧ w'.cell? ⟨w.heap.size, 1, none⟩ = some (.int .i64 n) ∧ w'.cell? ⟨w.heap.size, 2, none⟩ = some (.string s) ∧ w'.cell? ⟨w.heap.size, 3, none⟩ = some (.slice a len cap) ∧ w'.cell? ⟨w.heap.size + 1, 0, none⟩ = some (.int .i64 k') ∧ w'.cell? ⟨w.heap.size + 1, 1, none⟩ = some (.int .i64 n') ∧ w'.cell? ⟨w.heap.size + 1, 2, none⟩ = some (.string s') ∧ w'.cell? ⟨w.heap.size + 1, 3, none⟩ = some (.slice a' len' cap') ∧ w'.cell? ⟨w4.heap.size, 0, none⟩ = some (.int .i64 k) ∧ w'.cell? ⟨w4.heap.size, 1, none⟩ = some (.int .i64 (wrap64 (n + 1))) ∧ w'.cell? ⟨w4.heap.size, 2, none⟩ = some (.string s) ∧ w'.cell? ⟨w4.heap.size, 3, none⟩ = some (.slice a len cap) ∧ w'.cell? ⟨w4.heap.size + 1, 0, none⟩ = some (.int .i64 k) ∧ w'.cell? ⟨w4.heap.size + 1, 1, none⟩ = some (.int .i64 n) ∧ w'.cell? ⟨w4.heap.size + 1, 2, none⟩ = some (.string s2) ∧ w'.cell? ⟨w4.heap.size + 1, 3, none⟩ = some (.slice a len cap) ∧ w'.cell? ⟨B8, 0, none⟩ = some (.int .i64 k) ∧ w'.cell? ⟨B8, 1, none⟩ = some (.int .i64 n) ∧ w'.cell? ⟨B8, 2, none⟩ = some (.string s) ∧ w'.cell? ⟨B8, 3, none⟩ = some (.slice a2' lz c2') ∧ Below w6.heap.size w6 w') := fun w' hb =>
      ⟨(hb.cell (p := ⟨_, _, none⟩) l2).trans p0, (hb.cell (p := ⟨_, _, none⟩) l2).trans p1, (hb.cell (p := ⟨_, _, none⟩) l2).trans p2, (hb.cell (p := ⟨_, _, none⟩) l2).trans p3, (hb.cell (p := ⟨_, _, none⟩) l3).trans q0, (hb.cell (p := ⟨_, _, none⟩) l3).trans q1, (hb.cell (p := ⟨_, _, none⟩) l3).trans q2, (hb.cell (p := ⟨_, _, none⟩) l3).trans q3, (hb.cell (p := ⟨_, _, none⟩) l6).trans r0, (hb.cell (p := ⟨_, _, none⟩) l6).trans r1, (hb.cell (p := ⟨_, _, none⟩) l6).trans r2, (hb.cell (p := ⟨_, _, none⟩) l6).trans r3, (hb.cell (p := ⟨_, _, none⟩) l7).trans u0, (hb.cell (p := ⟨_, _, none⟩) l7).trans u1, (hb.cell (p := ⟨_, _, none⟩) l7).trans u2, (hb.cell (p := ⟨_, _, none⟩) l7).trans u3, (hb.cell (p := ⟨_, _, none⟩) l8).trans v0, (hb.cell (p := ⟨_, _, none⟩) l8).trans v1, (hb.cell (p := ⟨_, _, none⟩) l8).trans v2, (hb.cell (p := ⟨_, _, none⟩) l8).trans v3, hb⟩
    go_wp2_with fail
    refine (c1 w6 (Below.refl _ _)).mono ?_
    rintro r w7 ⟨rfl, hb67, _⟩
    clear c1
    have HB7 := Lib.hid hb67
    have cut : ∀ w', Below w6.heap.size w6 w' → Calls Try.prog 21 #[.agg #[.int .i64 k', .int .i64 n', .string s', .slice a' len' cap'], .agg #[.int .i64 k, .int .i64 n, .string s, .slice a len cap]] w' (Gets w' (.bool (decide (A = B)))) := fun w' hb =>
      (same_at B A _ _ w' (Has.below hB6 hb) (Has.below hA6 hb) ht hs).mono fun r w'' h => ⟨by rw [h.1]; exact congrArg (fun b => Ending.returned (Value.bool b)) (decide_eq_decide.2 ⟨fun e => e.symm, fun e => e.symm⟩), h.2⟩
    by_cases hAB : A = B
    · have hs4 : A.size ≤ 4000000000000000000 := by omega
      have ht4 : B.size ≤ 4000000000000000000 := by omega
      obtain ⟨sz, hsz⟩ : ∃ sz, A.size = sz := ⟨_, rfl⟩
      obtain ⟨dp, hdp⟩ : ∃ dp, A.deep = dp := ⟨_, rfl⟩
      have cst : ∀ w', Below w6.heap.size w6 w' → Calls Try.prog 14 #[.agg #[.int .i64 k, .int .i64 n, .string s, .slice a len cap]] w' (Gets w' (.int .i64 (sz : Int))) := fun w' hb =>
        (size_at _ A w' (Has.below hA6 hb) hs4).mono fun r w'' h => ⟨by rw [h.1, hsz], h.2⟩
      have csu : ∀ w', Below w6.heap.size w6 w' → Calls Try.prog 14 #[.agg #[.int .i64 k', .int .i64 n', .string s', .slice a' len' cap']] w' (Gets w' (.int .i64 (sz : Int))) := fun w' hb =>
        (size_at _ B w' (Has.below hB6 hb) ht4).mono fun r w'' h => ⟨by rw [h.1, ← hAB, hsz], h.2⟩
      have cdt : ∀ w', Below w6.heap.size w6 w' → Calls Try.prog 16 #[.agg #[.int .i64 k, .int .i64 n, .string s, .slice a len cap]] w' (Gets w' (.int .i64 (dp : Int))) := fun w' hb =>
        (deep_at _ A w' (Has.below hA6 hb) hs4).mono fun r w'' h => ⟨by rw [h.1, hdp], h.2⟩
      have cdu : ∀ w', Below w6.heap.size w6 w' → Calls Try.prog 16 #[.agg #[.int .i64 k', .int .i64 n', .string s', .slice a' len' cap']] w' (Gets w' (.int .i64 (dp : Int))) := fun w' hb =>
        (deep_at _ B w' (Has.below hB6 hb) ht4).mono fun r w'' h => ⟨by rw [h.1, ← hAB, hdp], h.2⟩
      rw [decide_eq_true hAB] at cut ⊢
      clear hAB hA6 hB6 hs ht hs4 ht4 hsz hdp hb67 hfew hfew2 HAe HK p0 p1 p2 p3 q0 q1 q2 q3 r0 r1 r2 r3 u0 u1 u2 u3 v0 v1 v2 v3
      obtain ⟨I, inst, F, n0, hF0, hFb, hFc⟩ := later_family w7
      have hF6 : ∀ i, Below w6.heap.size w6 (F i) := fun i => HB7.out.trans ((hFb i).mono HB7.out.size)
      have K := fun i => HS _ (hF6 i)
      have k0 := fun i => (K i).1
      have k1 := fun i => (K i).2.1
      have k2 := fun i => (K i).2.2.1
      have k3 := fun i => (K i).2.2.2.1
      have k4 := fun i => (K i).2.2.2.2.1
      have k5 := fun i => (K i).2.2.2.2.2.1
      have k6 := fun i => (K i).2.2.2.2.2.2.1
      have k7 := fun i => (K i).2.2.2.2.2.2.2.1
      have k8 := fun i => (K i).2.2.2.2.2.2.2.2.1
      have k9 := fun i => (K i).2.2.2.2.2.2.2.2.2.1
      have k10 := fun i => (K i).2.2.2.2.2.2.2.2.2.2.1
      have k11 := fun i => (K i).2.2.2.2.2.2.2.2.2.2.2.1
      have k12 := fun i => (K i).2.2.2.2.2.2.2.2.2.2.2.2.1
      have k13 := fun i => (K i).2.2.2.2.2.2.2.2.2.2.2.2.2.1
      have k14 := fun i => (K i).2.2.2.2.2.2.2.2.2.2.2.2.2.2.1
      have k15 := fun i => (K i).2.2.2.2.2.2.2.2.2.2.2.2.2.2.2.1
      have k16 := fun i => (K i).2.2.2.2.2.2.2.2.2.2.2.2.2.2.2.2.1
      have k17 := fun i => (K i).2.2.2.2.2.2.2.2.2.2.2.2.2.2.2.2.2.1
      have k18 := fun i => (K i).2.2.2.2.2.2.2.2.2.2.2.2.2.2.2.2.2.2.1
      have k19 := fun i => (K i).2.2.2.2.2.2.2.2.2.2.2.2.2.2.2.2.2.2.2.1
      have Cctt := Lib.hid (fun i => calls_fam hFc i (ctt _ (hF6 i)))
      have Cctx := Lib.hid (fun i => calls_fam hFc i (ctx _ (hF6 i)))
      have Ccty := Lib.hid (fun i => calls_fam hFc i (cty _ (hF6 i)))
      have Cctz := Lib.hid (fun i => calls_fam hFc i (ctz _ (hF6 i)))
      have Ccut := Lib.hid (fun i => calls_fam hFc i (cut _ (hF6 i)))
      have Ccst := Lib.hid (fun i => calls_fam hFc i (cst _ (hF6 i)))
      have Ccsu := Lib.hid (fun i => calls_fam hFc i (csu _ (hF6 i)))
      have Ccdt := Lib.hid (fun i => calls_fam hFc i (cdt _ (hF6 i)))
      have Ccdu := Lib.hid (fun i => calls_fam hFc i (cdu _ (hF6 i)))
      have HF := Lib.hid hF6
      clear K HS hFb hFc hF6 ctt ctx cty ctz cut cst csu cdt cdu
      go_wp2_with fail
      refine wp_region_fam F n0 hF0 (by kernel_rfl) (by kernel_rfl) ?_
      clear hF0
      repeat (go_big_quiet_step (first | (go_at_call 21; (with_reducible exact Cctt.out _)) | (go_at_call 21; (with_reducible exact Cctx.out _)) | (go_at_call 21; (with_reducible exact Ccty.out _)) | (go_at_call 21; (with_reducible exact Cctz.out _)) | (go_at_call 21; (with_reducible exact Ccut.out _)) | (go_at_call 14; (with_reducible exact Ccst.out _)) | (go_at_call 14; (with_reducible exact Ccsu.out _)) | (go_at_call 16; (with_reducible exact Ccdt.out _)) | (go_at_call 16; (with_reducible exact Ccdu.out _))))
      refine wpQuiet_nil ?_
      intro _ hw'
      obtain ⟨nq, hw''⟩ := hw'
      subst hw''
      go_wp2_with fail
      go_ret
      exact ⟨rfl, HBw.out.trans ((HF.out nq).mono HBw.out.size)⟩
    · rw [decide_eq_false hAB] at cut ⊢
      clear hAB hA6 hB6 hs ht hb67 hfew hfew2 HAe HK p0 p1 p2 p3 q0 q1 q2 q3 r0 r1 r2 r3 u0 u1 u2 u3 v0 v1 v2 v3
      obtain ⟨I, inst, F, n0, hF0, hFb, hFc⟩ := later_family w7
      have hF6 : ∀ i, Below w6.heap.size w6 (F i) := fun i => HB7.out.trans ((hFb i).mono HB7.out.size)
      have K := fun i => HS _ (hF6 i)
      have k0 := fun i => (K i).1
      have k1 := fun i => (K i).2.1
      have k2 := fun i => (K i).2.2.1
      have k3 := fun i => (K i).2.2.2.1
      have k4 := fun i => (K i).2.2.2.2.1
      have k5 := fun i => (K i).2.2.2.2.2.1
      have k6 := fun i => (K i).2.2.2.2.2.2.1
      have k7 := fun i => (K i).2.2.2.2.2.2.2.1
      have k8 := fun i => (K i).2.2.2.2.2.2.2.2.1
      have k9 := fun i => (K i).2.2.2.2.2.2.2.2.2.1
      have k10 := fun i => (K i).2.2.2.2.2.2.2.2.2.2.1
      have k11 := fun i => (K i).2.2.2.2.2.2.2.2.2.2.2.1
      have k12 := fun i => (K i).2.2.2.2.2.2.2.2.2.2.2.2.1
      have k13 := fun i => (K i).2.2.2.2.2.2.2.2.2.2.2.2.2.1
      have k14 := fun i => (K i).2.2.2.2.2.2.2.2.2.2.2.2.2.2.1
      have k15 := fun i => (K i).2.2.2.2.2.2.2.2.2.2.2.2.2.2.2.1
      have k16 := fun i => (K i).2.2.2.2.2.2.2.2.2.2.2.2.2.2.2.2.1
      have k17 := fun i => (K i).2.2.2.2.2.2.2.2.2.2.2.2.2.2.2.2.2.1
      have k18 := fun i => (K i).2.2.2.2.2.2.2.2.2.2.2.2.2.2.2.2.2.2.1
      have k19 := fun i => (K i).2.2.2.2.2.2.2.2.2.2.2.2.2.2.2.2.2.2.2.1
      have Cctt := Lib.hid (fun i => calls_fam hFc i (ctt _ (hF6 i)))
      have Cctx := Lib.hid (fun i => calls_fam hFc i (ctx _ (hF6 i)))
      have Ccty := Lib.hid (fun i => calls_fam hFc i (cty _ (hF6 i)))
      have Cctz := Lib.hid (fun i => calls_fam hFc i (ctz _ (hF6 i)))
      have Ccut := Lib.hid (fun i => calls_fam hFc i (cut _ (hF6 i)))
      have HF := Lib.hid hF6
      clear K HS hFb hFc hF6 ctt ctx cty ctz cut
      go_wp2_with fail
      refine wp_region_fam F n0 hF0 (by kernel_rfl) (by kernel_rfl) ?_
      clear hF0
      repeat (go_big_quiet_step (first | (go_at_call 21; (with_reducible exact Cctt.out _)) | (go_at_call 21; (with_reducible exact Cctx.out _)) | (go_at_call 21; (with_reducible exact Ccty.out _)) | (go_at_call 21; (with_reducible exact Cctz.out _)) | (go_at_call 21; (with_reducible exact Ccut.out _))))
      refine wpQuiet_nil ?_
      intro _ hw'
      obtain ⟨nq, hw''⟩ := hw'
      subst hw''
      go_wp2_with fail
      go_ret
      exact ⟨rfl, HBw.out.trans ((HF.out nq).mono HBw.out.size)⟩
  · have hAf6 : After w5 B8 k n s (wB.setCell ⟨B8, 3, none⟩ (.slice a2' (ks.length + 1) c2')) := by go_split_ands; assumption
    have hz6 : (wB.setCell ⟨B8, 3, none⟩ (.slice a2' (ks.length + 1) c2')).heap[B8]? = some (.cells #[.int .i64 k, .int .i64 n, .string s, .slice a2' (ks.length + 1) c2'] 24 (0, 0)) := by
      obtain ⟨v0, hv0⟩ := hAf6.box
      rw [hv0, set_inv hv0]
    have hlen6 : (ks ++ [B]).length = ks.length + 1 := by simp
    rw [hlen6] at ho2
    have ho6 : OwnTs (wB.setCell ⟨B8, 3, none⟩ (.slice a2' (ks.length + 1) c2')) w5.heap.size B8 (.slice a2' (ks.length + 1) c2') (ks ++ [B]) :=
      ho2.kept (by simp) (fun b _ hb => Below.heap_setCell wB ⟨B8, 3, none⟩ _ b hb) (hneV _ ho2.lt)
    generalize hW6 : (wB.setCell ⟨B8, 3, none⟩ (.slice a2' (ks.length + 1) c2')) = w6 at hz6 hAf6 ho6 ⊢
    obtain ⟨lz, hlz⟩ : ∃ lz, ks.length + 1 = lz := ⟨_, rfl⟩
    rw [hlz] at hz6 ho6 ⊢
    clear hW6 hlz hlen6
    rename_i hHeld0
    clear hHeld0
    clear ho2 hg2 hat2 ho1 hg1 hat1
    obtain ⟨hB45, hb2, hb3, hb6, hb7, hB8, hsz5, hkA⟩ := H5.out
    have hc2 := (hAf6.same _ (by omega) (by omega)).trans hb2
    have hc3 := (hAf6.same _ (by omega) (by omega)).trans hb3
    have hc6 := (hAf6.same _ (by omega) (by omega)).trans hb6
    have hc7 := (hAf6.same _ (by omega) (by omega)).trans hb7
    have car : ∀ b, b < w4.heap.size → w6.heap[b]? = w4.heap[b]? := fun b hb => (hAf6.same b (by omega) (by omega)).trans (hB45.block b hb)
    have siz : w4.heap.size ≤ w6.heap.size := by have := hAf6.size; omega
    have hA6 : Has w6 (.agg #[.int .i64 k, .int .i64 n, .string s, .slice a len cap]) A := hA4.carry car (fun b hb => Nat.lt_of_lt_of_le hb siz)
    have hB6 : Has w6 (.agg #[.int .i64 k', .int .i64 n', .string s', .slice a' len' cap']) B := hB4.carry car (fun b hb => Nat.lt_of_lt_of_le hb siz)
    have hk6 : TsIn (fun b => b < w6.heap.size) w6 (.slice a len cap) ks := hkA.carry car (fun b hb => Nat.lt_of_lt_of_le hb siz)
    obtain ⟨hki, hni, hsi⟩ := has_ok hA4
    have hs2s : s2.size = s.size + 1 := by rw [HS2.out]; simp [ByteArray.size_append]; rfl
    have hX6 : Has w6 (.agg #[.int .i64 k, .int .i64 (wrap64 (n + 1)), .string s, .slice a len cap]) (.mk k (wrap64 (n + 1)) s ks) := hk6.term hki (wrap64_ok _) hsi
    have hY6 : Has w6 (.agg #[.int .i64 k, .int .i64 n, .string s2, .slice a len cap]) (.mk k n s2 ks) := hk6.term hki hni (by unfold maxLen; omega)
    have hZ6 : Has w6 (.agg #[.int .i64 k, .int .i64 n, .string s, .slice a2' lz c2']) (.mk k n s (ks ++ [B])) := ho6.ts.term hki hni hsi
    have hAm := HAe.out
    have hzA : ∀ (m : Int) (t : ByteArray), (Tm.mk k m t ks).size ≤ 1000000000000 := fun m t => by rw [Tm.size_mk]; rw [hAm, Tm.size_mk] at hfew; omega
    have hzZ : (Tm.mk k n s (ks ++ [B])).size ≤ 1000000000000 := by rw [Tm.size_mk, Tm.sizes_append, Tm.sizes_cons, Tm.sizes_nil]; rw [hAm, Tm.size_mk] at hfew; omega
    have neX : ¬ (A = Tm.mk k (wrap64 (n + 1)) s ks) := fun e => by
      rw [hAm] at e; injection e with _ e2; simp only [wrap64] at e2; have := hni.1; have := hni.2; omega
    have neY : ¬ (A = Tm.mk k n s2 ks) := fun e => by
      rw [hAm] at e; injection e with _ _ e3; rw [← e3] at hs2s; omega
    have neZ : ¬ (A = Tm.mk k n s (ks ++ [B])) := fun e => by
      rw [hAm] at e; injection e with _ _ _ e4; have := congrArg List.length e4; simp at this
    have l2 : w.heap.size < w6.heap.size := (Array.getElem?_eq_some_iff.1 hc2).1
    have l3 : w.heap.size + 1 < w6.heap.size := (Array.getElem?_eq_some_iff.1 hc3).1
    have l6 : w4.heap.size < w6.heap.size := (Array.getElem?_eq_some_iff.1 hc6).1
    have l7 : w4.heap.size + 1 < w6.heap.size := (Array.getElem?_eq_some_iff.1 hc7).1
    have l8 : B8 < w6.heap.size := (Array.getElem?_eq_some_iff.1 hz6).1
    obtain ⟨p0, p1, p2, p3⟩ := tbox_cells hc2
    obtain ⟨q0, q1, q2, q3⟩ := tbox_cells hc3
    obtain ⟨r0, r1, r2, r3⟩ := tbox_cells hc6
    obtain ⟨u0, u1, u2, u3⟩ := tbox_cells hc7
    obtain ⟨v0, v1, v2, v3⟩ := tbox_cells hz6
    have HBw : Hid (Below w.heap.size w w6) := by
      have h1 := H4.out.1
      have h2 : Below w.heap.size w4 w6 := ⟨hAf6.os.trans hB45.os, hAf6.tape.trans hB45.tape, hAf6.output.trans hB45.output, siz, fun b hb => car b (by omega)⟩
      exact h1.trans h2
    have c1 : ∀ w', Below w6.heap.size w6 w' → Calls Try.prog 21 #[.agg #[.int .i64 k, .int .i64 n, .string s, .slice a len cap], .agg #[.int .i64 k', .int .i64 n', .string s', .slice a' len' cap']] w' fun r w'' => r = .returned (.bool (decide (A = B))) ∧ Below w'.heap.size w' w'' ∧ Below w6.heap.size w6 w'' := fun w' hb =>
      (same_at A B _ _ w' (Has.below hA6 hb) (Has.below hB6 hb) hs ht).mono fun r w'' h => ⟨h.1, h.2, hb.trans (h.2.mono hb.size)⟩
    have ctt : ∀ w', Below w6.heap.size w6 w' → Calls Try.prog 21 #[.agg #[.int .i64 k, .int .i64 n, .string s, .slice a len cap], .agg #[.int .i64 k, .int .i64 n, .string s, .slice a len cap]] w' (Gets w' (.bool true)) := fun w' hb =>
      (same_at A A _ _ w' (Has.below hA6 hb) (Has.below hA6 hb) hs hs).mono fun r w'' h => ⟨by rw [h.1, decide_eq_true rfl], h.2⟩
    have ctx : ∀ w', Below w6.heap.size w6 w' → Calls Try.prog 21 #[.agg #[.int .i64 k, .int .i64 n, .string s, .slice a len cap], .agg #[.int .i64 k, .int .i64 (wrap64 (n + 1)), .string s, .slice a len cap]] w' (Gets w' (.bool false)) := fun w' hb =>
      (same_at A _ _ _ w' (Has.below hA6 hb) (Has.below hX6 hb) hs (hzA _ _)).mono fun r w'' h => ⟨by rw [h.1, decide_eq_false neX], h.2⟩
    have cty : ∀ w', Below w6.heap.size w6 w' → Calls Try.prog 21 #[.agg #[.int .i64 k, .int .i64 n, .string s, .slice a len cap], .agg #[.int .i64 k, .int .i64 n, .string s2, .slice a len cap]] w' (Gets w' (.bool false)) := fun w' hb =>
      (same_at A _ _ _ w' (Has.below hA6 hb) (Has.below hY6 hb) hs (hzA _ _)).mono fun r w'' h => ⟨by rw [h.1, decide_eq_false neY], h.2⟩
    have ctz : ∀ w', Below w6.heap.size w6 w' → Calls Try.prog 21 #[.agg #[.int .i64 k, .int .i64 n, .string s, .slice a len cap], .agg #[.int .i64 k, .int .i64 n, .string s, .slice a2' lz c2']] w' (Gets w' (.bool false)) := fun w' hb =>
      (same_at A _ _ _ w' (Has.below hA6 hb) (Has.below hZ6 hb) hs hzZ).mono fun r w'' h => ⟨by rw [h.1, decide_eq_false neZ], h.2⟩
    clear HS hsrcK hlit hbs hneE hneV hownC hg1sz hlB hlC hneB hneC hAf0 hB8lt hAe f hB8 hsz5 siz HW5 H5 H4 hA4 hB4 hl2 hl3 hsb hnm HS2
    clear hX6 hY6 hZ6 ho6 hk6 hzA hzZ neX neY neZ hAf6 car hB45 hkA hs2s hb2 hb3 hb6 hb7 hz6 hc2 hc3 hc6 hc7 hki hni hsi hAm
    have HS : ∀ w', Below w6.heap.size w6 w' → (w'.cell? ⟨w.heap.size, 0, none⟩ = some (.int .i64 k) ∧ w'.cell? ⟨w.heap.size, 1, none⟩ = some (.int .i64 n) ∧ w'.cell? ⟨w.heap.size, 2, none⟩ = some (.string s) ∧ w'.cell? ⟨w.heap.size, 3, none⟩ = some (.slice a len cap) ∧ w'.cell? ⟨w.heap.size + 1, 0, none⟩ = some (.int .i64 k') ∧ w'.cell? ⟨w.heap.size + 1, 1, none⟩ = some (.int .i64 n') ∧ w'.cell? ⟨w.heap.size + 1, 2, none⟩ = some (.string s') ∧ w'.cell? ⟨w.heap.size + 1, 3, none⟩ = some (.slice a' len' cap') ∧ w'.cell? ⟨w4.heap.size, 0, none⟩ = some (.int .i64 k) ∧ w'.cell? ⟨w4.heap.size, 1, none⟩ = some (.int .i64 (wrap64 (n + 1))) ∧ w'.cell? ⟨w4.heap.size, 2, none⟩ = some (.string s) ∧ w'.cell? ⟨w4.heap.size, 3, none⟩ = some (.slice a len cap) ∧ w'.cell? ⟨w4.heap.size + 1, 0, none⟩ = some (.int .i64 k) ∧ w'.cell? ⟨w4.heap.size + 1, 1, none⟩ = some (.int .i64 n) ∧ w'.cell? ⟨w4.heap.size + 1, 2, none⟩ = some (.string s2) ∧ w'.cell? ⟨w4.heap.size + 1, 3, none⟩ = some (.slice a len cap) ∧ w'.cell? ⟨B8, 0, none⟩ = some (.int .i64 k) ∧ w'.cell? ⟨B8, 1, none⟩ = some (.int .i64 n) ∧ w'.cell? ⟨B8, 2, none⟩ = some (.string s) ∧ w'.cell? ⟨B8, 3, none⟩ = some (.slice a2' lz c2') ∧ Below w6.heap.size w6 w') := fun w' hb =>
      ⟨(hb.cell (p := ⟨_, _, none⟩) l2).trans p0, (hb.cell (p := ⟨_, _, none⟩) l2).trans p1, (hb.cell (p := ⟨_, _, none⟩) l2).trans p2, (hb.cell (p := ⟨_, _, none⟩) l2).trans p3, (hb.cell (p := ⟨_, _, none⟩) l3).trans q0, (hb.cell (p := ⟨_, _, none⟩) l3).trans q1, (hb.cell (p := ⟨_, _, none⟩) l3).trans q2, (hb.cell (p := ⟨_, _, none⟩) l3).trans q3, (hb.cell (p := ⟨_, _, none⟩) l6).trans r0, (hb.cell (p := ⟨_, _, none⟩) l6).trans r1, (hb.cell (p := ⟨_, _, none⟩) l6).trans r2, (hb.cell (p := ⟨_, _, none⟩) l6).trans r3, (hb.cell (p := ⟨_, _, none⟩) l7).trans u0, (hb.cell (p := ⟨_, _, none⟩) l7).trans u1, (hb.cell (p := ⟨_, _, none⟩) l7).trans u2, (hb.cell (p := ⟨_, _, none⟩) l7).trans u3, (hb.cell (p := ⟨_, _, none⟩) l8).trans v0, (hb.cell (p := ⟨_, _, none⟩) l8).trans v1, (hb.cell (p := ⟨_, _, none⟩) l8).trans v2, (hb.cell (p := ⟨_, _, none⟩) l8).trans v3, hb⟩
    go_wp2_with fail
    refine (c1 w6 (Below.refl _ _)).mono ?_
    rintro r w7 ⟨rfl, hb67, _⟩
    clear c1
    have HB7 := Lib.hid hb67
    have cut : ∀ w', Below w6.heap.size w6 w' → Calls Try.prog 21 #[.agg #[.int .i64 k', .int .i64 n', .string s', .slice a' len' cap'], .agg #[.int .i64 k, .int .i64 n, .string s, .slice a len cap]] w' (Gets w' (.bool (decide (A = B)))) := fun w' hb =>
      (same_at B A _ _ w' (Has.below hB6 hb) (Has.below hA6 hb) ht hs).mono fun r w'' h => ⟨by rw [h.1]; exact congrArg (fun b => Ending.returned (Value.bool b)) (decide_eq_decide.2 ⟨fun e => e.symm, fun e => e.symm⟩), h.2⟩
    by_cases hAB : A = B
    · have hs4 : A.size ≤ 4000000000000000000 := by omega
      have ht4 : B.size ≤ 4000000000000000000 := by omega
      obtain ⟨sz, hsz⟩ : ∃ sz, A.size = sz := ⟨_, rfl⟩
      obtain ⟨dp, hdp⟩ : ∃ dp, A.deep = dp := ⟨_, rfl⟩
      have cst : ∀ w', Below w6.heap.size w6 w' → Calls Try.prog 14 #[.agg #[.int .i64 k, .int .i64 n, .string s, .slice a len cap]] w' (Gets w' (.int .i64 (sz : Int))) := fun w' hb =>
        (size_at _ A w' (Has.below hA6 hb) hs4).mono fun r w'' h => ⟨by rw [h.1, hsz], h.2⟩
      have csu : ∀ w', Below w6.heap.size w6 w' → Calls Try.prog 14 #[.agg #[.int .i64 k', .int .i64 n', .string s', .slice a' len' cap']] w' (Gets w' (.int .i64 (sz : Int))) := fun w' hb =>
        (size_at _ B w' (Has.below hB6 hb) ht4).mono fun r w'' h => ⟨by rw [h.1, ← hAB, hsz], h.2⟩
      have cdt : ∀ w', Below w6.heap.size w6 w' → Calls Try.prog 16 #[.agg #[.int .i64 k, .int .i64 n, .string s, .slice a len cap]] w' (Gets w' (.int .i64 (dp : Int))) := fun w' hb =>
        (deep_at _ A w' (Has.below hA6 hb) hs4).mono fun r w'' h => ⟨by rw [h.1, hdp], h.2⟩
      have cdu : ∀ w', Below w6.heap.size w6 w' → Calls Try.prog 16 #[.agg #[.int .i64 k', .int .i64 n', .string s', .slice a' len' cap']] w' (Gets w' (.int .i64 (dp : Int))) := fun w' hb =>
        (deep_at _ B w' (Has.below hB6 hb) ht4).mono fun r w'' h => ⟨by rw [h.1, ← hAB, hdp], h.2⟩
      rw [decide_eq_true hAB] at cut ⊢
      clear hAB hA6 hB6 hs ht hs4 ht4 hsz hdp hb67 hfew hfew2 HAe HK p0 p1 p2 p3 q0 q1 q2 q3 r0 r1 r2 r3 u0 u1 u2 u3 v0 v1 v2 v3
      obtain ⟨I, inst, F, n0, hF0, hFb, hFc⟩ := later_family w7
      have hF6 : ∀ i, Below w6.heap.size w6 (F i) := fun i => HB7.out.trans ((hFb i).mono HB7.out.size)
      have K := fun i => HS _ (hF6 i)
      have k0 := fun i => (K i).1
      have k1 := fun i => (K i).2.1
      have k2 := fun i => (K i).2.2.1
      have k3 := fun i => (K i).2.2.2.1
      have k4 := fun i => (K i).2.2.2.2.1
      have k5 := fun i => (K i).2.2.2.2.2.1
      have k6 := fun i => (K i).2.2.2.2.2.2.1
      have k7 := fun i => (K i).2.2.2.2.2.2.2.1
      have k8 := fun i => (K i).2.2.2.2.2.2.2.2.1
      have k9 := fun i => (K i).2.2.2.2.2.2.2.2.2.1
      have k10 := fun i => (K i).2.2.2.2.2.2.2.2.2.2.1
      have k11 := fun i => (K i).2.2.2.2.2.2.2.2.2.2.2.1
      have k12 := fun i => (K i).2.2.2.2.2.2.2.2.2.2.2.2.1
      have k13 := fun i => (K i).2.2.2.2.2.2.2.2.2.2.2.2.2.1
      have k14 := fun i => (K i).2.2.2.2.2.2.2.2.2.2.2.2.2.2.1
      have k15 := fun i => (K i).2.2.2.2.2.2.2.2.2.2.2.2.2.2.2.1
      have k16 := fun i => (K i).2.2.2.2.2.2.2.2.2.2.2.2.2.2.2.2.1
      have k17 := fun i => (K i).2.2.2.2.2.2.2.2.2.2.2.2.2.2.2.2.2.1
      have k18 := fun i => (K i).2.2.2.2.2.2.2.2.2.2.2.2.2.2.2.2.2.2.1
      have k19 := fun i => (K i).2.2.2.2.2.2.2.2.2.2.2.2.2.2.2.2.2.2.2.1
      have Cctt := Lib.hid (fun i => calls_fam hFc i (ctt _ (hF6 i)))
      have Cctx := Lib.hid (fun i => calls_fam hFc i (ctx _ (hF6 i)))
      have Ccty := Lib.hid (fun i => calls_fam hFc i (cty _ (hF6 i)))
      have Cctz := Lib.hid (fun i => calls_fam hFc i (ctz _ (hF6 i)))
      have Ccut := Lib.hid (fun i => calls_fam hFc i (cut _ (hF6 i)))
      have Ccst := Lib.hid (fun i => calls_fam hFc i (cst _ (hF6 i)))
      have Ccsu := Lib.hid (fun i => calls_fam hFc i (csu _ (hF6 i)))
      have Ccdt := Lib.hid (fun i => calls_fam hFc i (cdt _ (hF6 i)))
      have Ccdu := Lib.hid (fun i => calls_fam hFc i (cdu _ (hF6 i)))
      have HF := Lib.hid hF6
      clear K HS hFb hFc hF6 ctt ctx cty ctz cut cst csu cdt cdu
      go_wp2_with fail
      refine wp_region_fam F n0 hF0 (by kernel_rfl) (by kernel_rfl) ?_
      clear hF0
      repeat (go_big_quiet_step (first | (go_at_call 21; (with_reducible exact Cctt.out _)) | (go_at_call 21; (with_reducible exact Cctx.out _)) | (go_at_call 21; (with_reducible exact Ccty.out _)) | (go_at_call 21; (with_reducible exact Cctz.out _)) | (go_at_call 21; (with_reducible exact Ccut.out _)) | (go_at_call 14; (with_reducible exact Ccst.out _)) | (go_at_call 14; (with_reducible exact Ccsu.out _)) | (go_at_call 16; (with_reducible exact Ccdt.out _)) | (go_at_call 16; (with_reducible exact Ccdu.out _))))
      refine wpQuiet_nil ?_
      intro _ hw'
      obtain ⟨nq, hw''⟩ := hw'
      subst hw''
      go_wp2_with fail
      go_ret
      exact ⟨rfl, HBw.out.trans ((HF.out nq).mono HBw.out.size)⟩
    · rw [decide_eq_false hAB] at cut ⊢
      clear hAB hA6 hB6 hs ht hb67 hfew hfew2 HAe HK p0 p1 p2 p3 q0 q1 q2 q3 r0 r1 r2 r3 u0 u1 u2 u3 v0 v1 v2 v3
      obtain ⟨I, inst, F, n0, hF0, hFb, hFc⟩ := later_family w7
      have hF6 : ∀ i, Below w6.heap.size w6 (F i) := fun i => HB7.out.trans ((hFb i).mono HB7.out.size)
      have K := fun i => HS _ (hF6 i)
      have k0 := fun i => (K i).1
      have k1 := fun i => (K i).2.1
      have k2 := fun i => (K i).2.2.1
      have k3 := fun i => (K i).2.2.2.1
      have k4 := fun i => (K i).2.2.2.2.1
      have k5 := fun i => (K i).2.2.2.2.2.1
      have k6 := fun i => (K i).2.2.2.2.2.2.1
      have k7 := fun i => (K i).2.2.2.2.2.2.2.1
      have k8 := fun i => (K i).2.2.2.2.2.2.2.2.1
      have k9 := fun i => (K i).2.2.2.2.2.2.2.2.2.1
      have k10 := fun i => (K i).2.2.2.2.2.2.2.2.2.2.1
      have k11 := fun i => (K i).2.2.2.2.2.2.2.2.2.2.2.1
      have k12 := fun i => (K i).2.2.2.2.2.2.2.2.2.2.2.2.1
      have k13 := fun i => (K i).2.2.2.2.2.2.2.2.2.2.2.2.2.1
      have k14 := fun i => (K i).2.2.2.2.2.2.2.2.2.2.2.2.2.2.1
      have k15 := fun i => (K i).2.2.2.2.2.2.2.2.2.2.2.2.2.2.2.1
      have k16 := fun i => (K i).2.2.2.2.2.2.2.2.2.2.2.2.2.2.2.2.1
      have k17 := fun i => (K i).2.2.2.2.2.2.2.2.2.2.2.2.2.2.2.2.2.1
      have k18 := fun i => (K i).2.2.2.2.2.2.2.2.2.2.2.2.2.2.2.2.2.2.1
      have k19 := fun i => (K i).2.2.2.2.2.2.2.2.2.2.2.2.2.2.2.2.2.2.2.1
      have Cctt := Lib.hid (fun i => calls_fam hFc i (ctt _ (hF6 i)))
      have Cctx := Lib.hid (fun i => calls_fam hFc i (ctx _ (hF6 i)))
      have Ccty := Lib.hid (fun i => calls_fam hFc i (cty _ (hF6 i)))
      have Cctz := Lib.hid (fun i => calls_fam hFc i (ctz _ (hF6 i)))
      have Ccut := Lib.hid (fun i => calls_fam hFc i (cut _ (hF6 i)))
      have HF := Lib.hid hF6
      clear K HS hFb hFc hF6 ctt ctx cty ctz cut
      go_wp2_with fail
      refine wp_region_fam F n0 hF0 (by kernel_rfl) (by kernel_rfl) ?_
      clear hF0
      repeat (go_big_quiet_step (first | (go_at_call 21; (with_reducible exact Cctt.out _)) | (go_at_call 21; (with_reducible exact Cctx.out _)) | (go_at_call 21; (with_reducible exact Ccty.out _)) | (go_at_call 21; (with_reducible exact Cctz.out _)) | (go_at_call 21; (with_reducible exact Ccut.out _))))
      refine wpQuiet_nil ?_
      intro _ hw'
      obtain ⟨nq, hw''⟩ := hw'
      subst hw''
      go_wp2_with fail
      go_ret
      exact ⟨rfl, HBw.out.trans ((HF.out nq).mono HBw.out.size)⟩

end Go.Proofs.Ytmbikojjhdildaa
