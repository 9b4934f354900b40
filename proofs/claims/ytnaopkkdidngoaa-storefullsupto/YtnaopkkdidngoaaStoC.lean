/-
  store: end, Walk.
-/
import Derived.Test.YtnaopkkdidngoaaStoB
namespace Go.Proofs.Ytnaopkkdidngoaa
open Go.RowKit Go.Shelf
set_option linter.unusedVariables false

/-- A term, somewhere. -/
def GotT (q : Nat → Prop) (T : Tm) (w : World) (e : Ending) (w' : World) : Prop :=
  ∃ k n s a l c, e = .returned (.agg #[.int .i64 k, .int .i64 n, .string s, .slice a l c]) ∧ TmIn q w' (.agg #[.int .i64 k, .int .i64 n, .string s, .slice a l c]) T ∧ Below w.heap.size w w'

theorem EndsN.look {σ : St} {n : Nat} {T X : Tm} (h : EndsN σ n T X) : (σ.val T = none ∧ X = T) ∨ ∃ m U, n = m + 1 ∧ σ.val T = some U ∧ EndsN σ m U X := by
  cases h with
  | stop h => exact .inl ⟨h, rfl⟩
  | step h g => exact .inr ⟨_, _, rfl, h, g⟩

set_option maxRecDepth 100000 in
set_option maxHeartbeats 4000000 in
theorem end_at {p : Nat → Prop} {n₀ : Nat} {w : World} {b : Nat} {V L : Value} {σ : St} (h : StAt p n₀ w b V L σ) (v : Value) (T : Tm) (q : Nat → Prop) (hpq : ∀ k, p k → q k) (hq : ∀ k, q k → k < w.heap.size) (hv : TmIn q w v T) :
    Calls Try.prog 29 #[.pointer (some ⟨b, 0, none⟩), v] w (GotT q (σ.fin T) w) := by
  obtain ⟨k, n, s, a, len, cap, ks, rfl, e, -⟩ := hv.form
  obtain ⟨N, hN⟩ := h.ok.ranked.fin T
  obtain ⟨w2, hw2⟩ : ∃ w2, w2 = (w.alloc (.cells #[.int .i64 k, .int .i64 n, .string s, .slice a len cap] 25)).alloc (.cells #[.int .i64 0, .int .i64 0, .string (ByteArray.mk #[]), .slice none 0 0] 25) := ⟨_, rfl⟩
  have hb2 : Below w.heap.size w w2 := by rw [hw2]; exact ((Below.refl _ w).alloc (Nat.le_refl _) _).alloc (by simp) _
  have hx2 : w2.heap[w.heap.size + 1]? = some (.cells #[.int .i64 0, .int .i64 0, .string (ByteArray.mk #[]), .slice none 0 0] 25 (0, 0)) := by rw [hw2]; simpa using World.alloc_heap_new (w.alloc (.cells #[.int .i64 k, .int .i64 n, .string s, .slice a len cap] 25)) (.cells #[.int .i64 0, .int .i64 0, .string (ByteArray.mk #[]), .slice none 0 0] 25)
  have hx1 : w2.heap[w.heap.size]? = some (.cells #[.int .i64 k, .int .i64 n, .string s, .slice a len cap] 25 (0, 0)) := by rw [hw2]; exact (Below.heap_alloc _ _ _ (by simp)).trans (World.alloc_heap_new _ _)
  have H2 := h.below hb2
  have hT2 : TmIn q w2 (.agg #[.int .i64 k, .int .i64 n, .string s, .slice a len cap]) T := hv.carry (fun c hc => hb2.block c (hq c hc)) fun c hc => hc
  have HH := Lib.hid (And.intro hb2 (And.intro hx2 (And.intro hx1 (And.intro hT2 hN))))
  have HW := Lib.hid hw2
  generalize σ.fin T = X at *
  have hz := zeroTerm
  have HS := Lib.hid h
  clear hv h e hb2 hx2 hx1 H2 hT2 hw2
  go_enter Try.func29, Try.ntmps29
  go_wp2_with fail
  rw [← HW.out]
  go_loopg [] N (fun gg wr => ∃ k n s a l c T', wr.heap[w.heap.size]? = some (.cells #[.int .i64 k, .int .i64 n, .string s, .slice a l c] 25 (0, 0)) ∧ wr.heap[w.heap.size + 1]? = some (.cells #[.int .i64 0, .int .i64 0, .string (ByteArray.mk #[]), .slice none 0 0] 25 (0, 0)) ∧
    TmIn q wr (.agg #[.int .i64 k, .int .i64 n, .string s, .slice a l c]) T' ∧ EndsN σ gg T' X ∧ Below w.heap.size w wr)
  case atStart => exact ⟨k, n, s, a, len, cap, T, HH.out.2.2.1, HH.out.2.1, HH.out.2.2.2.1, HH.out.2.2.2.2, HH.out.1⟩
  case round =>
    obtain ⟨k1, n1, s1, a1, l1, c1, T1, hy1, hy2, hT, hE, hB⟩ := hrel
    obtain ⟨x0, x1, x2, x3⟩ := tbox_cells hy1
    have hcall := value_at (HS.out.below hB) _ T1 (hT.carry (fun _ _ => rfl) fun c hc => Nat.lt_of_lt_of_le (hq c hc) hB.size)
    have g3 : Hid (wr.heap[w.heap.size]? = some (.cells #[.int .i64 k1, .int .i64 n1, .string s1, .slice a1 l1 c1] 25 (0, 0)) ∧ wr.heap[w.heap.size + 1]? = some (.cells #[.int .i64 0, .int .i64 0, .string (ByteArray.mk #[]), .slice none 0 0] 25 (0, 0))) := ⟨hy1, hy2⟩
    have call : ∀ o, σ.val T1 = o → Calls Try.prog 34 #[.pointer (some ⟨b, 0, none⟩), .agg #[.int .i64 k1, .int .i64 n1, .string s1, .slice a1 l1 c1]] wr fun e w5 => ∃ k5 n5 s5 a5 l5 c5, e = .returned (.tuple #[.agg #[.int .i64 k5, .int .i64 n5, .string s5, .slice a5 l5 c5], .bool o.isSome]) ∧
        (w5.alloc (.cells #[.int .i64 k5, .int .i64 n5, .string s5, .slice a5 l5 c5] 25)).cell? ⟨w.heap.size, 0, none⟩ = some (.int .i64 k1) ∧ (w5.alloc (.cells #[.int .i64 k5, .int .i64 n5, .string s5, .slice a5 l5 c5] 25)).cell? ⟨w.heap.size, 1, none⟩ = some (.int .i64 n1) ∧ (w5.alloc (.cells #[.int .i64 k5, .int .i64 n5, .string s5, .slice a5 l5 c5] 25)).cell? ⟨w.heap.size, 2, none⟩ = some (.string s1) ∧ (w5.alloc (.cells #[.int .i64 k5, .int .i64 n5, .string s5, .slice a5 l5 c5] 25)).cell? ⟨w.heap.size, 3, none⟩ = some (.slice a1 l1 c1) ∧
          (w5.alloc (.cells #[.int .i64 k5, .int .i64 n5, .string s5, .slice a5 l5 c5] 25)).cell? ⟨w.heap.size + 1, 0, none⟩ = some (.int .i64 0) ∧ (w5.alloc (.cells #[.int .i64 k5, .int .i64 n5, .string s5, .slice a5 l5 c5] 25)).cell? ⟨w.heap.size + 1, 1, none⟩ = some (.int .i64 0) ∧ (w5.alloc (.cells #[.int .i64 k5, .int .i64 n5, .string s5, .slice a5 l5 c5] 25)).cell? ⟨w.heap.size + 1, 2, none⟩ = some (.string (ByteArray.mk #[])) ∧ (w5.alloc (.cells #[.int .i64 k5, .int .i64 n5, .string s5, .slice a5 l5 c5] 25)).cell? ⟨w.heap.size + 1, 3, none⟩ = some (.slice none 0 0) ∧ (∀ j, (w5.alloc (.cells #[.int .i64 k5, .int .i64 n5, .string s5, .slice a5 l5 c5] 25)).frozen? ⟨w.heap.size + 1, j, none⟩ = false) ∧ (∀ j, (w5.alloc (.cells #[.int .i64 k5, .int .i64 n5, .string s5, .slice a5 l5 c5] 25)).frozen? ⟨w.heap.size, j, none⟩ = false) ∧
          (w5.alloc (.cells #[.int .i64 k5, .int .i64 n5, .string s5, .slice a5 l5 c5] 25)).cell? ⟨w5.heap.size, 0, none⟩ = some (.int .i64 k5) ∧ (w5.alloc (.cells #[.int .i64 k5, .int .i64 n5, .string s5, .slice a5 l5 c5] 25)).cell? ⟨w5.heap.size, 1, none⟩ = some (.int .i64 n5) ∧ (w5.alloc (.cells #[.int .i64 k5, .int .i64 n5, .string s5, .slice a5 l5 c5] 25)).cell? ⟨w5.heap.size, 2, none⟩ = some (.string s5) ∧ (w5.alloc (.cells #[.int .i64 k5, .int .i64 n5, .string s5, .slice a5 l5 c5] 25)).cell? ⟨w5.heap.size, 3, none⟩ = some (.slice a5 l5 c5) ∧
          Hid ((w5.alloc (.cells #[.int .i64 k5, .int .i64 n5, .string s5, .slice a5 l5 c5] 25)).heap[w.heap.size]? = some (.cells #[.int .i64 k1, .int .i64 n1, .string s1, .slice a1 l1 c1] 25 (0, 0)) ∧ (w5.alloc (.cells #[.int .i64 k5, .int .i64 n5, .string s5, .slice a5 l5 c5] 25)).heap[w.heap.size + 1]? = some (.cells #[.int .i64 0, .int .i64 0, .string (ByteArray.mk #[]), .slice none 0 0] 25 (0, 0)) ∧ Below wr.heap.size wr (w5.alloc (.cells #[.int .i64 k5, .int .i64 n5, .string s5, .slice a5 l5 c5] 25)) ∧ ∀ U, o = some U → TmIn p (w5.alloc (.cells #[.int .i64 k5, .int .i64 n5, .string s5, .slice a5 l5 c5] 25)) (.agg #[.int .i64 k5, .int .i64 n5, .string s5, .slice a5 l5 c5]) U) := by
      intro o ho
      refine hcall.mono ?_
      rintro e w5 ⟨k5, n5, s5, a5, l5, c5, rfl, hU, hb5⟩
      have hb6 := hb5.alloc hb5.size (.cells #[.int .i64 k5, .int .i64 n5, .string s5, .slice a5 l5 c5] 25)
      have g1 := tbox_below g3.out.1 hb6
      have g2 := tbox_below g3.out.2 hb6
      have g5 := World.alloc_heap_new w5 (.cells #[.int .i64 k5, .int .i64 n5, .string s5, .slice a5 l5 c5] 25)
      obtain ⟨p0, p1, p2, p3⟩ := tbox_cells g1
      obtain ⟨r0, r1, r2, r3⟩ := tbox_cells g2
      obtain ⟨t0, t1, t2, t3⟩ := tbox_cells g5
      refine ⟨k5, n5, s5, a5, l5, c5, by rw [ho], p0, p1, p2, p3, r0, r1, r2, r3, (fun j => by simp [World.frozen?, g2]), (fun j => by simp [World.frozen?, g1]), t0, t1, t2, t3, g1, g2, hb6, fun U hU' => ?_⟩
      exact (hU U (by rw [ho]; exact hU')).carry (fun c hc => Below.heap_alloc w5 _ c (Nat.lt_of_lt_of_le (hq c (hpq c hc)) (Nat.le_trans hB.size hb5.size))) fun c hc => hc
    have HV := Lib.hid (And.intro hT hB)
    clear hy1 hy2 hT hB hcall g3
    rcases hE.look with ⟨hval, hX⟩ | ⟨m, U, rfl, hval, hE2⟩
    · have hcall := call none hval
      have HX := Lib.hid hX
      clear hval hX call hE
      go_wp2_with (go_at_call 34; refine hcall.mono ?_; clear hcall; rintro e w5 ⟨k5, n5, s5, a5, l5, c5, rfl, p0, p1, p2, p3, r0, r1, r2, r3, rf, pf, t0, t1, t2, t3, HZ⟩)
      obtain ⟨w6, hw6⟩ : ∃ w6, w6 = (w5.alloc (.cells #[.int .i64 k5, .int .i64 n5, .string s5, .slice a5 l5 c5] 25)) := ⟨_, rfl⟩
      rw [← hw6] at HZ ⊢
      have hb6 : Below w.heap.size w w6 := HV.out.2.trans (HZ.out.2.2.1.mono HV.out.2.size)
      have hb5 := four_block HZ.out.2.1 (.int .i64 k1) (.int .i64 n1) (.string s1) (.slice a1 l1 c1)
      have hB5 := (((hb6.setCell (p := ⟨w.heap.size + 1, 0, none⟩) (Nat.le_succ _) (.int .i64 k1)).setCell (p := ⟨w.heap.size + 1, 1, none⟩) (Nat.le_succ _) (.int .i64 n1)).setCell (p := ⟨w.heap.size + 1, 2, none⟩) (Nat.le_succ _) (.string s1)).setCell (p := ⟨w.heap.size + 1, 3, none⟩) (Nat.le_succ _) (.slice a1 l1 c1)
      generalize (((w6.setCell ⟨w.heap.size + 1, 0, none⟩ (.int .i64 k1)).setCell ⟨w.heap.size + 1, 1, none⟩ (.int .i64 n1)).setCell ⟨w.heap.size + 1, 2, none⟩ (.string s1)).setCell ⟨w.heap.size + 1, 3, none⟩ (.slice a1 l1 c1) = w7 at hb5 hB5 ⊢
      obtain ⟨f0, f1, f2, f3⟩ := tbox_cells hb5
      refine bodyPost_ret (v := .agg #[.int .i64 k1, .int .i64 n1, .string s1, .slice a1 l1 c1]) (by simp [results, Try.f29, go_sem, f0, f1, f2, f3]) rfl ?_
      have hX := HX.out
      rw [hX]
      exact ⟨_, _, _, _, _, _, rfl, HV.out.1.carry (fun c hc => by rw [hB5.block c (hq c hc), HV.out.2.block c (hq c hc)]) fun c hc => hc, hB5⟩
    · have hcall := call (some U) hval
      have HE := Lib.hid hE2
      clear hval hE2 call hE
      go_wp2_with (go_at_call 34; refine hcall.mono ?_; clear hcall; rintro e w5 ⟨k5, n5, s5, a5, l5, c5, rfl, p0, p1, p2, p3, r0, r1, r2, r3, rf, pf, t0, t1, t2, t3, HZ⟩)
      obtain ⟨w6, hw6⟩ : ∃ w6, w6 = (w5.alloc (.cells #[.int .i64 k5, .int .i64 n5, .string s5, .slice a5 l5 c5] 25)) := ⟨_, rfl⟩
      rw [← hw6] at HZ ⊢
      have hb6 : Below w.heap.size w w6 := HV.out.2.trans (HZ.out.2.2.1.mono HV.out.2.size)
      have hb5 := four_block HZ.out.1 (.int .i64 k5) (.int .i64 n5) (.string s5) (.slice a5 l5 c5)
      have hB5 := (((hb6.setCell (p := ⟨w.heap.size, 0, none⟩) (Nat.le_refl _) (.int .i64 k5)).setCell (p := ⟨w.heap.size, 1, none⟩) (Nat.le_refl _) (.int .i64 n5)).setCell (p := ⟨w.heap.size, 2, none⟩) (Nat.le_refl _) (.string s5)).setCell (p := ⟨w.heap.size, 3, none⟩) (Nat.le_refl _) (.slice a5 l5 c5)
      have ho : ∀ c, c ≠ w.heap.size → ((((w6.setCell ⟨w.heap.size, 0, none⟩ (.int .i64 k5)).setCell ⟨w.heap.size, 1, none⟩ (.int .i64 n5)).setCell ⟨w.heap.size, 2, none⟩ (.string s5)).setCell ⟨w.heap.size, 3, none⟩ (.slice a5 l5 c5)).heap[c]? = w6.heap[c]? := fun c hc => by
        rw [Below.heap_setCell _ _ _ _ (by simpa using hc), Below.heap_setCell _ _ _ _ (by simpa using hc), Below.heap_setCell _ _ _ _ (by simpa using hc), Below.heap_setCell _ _ _ _ (by simpa using hc)]
      generalize (((w6.setCell ⟨w.heap.size, 0, none⟩ (.int .i64 k5)).setCell ⟨w.heap.size, 1, none⟩ (.int .i64 n5)).setCell ⟨w.heap.size, 2, none⟩ (.string s5)).setCell ⟨w.heap.size, 3, none⟩ (.slice a5 l5 c5) = w7 at hb5 hB5 ho ⊢
      go_roundg m
      case measure => omega
      case rel => exact ⟨k5, n5, s5, a5, l5, c5, U, hb5, (ho _ (by omega)).trans HZ.out.2.1, (HZ.out.2.2.2 U rfl).carry (fun c hc => ho c (Nat.ne_of_lt (hq c (hpq c hc)))) (fun c hc => hpq c hc), HE.out, hB5⟩

set_option maxRecDepth 100000 in
set_option maxHeartbeats 4000000 in
theorem walk_at {p : Nat → Prop} {n₀ : Nat} {w : World} {b : Nat} {V L : Value} {σ : St} (h : StAt p n₀ w b V L σ) (v : Value) (T : Tm) (hv : Has w v T) (hs : (σ.fin T).size ≤ 1000000000000) :
    Calls Try.prog 15 #[.pointer (some ⟨b, 0, none⟩), v] w (NewTm w (σ.fin T)) := by
  obtain ⟨k, n, s, a, len, cap, ks, rfl, e, -⟩ := hv.form
  obtain ⟨w2, hw2⟩ : ∃ w2, w2 = (w.alloc (.cells #[.int .i64 k, .int .i64 n, .string s, .slice a len cap] 25)).alloc (.cells #[.int .i64 0, .int .i64 0, .string (ByteArray.mk #[]), .slice none 0 0] 25) := ⟨_, rfl⟩
  have hb2 : Below w.heap.size w w2 := by rw [hw2]; exact ((Below.refl _ w).alloc (Nat.le_refl _) _).alloc (by simp) _
  have hx2 : w2.heap[w.heap.size + 1]? = some (.cells #[.int .i64 0, .int .i64 0, .string (ByteArray.mk #[]), .slice none 0 0] 25 (0, 0)) := by rw [hw2]; simpa using World.alloc_heap_new (w.alloc (.cells #[.int .i64 k, .int .i64 n, .string s, .slice a len cap] 25)) (.cells #[.int .i64 0, .int .i64 0, .string (ByteArray.mk #[]), .slice none 0 0] 25)
  have hx1 : w2.heap[w.heap.size]? = some (.cells #[.int .i64 k, .int .i64 n, .string s, .slice a len cap] 25 (0, 0)) := by rw [hw2]; exact (Below.heap_alloc _ _ _ (by simp)).trans (World.alloc_heap_new _ _)
  have hsz2 : w2.heap.size = w.heap.size + 2 := by rw [hw2]; simp
  obtain ⟨x0, x1, x2, x3⟩ := tbox_cells hx1
  have hend := end_at (h.below hb2) _ T (fun c => c < w2.heap.size) (fun c hc => Nat.lt_of_lt_of_le (h.sub c hc).1 hb2.size) (fun c hc => hc) (Has.below hv hb2)
  have hwh : ∀ k5 n5 s5 a5 l5 c5 w5, TmIn (fun c => c < w2.heap.size) w5 (.agg #[.int .i64 k5, .int .i64 n5, .string s5, .slice a5 l5 c5]) (σ.fin T) → Below w2.heap.size w2 w5 → Calls Try.prog 27 #[.agg #[.int .i64 k5, .int .i64 n5, .string s5, .slice a5 l5 c5]] w5 fun e w4 =>
      ∃ k4 n4 s4 a4 l4 c4, e = .returned (.agg #[.int .i64 k4, .int .i64 n4, .string s4, .slice a4 l4 c4]) ∧ w4.cell? ⟨w.heap.size + 1, 0, none⟩ = some (.int .i64 0) ∧ w4.cell? ⟨w.heap.size + 1, 1, none⟩ = some (.int .i64 0) ∧ w4.cell? ⟨w.heap.size + 1, 2, none⟩ = some (.string (ByteArray.mk #[])) ∧ w4.cell? ⟨w.heap.size + 1, 3, none⟩ = some (.slice none 0 0) ∧ (∀ j, w4.frozen? ⟨w.heap.size + 1, j, none⟩ = false) ∧
      Hid (w4.heap[w.heap.size + 1]? = some (.cells #[.int .i64 0, .int .i64 0, .string (ByteArray.mk #[]), .slice none 0 0] 25 (0, 0)) ∧ TmIn (fun b => w2.heap.size ≤ b ∧ b < w4.heap.size) w4 (.agg #[.int .i64 k4, .int .i64 n4, .string s4, .slice a4 l4 c4]) (σ.fin T) ∧ Below w.heap.size w w4) := by
    intro k5 n5 s5 a5 l5 c5 w5 hT5 hb5
    refine (swhole_at _ (σ.fin T) w5 (hT5.carry (fun _ _ => rfl) fun c hc => Nat.lt_of_lt_of_le hc hb5.size) hs).mono ?_
    rintro e w4 ⟨r, rfl, hr, hb4⟩
    obtain ⟨k4, n4, s4, a4, l4, c4, ks4, rfl, -⟩ := hr.form
    have hb24 := hb5.trans (hb4.mono hb5.size)
    have y2 := tbox_below hx2 hb24
    obtain ⟨z0, z1, z2, z3⟩ := tbox_cells y2
    exact ⟨k4, n4, s4, a4, l4, c4, rfl, z0, z1, z2, z3, (fun j => by simp [World.frozen?, y2]), y2, hr.carry (fun _ _ => rfl) (fun c hc => ⟨Nat.le_trans hb5.size hc.1, hc.2⟩), hb2.trans (hb24.mono hb2.size)⟩
  have hz := zeroTerm
  have HS := Lib.hid hsz2
  have HW := Lib.hid hw2
  clear hv hb2 hx1 hx2 hsz2 e h hw2
  go_enter Try.func15, Try.ntmps15
  go_wp2_with fail
  rw [← HW.out]
  go_wp2_with (first
    | (go_at_call 27; (with_reducible refine (hwh _ _ _ _ _ _ _ hT5 hb5).mono ?_); rintro e w4 ⟨k4, n4, s4, a4, l4, c4, rfl, z0, z1, z2, z3, zf, HZ⟩)
    | (go_at_call 29; (with_reducible refine hend.mono ?_); rintro e w5 ⟨k5, n5, s5, a5, l5, c5, rfl, hT5, hb5⟩))
  obtain ⟨y2, hT, hB⟩ := HZ.out
  obtain ⟨w6, hw6, hb6, hT6, hB6, hs6⟩ := boxed_new (q := fun b => w.heap.size ≤ b ∧ b < w4.heap.size) y2 hT (fun b hb => by have := HS.out; have := hb.1; omega) (fun b hb => by have := HS.out; have := hb.1; have := hb.2; omega) hB (Nat.le_succ _)
  rw [← hw6]
  obtain ⟨f0, f1, f2, f3⟩ := tbox_cells hb6
  refine bodyPost_ret (v := .agg #[.int .i64 k4, .int .i64 n4, .string s4, .slice a4 l4 c4]) (by simp [results, Try.f15, go_sem, f0, f1, f2, f3]) rfl ?_
  exact ⟨_, rfl, by rw [hs6]; exact hT6, hB6⟩
end Go.Proofs.Ytnaopkkdidngoaa
