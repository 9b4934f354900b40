/-
  order.compareOwn: two parts without what is in their kids.
-/
import Derived.Test.YtbdkakpbhijilaaOrdA
namespace Go.Proofs.Ytbdkakpbhijilaa
open Go.RowKit Go.Shelf
set_option linter.unusedVariables false

theorem has_al {w w2 : World} {v : Value} {T : Tm} (h : Has w v T) (k : Below w.heap.size w w2) : Has w2 v T := h.below k

set_option maxRecDepth 100000 in
set_option maxHeartbeats 4000000 in
theorem own_at (u v : Value) (T U : Tm) (w : World) (hu : Has w u T) (hv : Has w v U) (hs : T.size ≤ 1000000000000) (ht : U.size ≤ 1000000000000) :
    Calls Try.prog 59 #[u, v] w (Gets w (.int .i64 (ownC T.kind T.num T.name T.kids.length U.kind U.num U.name U.kids.length))) := by
  obtain ⟨k, n, s, a, len, cap, ks, rfl, rfl, rfl, hk, hn, hs', hc, hm, ha⟩ := hu.form
  obtain ⟨k', n', s', a', len', cap', ks', rfl, rfl, rfl, hk', hn', hs'', hc', hm', ha'⟩ := hv.form
  show Calls _ _ _ _ (Gets w (.int .i64 (ownC k n s ks.length k' n' s' ks'.length)))
  have hl1 : ks.length ≤ 1000000000000 := by have := Tm.length_le_sizes ks; rw [Tm.size_mk] at hs; omega
  have hl2 : ks'.length ≤ 1000000000000 := by have := Tm.length_le_sizes ks'; rw [Tm.size_mk] at ht; omega
  obtain ⟨w2, hw2⟩ : ∃ w2, w2 = (w.alloc (.cells #[.int .i64 k, .int .i64 n, .string s, .slice a ks.length cap] 24)).alloc (.cells #[.int .i64 k', .int .i64 n', .string s', .slice a' ks'.length cap'] 24) := ⟨_, rfl⟩
  have hB2 : Below w.heap.size w w2 := by rw [hw2]; exact ((Below.refl _ w).alloc (Nat.le_refl _) _).alloc (by simp) _
  have hu2 : Has w2 (.agg #[.int .i64 k, .int .i64 n, .string s, .slice a ks.length cap]) (.mk k n s ks) := hu.below hB2
  have y1 : w2.heap[w.heap.size]? = some (.cells #[.int .i64 k, .int .i64 n, .string s, .slice a ks.length cap] 24 (0, 0)) := by rw [hw2, Below.heap_alloc _ _ _ (by simp)]; exact World.alloc_heap_new w _
  have y2 : w2.heap[w.heap.size + 1]? = some (.cells #[.int .i64 k', .int .i64 n', .string s', .slice a' ks'.length cap'] 24 (0, 0)) := by rw [hw2]; have := World.alloc_heap_new (w.alloc (.cells #[.int .i64 k, .int .i64 n, .string s, .slice a ks.length cap] 24)) (.cells #[.int .i64 k', .int .i64 n', .string s', .slice a' ks'.length cap'] 24); rw [World.size_alloc] at this; exact this
  clear hu hv hs ht hk hn hs' hc hm ha hk' hn' hs'' hc' hm' ha'
  by_cases hkk : k = k'
  case neg =>
    have e : ownC k n s ks.length k' n' s' ks'.length = c3 k k' := by unfold ownC lx; rw [if_neg (fun h => hkk ((c3_zero _ _).1 h))]
    rw [e]; clear e
    have hkk' : (k == k') = false := by simpa using hkk
    clear hkk
    subst hw2
    go_enter Try.func59, Try.ntmps59
    go_wp2_with (go_at_call 70; refine (cmp_at _ _ _).mono ?_; rintro e w' ⟨rfl, rfl⟩)
    go_ret
    exact ⟨rfl, hB2⟩
  subst hkk
  have hkk' : (k == k) = true := by simp
  have eown : ownC k n s ks.length k n' s' ks'.length = if isN k then c3 n n' else lx (c3 ks.length ks'.length) (lx (if k = 3 then 0 else c3 n n') (cB s s')) := by unfold ownC; rw [c3_self]; rfl
  rw [eown]; clear eown
  have num := numbered_at _ _ w2 hu2
  clear hu2
  have hKIND : (Tm.mk k n s ks).kind = k := rfl
  rw [hKIND] at num
  clear hKIND
  by_cases hN : isN k
  case pos =>
    rw [if_pos hN]
    rw [decide_eq_true hN] at num
    clear hN
    subst hw2
    go_enter Try.func59, Try.ntmps59
    go_wp2_with (first | (go_at_call 60;  refine num.mono ?_; clear num; rintro e w4 ⟨rfl, hb⟩; have Z1 := (hb.block _ (by simp <;> omega)).trans y1; have Z2 := (hb.block _ (by simp <;> omega)).trans y2; have HB := Lib.hid (hB2.trans (hb.mono hB2.size)); obtain ⟨d0, d1, d2, d3⟩ := tbox_cells Z1; obtain ⟨e0, e1, e2, e3⟩ := tbox_cells Z2; clear Z1 Z2 y1 y2 hb hB2) | (go_at_call 71; refine (cmp64_at _ _ _).mono ?_; rintro e w' ⟨rfl, rfl⟩))
    go_ret
    exact ⟨rfl, HB.out⟩
  rw [if_neg hN]
  rw [decide_eq_false hN] at num
  clear hN
  by_cases hl : ks.length = ks'.length
  case neg =>
    have e : lx (c3 ks.length ks'.length) (lx (if k = 3 then 0 else c3 n n') (cB s s')) = c3 ks.length ks'.length := by unfold lx; rw [if_neg (fun h => hl (by have := (c3_zero _ _).1 h; omega))]
    rw [e]; clear e
    have hl' : ((ks.length : Int) == (ks'.length : Int)) = false := beq_eq_false_iff_ne.2 (by omega)
    clear hl
    subst hw2
    go_enter Try.func59, Try.ntmps59
    go_wp2_with (first | (go_at_call 60;  refine num.mono ?_; clear num; rintro e w4 ⟨rfl, hb⟩; have Z1 := (hb.block _ (by simp <;> omega)).trans y1; have Z2 := (hb.block _ (by simp <;> omega)).trans y2; have HB := Lib.hid (hB2.trans (hb.mono hB2.size)); obtain ⟨d0, d1, d2, d3⟩ := tbox_cells Z1; obtain ⟨e0, e1, e2, e3⟩ := tbox_cells Z2; clear Z1 Z2 y1 y2 hb hB2) | (go_at_call 70; refine (cmp_at _ _ _).mono ?_; rintro e w' ⟨rfl, rfl⟩))
    go_ret
    exact ⟨rfl, HB.out⟩
  have el : lx (c3 ks.length ks'.length) (lx (if k = 3 then 0 else c3 n n') (cB s s')) = lx (if k = 3 then 0 else c3 n n') (cB s s') := by rw [hl, c3_self]; rfl
  rw [el]; clear el
  have hl' : ((ks.length : Int) == (ks'.length : Int)) = true := beq_iff_eq.2 (by omega)
  clear hl
  by_cases h3 : k = 3
  case pos =>
    rw [if_pos h3]
    show Calls _ _ _ _ (Gets w (.int .i64 (cB s s')))
    subst h3
    clear hkk'
    generalize hcb : cB s s' = z
    have scmp : ∀ W, Calls Try.prog 72 #[.string s, .string s'] W fun e w' => e = .returned (.int .i64 z) ∧ w' = W := fun W => by rw [← hcb]; exact scmp_at s s' W
    clear hcb
    subst hw2
    go_enter Try.func59, Try.ntmps59
    go_wp2_with (first | (go_at_call 60;  refine num.mono ?_; clear num; rintro e w4 ⟨rfl, hb⟩; have Z1 := (hb.block _ (by simp <;> omega)).trans y1; have Z2 := (hb.block _ (by simp <;> omega)).trans y2; have HB := Lib.hid (hB2.trans (hb.mono hB2.size)); obtain ⟨d0, d1, d2, d3⟩ := tbox_cells Z1; obtain ⟨e0, e1, e2, e3⟩ := tbox_cells Z2; clear Z1 Z2 y1 y2 hb hB2) | (go_at_call 72; refine (scmp _).mono ?_; rintro e w' ⟨rfl, rfl⟩))
    go_ret
    exact ⟨rfl, HB.out⟩
  rw [if_neg h3]
  have h3' : (k != 3) = true := by simpa using h3
  by_cases hn : n = n'
  case neg =>
    have e : lx (c3 n n') (cB s s') = c3 n n' := by unfold lx; rw [if_neg (fun h => hn ((c3_zero _ _).1 h))]
    rw [e]; clear e
    have hn' : (n != n') = true := by simpa using hn
    subst hw2
    go_enter Try.func59, Try.ntmps59
    go_wp2_with (first | (go_at_call 60;  refine num.mono ?_; clear num; rintro e w4 ⟨rfl, hb⟩; have Z1 := (hb.block _ (by simp <;> omega)).trans y1; have Z2 := (hb.block _ (by simp <;> omega)).trans y2; have HB := Lib.hid (hB2.trans (hb.mono hB2.size)); obtain ⟨d0, d1, d2, d3⟩ := tbox_cells Z1; obtain ⟨e0, e1, e2, e3⟩ := tbox_cells Z2; clear Z1 Z2 y1 y2 hb hB2) | (go_at_call 71; refine (cmp64_at _ _ _).mono ?_; rintro e w' ⟨rfl, rfl⟩))
    go_ret
    exact ⟨rfl, HB.out⟩
  have en : lx (c3 n n') (cB s s') = cB s s' := by rw [hn, c3_self]; rfl
  rw [en]; clear en
  subst hn
  generalize hcb : cB s s' = z
  have scmp : ∀ W, Calls Try.prog 72 #[.string s, .string s'] W fun e w' => e = .returned (.int .i64 z) ∧ w' = W := fun W => by rw [← hcb]; exact scmp_at s s' W
  clear hcb
  subst hw2
  go_enter Try.func59, Try.ntmps59
  go_wp2_with (first | (go_at_call 60;  refine num.mono ?_; clear num; rintro e w4 ⟨rfl, hb⟩; have Z1 := (hb.block _ (by simp <;> omega)).trans y1; have Z2 := (hb.block _ (by simp <;> omega)).trans y2; have HB := Lib.hid (hB2.trans (hb.mono hB2.size)); obtain ⟨d0, d1, d2, d3⟩ := tbox_cells Z1; obtain ⟨e0, e1, e2, e3⟩ := tbox_cells Z2; clear Z1 Z2 y1 y2 hb hB2) | (go_at_call 72; refine (scmp _).mono ?_; rintro e w' ⟨rfl, rfl⟩))
  go_ret
  exact ⟨rfl, HB.out⟩
end Go.Proofs.Ytbdkakpbhijilaa
