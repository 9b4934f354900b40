/-
  term.Size, term.Deep, term.over: what they count over a term's parts.
-/
import Derived.Test.YtbdkakpbhijilaaWalk
namespace Go.Proofs.Ytbdkakpbhijilaa
open Go.RowKit Go.Shelf
set_option linter.unusedVariables false
attribute [local go_sem] Oper.semAt_some

/-- A call's answer, and that nothing that was there has turned. -/
def Gets (w : World) (v : Value) (e : Ending) (w' : World) : Prop := e = .returned v ∧ Below w.heap.size w w'

abbrev Has (w : World) (v : Value) (T : Tm) : Prop := IsTm w.heap.size w v T
theorem Has.below {w w' : World} {v : Value} {T : Tm} (h : Has w v T) (k : Below w.heap.size w w') : Has w' v T := IsTm.later k k.size h

theorem tbox_cells {W : World} {B : Nat} {c0 c1 c2 c3 : Value} {z : Nat} (h : W.heap[B]? = some (.cells #[c0, c1, c2, c3] z (0, 0))) :
    W.cell? ⟨B, 0, none⟩ = some c0 ∧ W.cell? ⟨B, 1, none⟩ = some c1 ∧ W.cell? ⟨B, 2, none⟩ = some c2 ∧ W.cell? ⟨B, 3, none⟩ = some c3 := by
  refine ⟨?_, ?_, ?_, ?_⟩ <;> simp [World.cell?, h]

theorem keeps_set {n₀ : Nat} {W : World} {B : Nat} {t : TypeId} {v : Value} (h : Boxed W B t v) (ht : t ≠ 24) (hB : n₀ ≤ B) (u : Value) : Keeps n₀ W (W.setCell ⟨B, 0, none⟩ u) :=
  ⟨(Below.refl _ _).setCell (p := ⟨B, 0, none⟩) hB u, fun b c z e => by
    by_cases hb : b = B
    · subst hb; rw [show W.heap[b]? = _ from h] at e; cases e; exact absurd rfl ht
    · exact (Below.heap_setCell W ⟨B, 0, none⟩ u b hb).trans e⟩

/-- The greatest depth that has come. -/
def maxOf (l : List (Nat × Tm)) : Nat := l.foldl (fun m x => max m x.1) 0
theorem maxOf_snoc (l : List (Nat × Tm)) (x : Nat × Tm) : maxOf (l ++ [x]) = max (maxOf l) x.1 := by simp [maxOf]
theorem foldl_max (l : List (Nat × Tm)) : ∀ m, l.foldl (fun m x => max m x.1) m = max m (maxOf l) := by
  induction l with
  | nil => intro m; simp [maxOf]
  | cons x l ih =>
    intro m
    rw [maxOf, List.foldl_cons, List.foldl_cons, ih, ih]
    omega
theorem maxOf_append (l r : List (Nat × Tm)) : maxOf (l ++ r) = max (maxOf l) (maxOf r) := by
  rw [maxOf, List.foldl_append, foldl_max]; rfl
theorem maxOf_cons (x : Nat × Tm) (l : List (Nat × Tm)) : maxOf (x :: l) = max x.1 (maxOf l) := by
  rw [maxOf, List.foldl_cons, foldl_max]; simp

mutual
/-- How deep a term is. -/
def Tm.deep : Tm → Nat
  | .mk _ _ _ ks => Tm.deeps ks + 1
def Tm.deeps : List Tm → Nat
  | [] => 0
  | t :: ts => max t.deep (Tm.deeps ts)
end
theorem Tm.deep_mk (k n : Int) (s : ByteArray) (ks : List Tm) : (Tm.mk k n s ks).deep = Tm.deeps ks + 1 := by rw [Tm.deep]
theorem Tm.deeps_nil : Tm.deeps [] = 0 := by rw [Tm.deeps]
theorem Tm.deeps_cons (t : Tm) (ts : List Tm) : Tm.deeps (t :: ts) = max t.deep (Tm.deeps ts) := by rw [Tm.deeps]
theorem Tm.deep_pos (t : Tm) : 1 ≤ t.deep := by cases t; rw [Tm.deep_mk]; omega
theorem Tm.partss_max (d : Nat) : ∀ (ks : List Tm), (∀ t ∈ ks, ∀ d, maxOf (t.parts (d + 1)) = d + t.deep) → maxOf (Tm.partss (d + 1) ks) = if ks = [] then 0 else d + Tm.deeps ks
  | [], _ => by simp [Tm.partss_nil, maxOf]
  | t :: ts, h => by
    rw [Tm.partss_cons, maxOf_append, h t (by simp), Tm.partss_max d ts fun u hu => h u (by simp [hu]), Tm.deeps_cons]
    by_cases e : ts = []
    · subst e; simp [Tm.deeps_nil]
    · rw [if_neg e, if_neg (List.cons_ne_nil _ _)]; omega
theorem Tm.parts_max (t : Tm) : ∀ d, maxOf (t.parts (d + 1)) = d + t.deep := by
  induction t using Tm.ind with
  | h k n s ks ih =>
    intro d
    rw [Tm.parts_mk, maxOf_cons, Tm.deep_mk, Tm.partss_max (d + 1) ks ih]
    by_cases e : ks = []
    · subst e; simp [Tm.deeps_nil]
    · rw [if_neg e]; simp only; omega
theorem Tm.deeps_le : ∀ (ks : List Tm), (∀ t ∈ ks, t.deep ≤ t.size) → Tm.deeps ks ≤ Tm.sizes ks
  | [], _ => by simp [Tm.deeps_nil]
  | t :: ts, h => by
    have := h t (by simp)
    have := Tm.deeps_le ts fun u hu => h u (by simp [hu])
    rw [Tm.deeps_cons, Tm.sizes_cons]
    omega
theorem Tm.deep_le (t : Tm) : t.deep ≤ t.size := by
  induction t using Tm.ind with
  | h k n s ks ih => rw [Tm.deep_mk, Tm.size_mk]; have := Tm.deeps_le ks ih; omega

set_option maxRecDepth 100000 in
set_option maxHeartbeats 2000000 in
theorem deep_at (v : Value) (T : Tm) (w : World) (ht : Has w v T) (hs : T.size ≤ 4000000000000000000) :
    Calls Try.prog 41 #[v] w (Gets w (.int .i64 (T.deep : Int))) := by
  refine (callsIn_wide (n := 3)).1 ?_
  obtain ⟨k_, n_, s_, a, len, cap, ks_, rfl, e, hl, hk, hn, hs', hc, hm, ha⟩ := ht.form
  clear e hl hk hn hs' hc hm ha
  refine callsIn_of_wp_marks Try.func41 rfl trivial ?_ rfl
  simp only [Try.ntmps41, List.size_toArray, List.length_cons, List.length_nil, Nat.reduceAdd, Nat.reduceSub, Array.replicate_succ, Array.replicate_zero, List.push_toArray, List.append_toArray, List.nil_append, List.cons_append]
  gi_wp2_with (refine ⟨trivial, ?_⟩; gi_at_call 64; refine (parts_in Fence.wide _ trivial rfl _ _ _ _ _).mono ?_; rintro e w' ⟨rfl, rfl⟩)
  have bC := Boxed.new (w.alloc (.cells #[.int .i64 k_, .int .i64 n_, .string s_, .slice a len cap] 24)) 3 (.int .i64 0)
  have hT := World.alloc_heap_new ((w.alloc (.cells #[.int .i64 k_, .int .i64 n_, .string s_, .slice a len cap] 24)).alloc (.cells #[.int .i64 0] 3)) (.cells #[.int .i64 k_, .int .i64 n_, .string s_, .slice a len cap] 24)
  simp only [World.size_alloc] at bC hT
  have hB0 : Below w.heap.size w (((w.alloc (.cells #[.int .i64 k_, .int .i64 n_, .string s_, .slice a len cap] 24)).alloc (.cells #[.int .i64 0] 3)).alloc (.cells #[.int .i64 k_, .int .i64 n_, .string s_, .slice a len cap] 24)) :=
    (((Below.refl _ w).alloc (Nat.le_refl _) _).alloc (by simp) _).alloc (by simp; omega) _
  refine wpIn_rangeFunc_ownG rfl (by decide) (gf := 75) (lb := #[.pointer (some ⟨w.heap.size + 1 + 1, 0, none⟩)]) rfl trivial (enters_of Try.func75 (by kernel_rfl) rfl)
    (parts_stops Fence.wide rfl _ trivial trivial rfl (w.heap.size + 1 + 1) w.heap.size T (.agg #[.int .i64 k_, .int .i64 n_, .string s_, .slice a len cap]) _ w (by simp; omega) hB0 hT ht hs) keeps_t (keeps_b (by simp; omega)) (Below.refl _ _) (fun _ => rfl)
    (fun pre W => Boxed W (w.heap.size + 1) 3 (.int .i64 (maxOf (pre.map Part.key) : Int)) ∧ Below w.heap.size w W)
    (fun _ _ _ => False)
    (OwnFrom.and (Own.from (boxed_own _ _ _) _) (ownFrom_below (Nat.le_refl _) (by simp; omega)))
    (fun _ _ _ _ _ hs _ _ => hs)
    ⟨bC.alloc _, hB0⟩
    (fun x => { tmps := #[.agg #[.int .i64 k_, .int .i64 n_, .string s_, .slice a len cap], .pointer (some ⟨w.heap.size, 0, none⟩), .int .i64 0, .pointer (some ⟨w.heap.size + 1, 0, none⟩), .int .i64 (x.1.1 : Int), .agg #[.int .i64 k_, .int .i64 n_, .string s_, .slice a len cap], .func (.func 75) #[] #[.pointer (some ⟨w.heap.size + 1 + 1, 0, none⟩)], .int .i64 (x.1.1 : Int), x.1.2.1, undef, undef, undef, undef], defers := [] }) ?assign ?body ?done ?stop
  case assign =>
    intro l x W K hK
    gi_wp2
    first | exact hK | simpa [Array.setIfInBounds] using hK
  case body =>
    rintro l pre x W ⟨hv, hB⟩ hlt
    have hc := hv.cell
    have hf := hv.frozen
    obtain ⟨m, hm⟩ : ∃ m, maxOf (pre.map Part.key) = m := ⟨_, rfl⟩
    rw [hm] at hc hv
    obtain ⟨⟨d, u, X⟩, hx⟩ := x
    simp only at hx ⊢
    gi_wp2
    all_goals
      refine ⟨(KeepsOthers.setCell _ _ _).from _, keeps_set hv (by decide) (by omega) _, ?_, hB.setCell (p := ⟨w.heap.size + 1, 0, none⟩) (by simp) _⟩
      rw [List.map_append, List.map_cons, List.map_nil, maxOf_snoc, hm]
      simp only [Part.key]
      first
        | (rw [show max m d = m by omega]; exact hv.set _)
        | (rw [show max m d = d by omega]; exact hv.set _)
  case done =>
    rintro D ys W hD hy ⟨hv, hB⟩ hK
    have hc := hv.cell
    have hmx := T.parts_max 0
    rw [Nat.zero_add, Nat.zero_add] at hmx
    rw [hy, hmx] at hc
    gi_wp2
    refine ⟨by simp, .inl ⟨_, _, rfl, run_takeDeferred hK, ?_⟩⟩
    exact ⟨_, results_tmp rfl _ _ _, rfl, hB.trans (belowK_b (w := w) (Nat.le_refl _) W D _ _ (by simp at hD; omega) hK rfl rfl)⟩
  case stop =>
    rintro D c pre W _ _ h _
    exact h.elim

set_option maxRecDepth 100000 in
set_option maxHeartbeats 2000000 in
theorem over_at (v : Value) (T : Tm) (most : Nat) (w : World) (ht : Has w v T) (hs : T.size ≤ 4000000000000000000) (hmo : most ≤ 4000000000000000000) :
    Calls Try.prog 40 #[v, .int .i64 (most : Int)] w (Gets w (.bool (decide (most < T.size)))) := by
  refine (callsIn_wide (n := 3)).1 ?_
  obtain ⟨k_, n_, s_, a, len, cap, ks_, rfl, e, hl, hk, hn, hs', hc, hm, ha⟩ := ht.form
  clear e hl hk hn hs' hc hm ha
  refine callsIn_of_wp_marks Try.func40 rfl trivial ?_ rfl
  simp only [Try.ntmps40, List.size_toArray, List.length_cons, List.length_nil, Nat.reduceAdd, Nat.reduceSub, Array.replicate_succ, Array.replicate_zero, List.push_toArray, List.append_toArray, List.nil_append, List.cons_append]
  gi_wp2_with (refine ⟨trivial, ?_⟩; gi_at_call 64; refine (parts_in Fence.wide _ trivial rfl _ _ _ _ _).mono ?_; rintro e w' ⟨rfl, rfl⟩)
  have bM := Boxed.new (w.alloc (.cells #[.int .i64 k_, .int .i64 n_, .string s_, .slice a len cap] 24)) 3 (.int .i64 (most : Int))
  have bR := Boxed.new ((w.alloc (.cells #[.int .i64 k_, .int .i64 n_, .string s_, .slice a len cap] 24)).alloc (.cells #[.int .i64 (most : Int)] 3)) 4 (.bool false)
  have bC := Boxed.new (((w.alloc (.cells #[.int .i64 k_, .int .i64 n_, .string s_, .slice a len cap] 24)).alloc (.cells #[.int .i64 (most : Int)] 3)).alloc (.cells #[.bool false] 4)) 3 (.int .i64 0)
  have hT := World.alloc_heap_new ((((w.alloc (.cells #[.int .i64 k_, .int .i64 n_, .string s_, .slice a len cap] 24)).alloc (.cells #[.int .i64 (most : Int)] 3)).alloc (.cells #[.bool false] 4)).alloc (.cells #[.int .i64 0] 3)) (.cells #[.int .i64 k_, .int .i64 n_, .string s_, .slice a len cap] 24)
  simp only [World.size_alloc] at bM bR bC hT
  have hB0 : Below w.heap.size w (((((w.alloc (.cells #[.int .i64 k_, .int .i64 n_, .string s_, .slice a len cap] 24)).alloc (.cells #[.int .i64 (most : Int)] 3)).alloc (.cells #[.bool false] 4)).alloc (.cells #[.int .i64 0] 3)).alloc (.cells #[.int .i64 k_, .int .i64 n_, .string s_, .slice a len cap] 24)) :=
    (((((Below.refl _ w).alloc (Nat.le_refl _) _).alloc (by simp) _).alloc (by simp; omega) _).alloc (by simp; omega) _).alloc (by simp; omega) _
  refine wpIn_rangeFunc_ownG rfl (by decide) (gf := 75) (lb := #[.pointer (some ⟨w.heap.size + 1 + 1 + 1 + 1, 0, none⟩)]) rfl trivial (enters_of Try.func75 (by kernel_rfl) rfl)
    (parts_stops Fence.wide rfl _ trivial trivial rfl (w.heap.size + 1 + 1 + 1 + 1) w.heap.size T (.agg #[.int .i64 k_, .int .i64 n_, .string s_, .slice a len cap]) _ w (by simp; omega) hB0 hT ht hs) keeps_t (keeps_b (by simp; omega)) (Below.refl _ _) (fun _ => rfl)
    (fun pre W => (Boxed W (w.heap.size + 1) 3 (.int .i64 (most : Int)) ∧ Boxed W (w.heap.size + 1 + 1) 4 (.bool false) ∧ Boxed W (w.heap.size + 1 + 1 + 1) 3 (.int .i64 (pre.length : Int)) ∧ pre.length ≤ most) ∧ Below w.heap.size w W)
    (fun c pre W => (c = .ret ∧ Boxed W (w.heap.size + 1 + 1) 4 (.bool true) ∧ most < pre.length) ∧ Below w.heap.size w W)
    (OwnFrom.and (OwnFrom.and (Own.from (boxed_own _ _ _) _) (OwnFrom.and (Own.from (boxed_own _ _ _) _) (OwnFrom.and (Own.from (boxed_own _ _ _) _) (ownFrom_pure _ _)))) (ownFrom_below (Nat.le_refl _) (by simp; omega)))
    (fun c => OwnFrom.and (OwnFrom.and (ownFrom_pure _ _) (OwnFrom.and (Own.from (boxed_own _ _ _) _) (ownFrom_pure _ _))) (ownFrom_below (Nat.le_refl _) (by simp; omega)))
    ⟨⟨((bM.alloc _).alloc _).alloc _, (bR.alloc _).alloc _, bC.alloc _, Nat.zero_le _⟩, hB0⟩
    (fun x => { tmps := #[.agg #[.int .i64 k_, .int .i64 n_, .string s_, .slice a len cap], .int .i64 (most : Int), .pointer (some ⟨w.heap.size, 0, none⟩), .pointer (some ⟨w.heap.size + 1, 0, none⟩), .pointer (some ⟨w.heap.size + 1 + 1, 0, none⟩), .pointer (some ⟨w.heap.size + 1 + 1 + 1, 0, none⟩), .agg #[.int .i64 k_, .int .i64 n_, .string s_, .slice a len cap], .func (.func 75) #[] #[.pointer (some ⟨w.heap.size + 1 + 1 + 1 + 1, 0, none⟩)], .int .i64 (x.1.1 : Int), x.1.2.1, undef, undef, undef, undef, undef], defers := [] }) ?assign ?body ?done ?stop
  case assign =>
    intro l x W K hK
    gi_wp2
    first | exact hK | simpa [Array.setIfInBounds] using hK
  case body =>
    rintro l pre x W ⟨⟨hM, hR, hv, hle⟩, hB⟩ hlt
    have hc := hv.cell
    have hf := hv.frozen
    have hcM := hM.cell
    have hcR := hR.cell
    have hfR := hR.frozen
    have h1 : (pre.length : Int) ≤ 4000000000000000000 := by omega
    have hM2 := hM.other (B' := w.heap.size + 1 + 1 + 1) (by omega) (.int .i64 ((pre.length : Int) + 1))
    have hR2 := hR.other (B' := w.heap.size + 1 + 1 + 1) (by omega) (.int .i64 ((pre.length : Int) + 1))
    have hv2 := hv.set (.int .i64 ((pre.length : Int) + 1))
    have hk2 := keeps_set (n₀ := w.heap.size) hv (by decide) (by omega) (.int .i64 ((pre.length : Int) + 1))
    have hB2 := hB.setCell (p := ⟨w.heap.size + 1 + 1 + 1, 0, none⟩) (by simp; omega) (.int .i64 ((pre.length : Int) + 1))
    have hcM2 := hM2.cell
    have hcR2 := hR2.cell
    have hfR2 := hR2.frozen
    have hc2 := hv2.cell
    gi_wp2
    · refine ⟨((KeepsOthers.setCell _ _ _).trans (KeepsOthers.setCell _ _ _)).from _, ⟨rfl, hR2.set _, ?_⟩, hB2.setCell (p := ⟨w.heap.size + 1 + 1, 0, none⟩) (by simp; omega) _⟩
      rw [List.length_append, List.length_singleton]; omega
    · refine ⟨(KeepsOthers.setCell _ _ _).from _, hk2, ⟨hM2, hR2, ?_, ?_⟩, hB2⟩
      · simpa using hv2
      · rw [List.length_append, List.length_singleton]; omega
  case done =>
    rintro D ys W hD hy ⟨⟨hM, hR, hv, hle⟩, hB⟩ hK
    have hlen : ys.length = T.size := by rw [← T.parts_length 1, ← hy, List.length_map]
    have hcR := hR.cell
    have hfR := hR.frozen
    gi_wp2
    have hK' := (KeepsOthers.setCell W ⟨w.heap.size + 1 + 1, 0, none⟩ (.bool false)).same D _ hK rfl
    refine ⟨by simp, .inl ⟨_, _, rfl, run_takeDeferred hK', ?_⟩⟩
    have hc5 := cell_kept (hR.set (.bool false)).cell (grownBy_putObj' _ D (.deferred none)) (fun r e => by cases e; exact ⟨_, hK', rfl⟩)
    refine ⟨.bool false, ?_, by rw [decide_eq_false (by omega)], (hB.setCell (p := ⟨w.heap.size + 1 + 1, 0, none⟩) (by simp; omega) _).trans (belowK_b (w := w) (Nat.le_refl _) _ D _ _ (by simp at hD; omega) hK' rfl rfl)⟩
    simp [results, Try.f40, go_sem, hc5]
  case stop =>
    rintro D c pre W hD hpre ⟨⟨rfl, hR, hlt⟩, hB⟩ hK
    have hle : pre.length ≤ T.size := by have := hpre.length_le; rw [List.length_map, T.parts_length] at this; exact this
    gi_wp2
    refine ⟨by simp, .inl ⟨_, _, rfl, run_takeDeferred hK, ?_⟩⟩
    have hc5 := cell_kept hR.cell (grownBy_putObj' _ D (.deferred none)) (fun r e => by cases e; exact ⟨_, hK, rfl⟩)
    refine ⟨.bool true, ?_, by rw [decide_eq_true (by omega)], hB.trans (belowK_b (w := w) (Nat.le_refl _) W D _ _ (by simp at hD; omega) hK rfl rfl)⟩
    simp [results, Try.f40, go_sem, hc5]

end Go.Proofs.Ytbdkakpbhijilaa
