/-
  term.Size, term.Deep, term.over: what they count over a term's parts.
-/
import Derived.Test.YtlnggaepmclbkaaZTmn2
import Derived.Test.YtlnggaepmclbkaaRows
import Derived.ProofKit
import Derived.OpenShut
import Derived.ShutString
import Derived.ChangeOld
import Derived.Below
import Derived.JoinedCond
import Derived.Deep.Slices
namespace Go.Proofs.Ytlnggaepmclbkaa
open Go.RowKit Go.Shelf
set_option linter.unusedVariables false
attribute [local go_sem] Oper.semAt_some

/-- A call's answer, and that nothing that was there has turned. -/
def Gets (w : World) (v : Value) (e : Ending) (w' : World) : Prop := e = .returned v ∧ Below w.heap.size w w'

abbrev Has (w : World) (v : Value) (T : Tm) : Prop := IsTm w.heap.size w v T
theorem Has.below {w w' : World} {v : Value} {T : Tm} (h : Has w v T) (k : Below w.heap.size w w') : Has w' v T := IsTm.later k k.size h

theorem tbox_cells {W : World} {B : Nat} {c0 c1 c2 c3 : Value} {z : Nat} (h : W.heap[B]? = some (.cells #[c0, c1, c2, c3] z (0, 0))) :
    W.cell? ⟨B, 0, none⟩ = some c0 ∧ W.cell? ⟨B, 1, none⟩ = some c1 ∧ W.cell? ⟨B, 2, none⟩ = some c2 ∧ W.cell? ⟨B, 3, none⟩ = some c3 := by
  refine ⟨?_, ?_, ?_, ?_⟩ <;> simp [World.cell?, h]

theorem keeps_set {n₀ : Nat} {W : World} {B : Nat} {t : TypeId} {v : Value} (h : Boxed W B t v) (ht : t ≠ 24) (hB : n₀ ≤ B) (u : Value) : Keeps n₀ W (W.setCell ⟨B, 0, none⟩ u) :=
  ⟨(Below.refl _ _).setCell (p := ⟨B, 0, none⟩) hB u, fun b c z e => by
    by_cases hb : b = B
    · subst hb; rw [show W.heap[b]? = _ from h] at e; cases e; exact absurd rfl ht
    · exact (Below.heap_setCell W ⟨B, 0, none⟩ u b hb).trans e⟩

set_option maxRecDepth 100000 in
set_option maxHeartbeats 2000000 in
theorem size_at (v : Value) (T : Tm) (w : World) (ht : Has w v T) (hs : T.size ≤ 4000000000000000000) :
    Calls Try.prog 16 #[v] w (Gets w (.int .i64 (T.size : Int))) := by
  refine (callsIn_wide (n := 3)).1 ?_
  obtain ⟨k_, n_, s_, a, len, cap, ks_, rfl, e, hl, hk, hn, hs', hc, hm, ha⟩ := ht.form
  clear e hl hk hn hs' hc hm ha
  refine callsIn_of_wp_marks Try.func16 rfl trivial ?_ rfl
  simp only [Try.ntmps16, List.size_toArray, List.length_cons, List.length_nil, Nat.reduceAdd, Nat.reduceSub, Array.replicate_succ, Array.replicate_zero, List.push_toArray, List.append_toArray, List.nil_append, List.cons_append]
  gi_wp2_with (refine ⟨trivial, ?_⟩; gi_at_call 34; refine (parts_in Fence.wide _ trivial rfl _ _ _ _ _).mono ?_; rintro e w' ⟨rfl, rfl⟩)
  have bC := Boxed.new (w.alloc (.cells #[.int .i64 k_, .int .i64 n_, .string s_, .slice a len cap] 24)) 3 (.int .i64 0)
  have hT := World.alloc_heap_new ((w.alloc (.cells #[.int .i64 k_, .int .i64 n_, .string s_, .slice a len cap] 24)).alloc (.cells #[.int .i64 0] 3)) (.cells #[.int .i64 k_, .int .i64 n_, .string s_, .slice a len cap] 24)
  simp only [World.size_alloc] at bC hT
  have hB0 : Below w.heap.size w (((w.alloc (.cells #[.int .i64 k_, .int .i64 n_, .string s_, .slice a len cap] 24)).alloc (.cells #[.int .i64 0] 3)).alloc (.cells #[.int .i64 k_, .int .i64 n_, .string s_, .slice a len cap] 24)) :=
    (((Below.refl _ w).alloc (Nat.le_refl _) _).alloc (by simp) _).alloc (by simp; omega) _
  refine wpIn_rangeFunc_ownG rfl (by decide) (gf := 41) (lb := #[.pointer (some ⟨w.heap.size + 1 + 1, 0, none⟩)]) rfl trivial (enters_of Try.func41 (by kernel_rfl) rfl)
    (parts_stops Fence.wide rfl _ trivial trivial rfl (w.heap.size + 1 + 1) w.heap.size T (.agg #[.int .i64 k_, .int .i64 n_, .string s_, .slice a len cap]) _ w (by simp; omega) hB0 hT ht hs) keeps_t (keeps_b (by simp; omega)) (Below.refl _ _) (fun _ => rfl)
    (fun pre W => Boxed W (w.heap.size + 1) 3 (.int .i64 (pre.length : Int)) ∧ Below w.heap.size w W)
    (fun _ _ _ => False)
    (OwnFrom.and (Own.from (boxed_own _ _ _) _) (ownFrom_below (Nat.le_refl _) (by simp; omega)))
    (fun _ _ _ _ _ hs _ _ => hs)
    ⟨bC.alloc _, hB0⟩
    (fun x => { tmps := #[.agg #[.int .i64 k_, .int .i64 n_, .string s_, .slice a len cap], .pointer (some ⟨w.heap.size, 0, none⟩), .int .i64 0, .pointer (some ⟨w.heap.size + 1, 0, none⟩), .agg #[.int .i64 k_, .int .i64 n_, .string s_, .slice a len cap], .func (.func 41) #[] #[.pointer (some ⟨w.heap.size + 1 + 1, 0, none⟩)], .int .i64 (x.1.1 : Int), x.1.2.1, undef, undef, undef], defers := [] }) ?assign ?body ?done ?stop
  case assign =>
    intro l x W K hK
    gi_wp2
    simpa [Array.setIfInBounds] using hK
  case body =>
    rintro l pre x W ⟨hv, hB⟩ hlt
    have hc := hv.cell
    have hf := hv.frozen
    have h1 : (pre.length : Int) ≤ 4000000000000000000 := by omega
    gi_wp2
    refine ⟨(KeepsOthers.setCell _ _ _).from _, keeps_set hv (by decide) (by omega) _, ?_, hB.setCell (p := ⟨w.heap.size + 1, 0, none⟩) (by simp) _⟩
    have := hv.set (.int .i64 ((pre.length : Int) + 1))
    simpa using this
  case done =>
    rintro D ys W hD hy ⟨hv, hB⟩ hK
    have hc := hv.cell
    have hlen : ys.length = T.size := by rw [← T.parts_length 1, ← hy, List.length_map]
    rw [hlen] at hc
    gi_wp2
    refine ⟨by simp, .inl ⟨_, _, rfl, run_takeDeferred hK, ?_⟩⟩
    exact ⟨_, results_tmp rfl _ _ _, rfl, hB.trans (belowK_b (w := w) (Nat.le_refl _) W D _ _ (by simp at hD; omega) hK rfl rfl)⟩
  case stop =>
    rintro D c pre W _ _ h _
    exact h.elim

/-- The greatest depth that has come. -/
def maxOf (l : List (Nat × Tm)) : Nat := l.foldl (fun m x => max m x.1) 0
theorem maxOf_snoc (l : List (Nat × Tm)) (x : Nat × Tm) : maxOf (l ++ [x]) = max (maxOf l) x.1 := by simp [maxOf]
theorem foldl_max (l : List (Nat × Tm)) : ∀ m, l.foldl (fun m x => max m x.1) m = max m (maxOf l) := by
  induction l with
  | nil => intro m; simp [maxOf]
  | cons x l ih =>
    intro m
    rw [maxOf, List.foldl_cons, List.foldl_cons, ih, ih]
    omega
theorem maxOf_append (l r : List (Nat × Tm)) : maxOf (l ++ r) = max (maxOf l) (maxOf r) := by
  rw [maxOf, List.foldl_append, foldl_max]; rfl
theorem maxOf_cons (x : Nat × Tm) (l : List (Nat × Tm)) : maxOf (x :: l) = max x.1 (maxOf l) := by
  rw [maxOf, List.foldl_cons, foldl_max]; simp

mutual
/-- How deep a term is. -/
def Tm.deep : Tm → Nat
  | .mk _ _ _ ks => Tm.deeps ks + 1
def Tm.deeps : List Tm → Nat
  | [] => 0
  | t :: ts => max t.deep (Tm.deeps ts)
end
theorem Tm.deep_mk (k n : Int) (s : ByteArray) (ks : List Tm) : (Tm.mk k n s ks).deep = Tm.deeps ks + 1 := by rw [Tm.deep]
theorem Tm.deeps_nil : Tm.deeps [] = 0 := by rw [Tm.deeps]
theorem Tm.deeps_cons (t : Tm) (ts : List Tm) : Tm.deeps (t :: ts) = max t.deep (Tm.deeps ts) := by rw [Tm.deeps]
theorem Tm.deep_pos (t : Tm) : 1 ≤ t.deep := by cases t; rw [Tm.deep_mk]; omega
theorem Tm.partss_max (d : Nat) : ∀ (ks : List Tm), (∀ t ∈ ks, ∀ d, maxOf (t.parts (d + 1)) = d + t.deep) → maxOf (Tm.partss (d + 1) ks) = if ks = [] then 0 else d + Tm.deeps ks
  | [], _ => by simp [Tm.partss_nil, maxOf]
  | t :: ts, h => by
    rw [Tm.partss_cons, maxOf_append, h t (by simp), Tm.partss_max d ts fun u hu => h u (by simp [hu]), Tm.deeps_cons]
    by_cases e : ts = []
    · subst e; simp [Tm.deeps_nil]
    · rw [if_neg e, if_neg (List.cons_ne_nil _ _)]; omega
theorem Tm.parts_max (t : Tm) : ∀ d, maxOf (t.parts (d + 1)) = d + t.deep := by
  induction t using Tm.ind with
  | h k n s ks ih =>
    intro d
    rw [Tm.parts_mk, maxOf_cons, Tm.deep_mk, Tm.partss_max (d + 1) ks ih]
    by_cases e : ks = []
    · subst e; simp [Tm.deeps_nil]
    · rw [if_neg e]; simp only; omega
theorem Tm.deeps_le : ∀ (ks : List Tm), (∀ t ∈ ks, t.deep ≤ t.size) → Tm.deeps ks ≤ Tm.sizes ks
  | [], _ => by simp [Tm.deeps_nil]
  | t :: ts, h => by
    have := h t (by simp)
    have := Tm.deeps_le ts fun u hu => h u (by simp [hu])
    rw [Tm.deeps_cons, Tm.sizes_cons]
    omega
theorem Tm.deep_le (t : Tm) : t.deep ≤ t.size := by
  induction t using Tm.ind with
  | h k n s ks ih => rw [Tm.deep_mk, Tm.size_mk]; have := Tm.deeps_le ks ih; omega

set_option maxRecDepth 100000 in
set_option maxHeartbeats 2000000 in
theorem deep_at (v : Value) (T : Tm) (w : World) (ht : Has w v T) (hs : T.size ≤ 4000000000000000000) :
    Calls Try.prog 30 #[v] w (Gets w (.int .i64 (T.deep : Int))) := by
  refine (callsIn_wide (n := 3)).1 ?_
  obtain ⟨k_, n_, s_, a, len, cap, ks_, rfl, e, hl, hk, hn, hs', hc, hm, ha⟩ := ht.form
  clear e hl hk hn hs' hc hm ha
  refine callsIn_of_wp_marks Try.func30 rfl trivial ?_ rfl
  simp only [Try.ntmps30, List.size_toArray, List.length_cons, List.length_nil, Nat.reduceAdd, Nat.reduceSub, Array.replicate_succ, Array.replicate_zero, List.push_toArray, List.append_toArray, List.nil_append, List.cons_append]
  gi_wp2_with (refine ⟨trivial, ?_⟩; gi_at_call 34; refine (parts_in Fence.wide _ trivial rfl _ _ _ _ _).mono ?_; rintro e w' ⟨rfl, rfl⟩)
  have bC := Boxed.new (w.alloc (.cells #[.int .i64 k_, .int .i64 n_, .string s_, .slice a len cap] 24)) 3 (.int .i64 0)
  have hT := World.alloc_heap_new ((w.alloc (.cells #[.int .i64 k_, .int .i64 n_, .string s_, .slice a len cap] 24)).alloc (.cells #[.int .i64 0] 3)) (.cells #[.int .i64 k_, .int .i64 n_, .string s_, .slice a len cap] 24)
  simp only [World.size_alloc] at bC hT
  have hB0 : Below w.heap.size w (((w.alloc (.cells #[.int .i64 k_, .int .i64 n_, .string s_, .slice a len cap] 24)).alloc (.cells #[.int .i64 0] 3)).alloc (.cells #[.int .i64 k_, .int .i64 n_, .string s_, .slice a len cap] 24)) :=
    (((Below.refl _ w).alloc (Nat.le_refl _) _).alloc (by simp) _).alloc (by simp; omega) _
  refine wpIn_rangeFunc_ownG rfl (by decide) (gf := 41) (lb := #[.pointer (some ⟨w.heap.size + 1 + 1, 0, none⟩)]) rfl trivial (enters_of Try.func41 (by kernel_rfl) rfl)
    (parts_stops Fence.wide rfl _ trivial trivial rfl (w.heap.size + 1 + 1) w.heap.size T (.agg #[.int .i64 k_, .int .i64 n_, .string s_, .slice a len cap]) _ w (by simp; omega) hB0 hT ht hs) keeps_t (keeps_b (by simp; omega)) (Below.refl _ _) (fun _ => rfl)
    (fun pre W => Boxed W (w.heap.size + 1) 3 (.int .i64 (maxOf (pre.map Part.key) : Int)) ∧ Below w.heap.size w W)
    (fun _ _ _ => False)
    (OwnFrom.and (Own.from (boxed_own _ _ _) _) (ownFrom_below (Nat.le_refl _) (by simp; omega)))
    (fun _ _ _ _ _ hs _ _ => hs)
    ⟨bC.alloc _, hB0⟩
    (fun x => { tmps := #[.agg #[.int .i64 k_, .int .i64 n_, .string s_, .slice a len cap], .pointer (some ⟨w.heap.size, 0, none⟩), .int .i64 0, .pointer (some ⟨w.heap.size + 1, 0, none⟩), .int .i64 (x.1.1 : Int), .agg #[.int .i64 k_, .int .i64 n_, .string s_, .slice a len cap], .func (.func 41) #[] #[.pointer (some ⟨w.heap.size + 1 + 1, 0, none⟩)], .int .i64 (x.1.1 : Int), x.1.2.1, undef, undef, undef, undef], defers := [] }) ?assign ?body ?done ?stop
  case assign =>
    intro l x W K hK
    gi_wp2
    first | exact hK | simpa [Array.setIfInBounds] using hK
  case body =>
    rintro l pre x W ⟨hv, hB⟩ hlt
    have hc := hv.cell
    have hf := hv.frozen
    obtain ⟨m, hm⟩ : ∃ m, maxOf (pre.map Part.key) = m := ⟨_, rfl⟩
    rw [hm] at hc hv
    obtain ⟨⟨d, u, X⟩, hx⟩ := x
    simp only at hx ⊢
    gi_wp2
    all_goals
      refine ⟨(KeepsOthers.setCell _ _ _).from _, keeps_set hv (by decide) (by omega) _, ?_, hB.setCell (p := ⟨w.heap.size + 1, 0, none⟩) (by simp) _⟩
      rw [List.map_append, List.map_cons, List.map_nil, maxOf_snoc, hm]
      simp only [Part.key]
      first
        | (rw [show max m d = m by omega]; exact hv.set _)
        | (rw [show max m d = d by omega]; exact hv.set _)
  case done =>
    rintro D ys W hD hy ⟨hv, hB⟩ hK
    have hc := hv.cell
    have hmx := T.parts_max 0
    rw [Nat.zero_add, Nat.zero_add] at hmx
    rw [hy, hmx] at hc
    gi_wp2
    refine ⟨by simp, .inl ⟨_, _, rfl, run_takeDeferred hK, ?_⟩⟩
    exact ⟨_, results_tmp rfl _ _ _, rfl, hB.trans (belowK_b (w := w) (Nat.le_refl _) W D _ _ (by simp at hD; omega) hK rfl rfl)⟩
  case stop =>
    rintro D c pre W _ _ h _
    exact h.elim

set_option maxRecDepth 100000 in
set_option maxHeartbeats 2000000 in
theorem over_at (v : Value) (T : Tm) (most : Nat) (w : World) (ht : Has w v T) (hs : T.size ≤ 4000000000000000000) (hmo : most ≤ 4000000000000000000) :
    Calls Try.prog 29 #[v, .int .i64 (most : Int)] w (Gets w (.bool (decide (most < T.size)))) := by
  refine (callsIn_wide (n := 3)).1 ?_
  obtain ⟨k_, n_, s_, a, len, cap, ks_, rfl, e, hl, hk, hn, hs', hc, hm, ha⟩ := ht.form
  clear e hl hk hn hs' hc hm ha
  refine callsIn_of_wp_marks Try.func29 rfl trivial ?_ rfl
  simp only [Try.ntmps29, List.size_toArray, List.length_cons, List.length_nil, Nat.reduceAdd, Nat.reduceSub, Array.replicate_succ, Array.replicate_zero, List.push_toArray, List.append_toArray, List.nil_append, List.cons_append]
  gi_wp2_with (refine ⟨trivial, ?_⟩; gi_at_call 34; refine (parts_in Fence.wide _ trivial rfl _ _ _ _ _).mono ?_; rintro e w' ⟨rfl, rfl⟩)
  have bM := Boxed.new (w.alloc (.cells #[.int .i64 k_, .int .i64 n_, .string s_, .slice a len cap] 24)) 3 (.int .i64 (most : Int))
  have bR := Boxed.new ((w.alloc (.cells #[.int .i64 k_, .int .i64 n_, .string s_, .slice a len cap] 24)).alloc (.cells #[.int .i64 (most : Int)] 3)) 4 (.bool false)
  have bC := Boxed.new (((w.alloc (.cells #[.int .i64 k_, .int .i64 n_, .string s_, .slice a len cap] 24)).alloc (.cells #[.int .i64 (most : Int)] 3)).alloc (.cells #[.bool false] 4)) 3 (.int .i64 0)
  have hT := World.alloc_heap_new ((((w.alloc (.cells #[.int .i64 k_, .int .i64 n_, .string s_, .slice a len cap] 24)).alloc (.cells #[.int .i64 (most : Int)] 3)).alloc (.cells #[.bool false] 4)).alloc (.cells #[.int .i64 0] 3)) (.cells #[.int .i64 k_, .int .i64 n_, .string s_, .slice a len cap] 24)
  simp only [World.size_alloc] at bM bR bC hT
  have hB0 : Below w.heap.size w (((((w.alloc (.cells #[.int .i64 k_, .int .i64 n_, .string s_, .slice a len cap] 24)).alloc (.cells #[.int .i64 (most : Int)] 3)).alloc (.cells #[.bool false] 4)).alloc (.cells #[.int .i64 0] 3)).alloc (.cells #[.int .i64 k_, .int .i64 n_, .string s_, .slice a len cap] 24)) :=
    (((((Below.refl _ w).alloc (Nat.le_refl _) _).alloc (by simp) _).alloc (by simp; omega) _).alloc (by simp; omega) _).alloc (by simp; omega) _
  refine wpIn_rangeFunc_ownG rfl (by decide) (gf := 41) (lb := #[.pointer (some ⟨w.heap.size + 1 + 1 + 1 + 1, 0, none⟩)]) rfl trivial (enters_of Try.func41 (by kernel_rfl) rfl)
    (parts_stops Fence.wide rfl _ trivial trivial rfl (w.heap.size + 1 + 1 + 1 + 1) w.heap.size T (.agg #[.int .i64 k_, .int .i64 n_, .string s_, .slice a len cap]) _ w (by simp; omega) hB0 hT ht hs) keeps_t (keeps_b (by simp; omega)) (Below.refl _ _) (fun _ => rfl)
    (fun pre W => (Boxed W (w.heap.size + 1) 3 (.int .i64 (most : Int)) ∧ Boxed W (w.heap.size + 1 + 1) 4 (.bool false) ∧ Boxed W (w.heap.size + 1 + 1 + 1) 3 (.int .i64 (pre.length : Int)) ∧ pre.length ≤ most) ∧ Below w.heap.size w W)
    (fun c pre W => (c = .ret ∧ Boxed W (w.heap.size + 1 + 1) 4 (.bool true) ∧ most < pre.length) ∧ Below w.heap.size w W)
    (OwnFrom.and (OwnFrom.and (Own.from (boxed_own _ _ _) _) (OwnFrom.and (Own.from (boxed_own _ _ _) _) (OwnFrom.and (Own.from (boxed_own _ _ _) _) (ownFrom_pure _ _)))) (ownFrom_below (Nat.le_refl _) (by simp; omega)))
    (fun c => OwnFrom.and (OwnFrom.and (ownFrom_pure _ _) (OwnFrom.and (Own.from (boxed_own _ _ _) _) (ownFrom_pure _ _))) (ownFrom_below (Nat.le_refl _) (by simp; omega)))
    ⟨⟨((bM.alloc _).alloc _).alloc _, (bR.alloc _).alloc _, bC.alloc _, Nat.zero_le _⟩, hB0⟩
    (fun x => { tmps := #[.agg #[.int .i64 k_, .int .i64 n_, .string s_, .slice a len cap], .int .i64 (most : Int), .pointer (some ⟨w.heap.size, 0, none⟩), .pointer (some ⟨w.heap.size + 1, 0, none⟩), .pointer (some ⟨w.heap.size + 1 + 1, 0, none⟩), .pointer (some ⟨w.heap.size + 1 + 1 + 1, 0, none⟩), .agg #[.int .i64 k_, .int .i64 n_, .string s_, .slice a len cap], .func (.func 41) #[] #[.pointer (some ⟨w.heap.size + 1 + 1 + 1 + 1, 0, none⟩)], .int .i64 (x.1.1 : Int), x.1.2.1, undef, undef, undef, undef, undef], defers := [] }) ?assign ?body ?done ?stop
  case assign =>
    intro l x W K hK
    gi_wp2
    first | exact hK | simpa [Array.setIfInBounds] using hK
  case body =>
    rintro l pre x W ⟨⟨hM, hR, hv, hle⟩, hB⟩ hlt
    have hc := hv.cell
    have hf := hv.frozen
    have hcM := hM.cell
    have hcR := hR.cell
    have hfR := hR.frozen
    have h1 : (pre.length : Int) ≤ 4000000000000000000 := by omega
    have hM2 := hM.other (B' := w.heap.size + 1 + 1 + 1) (by omega) (.int .i64 ((pre.length : Int) + 1))
    have hR2 := hR.other (B' := w.heap.size + 1 + 1 + 1) (by omega) (.int .i64 ((pre.length : Int) + 1))
    have hv2 := hv.set (.int .i64 ((pre.length : Int) + 1))
    have hk2 := keeps_set (n₀ := w.heap.size) hv (by decide) (by omega) (.int .i64 ((pre.length : Int) + 1))
    have hB2 := hB.setCell (p := ⟨w.heap.size + 1 + 1 + 1, 0, none⟩) (by simp; omega) (.int .i64 ((pre.length : Int) + 1))
    have hcM2 := hM2.cell
    have hcR2 := hR2.cell
    have hfR2 := hR2.frozen
    have hc2 := hv2.cell
    gi_wp2
    · refine ⟨((KeepsOthers.setCell _ _ _).trans (KeepsOthers.setCell _ _ _)).from _, ⟨rfl, hR2.set _, ?_⟩, hB2.setCell (p := ⟨w.heap.size + 1 + 1, 0, none⟩) (by simp; omega) _⟩
      rw [List.length_append, List.length_singleton]; omega
    · refine ⟨(KeepsOthers.setCell _ _ _).from _, hk2, ⟨hM2, hR2, ?_, ?_⟩, hB2⟩
      · simpa using hv2
      · rw [List.length_append, List.length_singleton]; omega
  case done =>
    rintro D ys W hD hy ⟨⟨hM, hR, hv, hle⟩, hB⟩ hK
    have hlen : ys.length = T.size := by rw [← T.parts_length 1, ← hy, List.length_map]
    have hcR := hR.cell
    have hfR := hR.frozen
    gi_wp2
    have hK' := (KeepsOthers.setCell W ⟨w.heap.size + 1 + 1, 0, none⟩ (.bool false)).same D _ hK rfl
    refine ⟨by simp, .inl ⟨_, _, rfl, run_takeDeferred hK', ?_⟩⟩
    have hc5 := cell_kept (hR.set (.bool false)).cell (grownBy_putObj' _ D (.deferred none)) (fun r e => by cases e; exact ⟨_, hK', rfl⟩)
    refine ⟨.bool false, ?_, by rw [decide_eq_false (by omega)], (hB.setCell (p := ⟨w.heap.size + 1 + 1, 0, none⟩) (by simp; omega) _).trans (belowK_b (w := w) (Nat.le_refl _) _ D _ _ (by simp at hD; omega) hK' rfl rfl)⟩
    simp [results, Try.f29, go_sem, hc5]
  case stop =>
    rintro D c pre W hD hpre ⟨⟨rfl, hR, hlt⟩, hB⟩ hK
    have hle : pre.length ≤ T.size := by have := hpre.length_le; rw [List.length_map, T.parts_length] at this; exact this
    gi_wp2
    refine ⟨by simp, .inl ⟨_, _, rfl, run_takeDeferred hK, ?_⟩⟩
    have hc5 := cell_kept hR.cell (grownBy_putObj' _ D (.deferred none)) (fun r e => by cases e; exact ⟨_, hK, rfl⟩)
    refine ⟨.bool true, ?_, by rw [decide_eq_true (by omega)], hB.trans (belowK_b (w := w) (Nat.le_refl _) W D _ _ (by simp at hD; omega) hK rfl rfl)⟩
    simp [results, Try.f29, go_sem, hc5]

end Go.Proofs.Ytlnggaepmclbkaa

namespace Go.Proofs.Ytlnggaepmclbkaa
open Go.ChangeShapes Go.WideShapes Go.ChangeAt Go.RowKit Go.Deep
set_option linter.unusedVariables false

theorem own : ownKnob Try.prog.godebug = none := by kernel_rfl
theorem laidOut : laidOutB Try.prog = true := by kernel_rfl

theorem cell_lt {w : World} {a : Addr} {v : Value} (h : w.cell? a = some v) : a.block < w.heap.size := by
  unfold World.cell? at h
  split at h
  · rename_i hb; exact (Array.getElem?_eq_some_iff.1 hb).1
  · cases h

theorem cells_term : Try.prog.cellsOf 24 = 4 := by kernel_rfl
theorem cells_int : Try.prog.cellsOf 3 = 1 := by kernel_rfl
theorem cells_int64 : Try.prog.cellsOf 2 = 1 := by kernel_rfl
theorem cells_string : Try.prog.cellsOf 9 = 1 := by kernel_rfl
theorem cells_terms : Try.prog.cellsOf 22 = 1 := by kernel_rfl

theorem i64ok_of {n : Int} (h : (Lit.int .i64 n).wf = true) : i64ok n := bounds_i64 h

theorem bulk_part {H : Type} {d : DataW H} : ∀ {l : List (DataW H)}, d ∈ l → Rows.uptoBulk d ≤ Rows.uptoBulkAll l
  | x :: r, h => by
    simp only [Rows.uptoBulkAll]
    cases List.mem_cons.1 h with
    | inl e => subst e; omega
    | inr e => have := bulk_part (l := r) e; omega

theorem sizes_bulk {H : Type} (D : Nat → DataW H) (T : Nat → Tm) : ∀ (n : Nat), (∀ i, i < n → (T i).size ≤ Rows.uptoBulk (D i)) → Tm.sizes ((List.range n).map T) ≤ Rows.uptoBulkAll ((List.range n).map D)
  | 0, _ => by simp [Tm.sizes_nil]
  | n + 1, h => by
    have ih := sizes_bulk D T n fun i hi => h i (by omega)
    have hn := h n (by omega)
    have app : ∀ (l : List (DataW H)) (d : DataW H), Rows.uptoBulkAll (l ++ [d]) = Rows.uptoBulkAll l + Rows.uptoBulk d := by
      intro l d
      induction l with
      | nil => simp [Rows.uptoBulkAll]
      | cons x l ihl => simp only [List.cons_append, Rows.uptoBulkAll, ihl]; omega
    rw [List.range_succ, List.map_append, List.map_append, Tm.sizes_append, List.map_singleton, List.map_singleton, app, Tm.sizes_cons, Tm.sizes_nil]
    omega

instance : Inhabited Tm := ⟨.mk 0 0 (ByteArray.mk #[]) []⟩

/-- A list of terms that came in, its elements being terms. -/
theorem open_list {H : Type} {enc : TypeId × Value → H} {w : World} {fuel : Nat} {cs : List Value} {x : DataW H × List MemPlace}
    (h : DataW.trod enc Try.prog w 0 (fun _ => true) true fuel 22 cs = some x)
    (each : ∀ fuel cs y, Rows.uptoBulk (H := H) y.1 < Rows.uptoBulk x.1 → DataW.trod enc Try.prog w 0 (fun _ => true) true fuel 24 cs = some y → ∃ (k n : Int) (s : ByteArray) (a : Option Addr) (len cap : Nat) (T : Tm), cs = [.int .i64 k, .int .i64 n, .string s, .slice a len cap] ∧
      TmIn (fun b => b < w.heap.size) w (.agg #[.int .i64 k, .int .i64 n, .string s, .slice a len cap]) T ∧ T.size ≤ Rows.uptoBulk y.1) :
    ∃ a len cap ks, cs = [.slice a len cap] ∧ TsIn (fun b => b < w.heap.size) w (.slice a len cap) ks ∧ Tm.sizes ks + 1 ≤ Rows.uptoBulk x.1 := by
  rcases open_slice Try.underlying22 h with ⟨rfl, rfl⟩ | ⟨b, len, cap, m, n, D, Pl, rfl, _, hl, hm, hmm, rfl, hx⟩
  · exact ⟨none, 0, 0, [], rfl, ⟨none, 0, rfl, Nat.le_refl _, Nat.zero_le _, fun _ => rfl, fun i hi => absurd hi (Nat.not_lt_zero _)⟩, by simp [Tm.sizes_nil, Rows.uptoBulk]⟩
  · simp only [if_true] at hmm
    subst hmm
    rw [cells_term] at hx
    have hb : ∀ i, i < len → Rows.uptoBulk (D i) ≤ Rows.uptoBulkAll ((List.range len).map D) := fun i hi => bulk_part (List.mem_map.2 ⟨i, List.mem_range.2 hi, rfl⟩)
    have each' : ∀ i, i < len → ∃ q : Int × Int × ByteArray × Option Addr × Nat × Nat × Tm, w.cell? (b.add (i * 4)) = some (.int .i64 q.1) ∧ w.cell? (b.add (i * 4 + 1)) = some (.int .i64 q.2.1) ∧ w.cell? (b.add (i * 4 + 2)) = some (.string q.2.2.1) ∧ w.cell? (b.add (i * 4 + 3)) = some (.slice q.2.2.2.1 q.2.2.2.2.1 q.2.2.2.2.2.1) ∧
        TmIn (fun b => b < w.heap.size) w (.agg #[.int .i64 q.1, .int .i64 q.2.1, .string q.2.2.1, .slice q.2.2.2.1 q.2.2.2.2.1 q.2.2.2.2.2.1]) q.2.2.2.2.2.2 ∧ q.2.2.2.2.2.2.size ≤ Rows.uptoBulk (D i) := by
      intro i hi
      obtain ⟨cs', h1, h2⟩ := hx i (by omega)
      obtain ⟨k, n', s, a, l, c, T, rfl, hT, hsz⟩ := each n cs' _ (by have := hb i hi; simp only [Rows.uptoBulk]; omega) h2
      obtain ⟨_, hlen, hcell⟩ := World.cells?_some h1
      have c0 := hcell 0 (by omega)
      have c1 := hcell 1 (by omega)
      have c2 := hcell 2 (by omega)
      have c3 := hcell 3 (by omega)
      rw [add_add] at c0 c1 c2 c3
      exact ⟨(k, n', s, a, l, c, T), by simpa using c0, by simpa using c1, by simpa using c2, by simpa using c3, hT, hsz⟩
    obtain ⟨q, hq⟩ := choose_lt each'
    refine ⟨some b, len, m, (List.range len).map fun i => (q i).2.2.2.2.2.2, rfl, ⟨some b, m, by simp, by simpa using hl, hm, (fun h => by cases h), fun i hi => ?_⟩, ?_⟩
    · simp at hi
      obtain ⟨c0, c1, c2, c3, hT, _⟩ := hq i hi
      obtain ⟨bb, off, spot⟩ := b
      have hs : spot = none := by
        have := World.cell?_spot (hq 0 (by omega)).1
        simpa [Addr.add] using this
      subst hs
      have ea : ∀ k, (Addr.add ⟨bb, off, none⟩ k) = ⟨bb, off + k, none⟩ := fun k => by
        by_cases e : k = 0
        · subst e; simp [Addr.add]
        · simp [Addr.add, e]
      rw [ea] at c0 c1 c2 c3
      refine ⟨bb, off, (q i).1, (q i).2.1, (q i).2.2.1, (q i).2.2.2.1, (q i).2.2.2.2.1, (q i).2.2.2.2.2.1, rfl, cell_lt c0, by simpa using c0, by simpa [Nat.add_assoc] using c1, by simpa [Nat.add_assoc] using c2, by simpa [Nat.add_assoc] using c3, ?_⟩
      simpa using hT
    · have := sizes_bulk D (fun i => (q i).2.2.2.2.2.2) len fun i hi => (hq i hi).2.2.2.2.2
      simp only [Rows.uptoBulk]
      omega

set_option maxRecDepth 100000 in
/-- A term that came in. -/
theorem open_term {H : Type} {enc : TypeId × Value → H} {w : World} : ∀ (N fuel : Nat) (cs : List Value) (x : DataW H × List MemPlace), Rows.uptoBulk x.1 ≤ N →
    DataW.trod enc Try.prog w 0 (fun _ => true) true fuel 24 cs = some x → ∃ (k n : Int) (s : ByteArray) (a : Option Addr) (len cap : Nat) (T : Tm), cs = [.int .i64 k, .int .i64 n, .string s, .slice a len cap] ∧
      TmIn (fun b => b < w.heap.size) w (.agg #[.int .i64 k, .int .i64 n, .string s, .slice a len cap]) T ∧ T.size ≤ Rows.uptoBulk x.1 ∧ T.name.size ≤ Rows.uptoBulk x.1 := by
  intro N
  induction N with
  | zero =>
    intro fuel cs x hN h
    obtain ⟨xs, n, _, rfl, _⟩ := DataW.trod_struct Try.underlying24 h
    simp only [Rows.uptoBulk] at hN
    omega
  | succ N ih =>
    intro fuel cs x hN h
    obtain ⟨xs, n, _, rfl, hl, hlen, hf⟩ := DataW.trod_struct Try.underlying24 h
    rw [cells_term] at hl
    match xs, hlen, cs, hl with
    | [y0, y1, y2, y3], _, [v0, v1, v2, v3], _ =>
      have g0 := hf 0 _ rfl
      have g1 := hf 1 _ rfl
      have g2 := hf 2 _ rfl
      have g3 := hf 3 _ rfl
      simp [cells_int, cells_int64, cells_string, cells_terms] at g0 g1 g2 g3
      obtain ⟨k, e0, hy0, w0⟩ := DataW.trod_int Try.underlying3 g0
      obtain ⟨n', e1, hy1, w1⟩ := DataW.trod_int Try.underlying2 g1
      obtain ⟨s, e2, hy2, w2⟩ := DataW.trod_string Try.underlying9 g2
      simp only [List.map_cons, List.map_nil, Rows.uptoBulk, Rows.uptoBulkAll] at hN ⊢
      obtain ⟨a, len, cap, ks, e3, hT, hsz⟩ := open_list g3 (fun fuel cs y hy ht => by obtain ⟨k, n, s, a, len, cap, T, e, h1, h2, _⟩ := ih fuel cs y (by omega) ht; exact ⟨k, n, s, a, len, cap, T, e, h1, h2⟩)
      simp at e0 e1 e2 e3
      subst e0 e1 e2 e3
      refine ⟨k, n', s, a, len, cap, .mk k n' s ks, rfl, hT.term (i64ok_of w0) (i64ok_of w1) w2, ?_, ?_⟩
      · rw [Tm.size_mk]
        omega
      · have e : (y2.1 : DataW H) = .lit (.string s.data.toList) := by rw [hy2]
        have e2 : s.data.toList.length = s.size := by rw [Array.length_toList]; rfl
        show s.size ≤ _
        rw [e]
        simp only [Rows.uptoBulk]
        omega

theorem open_arg {H : Type} {enc : TypeId × Value → H} {w : World} {v : Value} {d : DataW H} {p : List MemPlace} (h : DataW.Trod enc Try.prog w 0 (fun _ => true) true 24 v d p) :
    ∃ T, Has w v T ∧ T.size ≤ Rows.uptoBulk d ∧ T.name.size ≤ Rows.uptoBulk d := by
  obtain ⟨fuel, hf⟩ := h
  obtain ⟨k, n, s, a, len, cap, T, e, hT, hs⟩ := open_term _ fuel _ _ (Nat.le_refl _) hf
  cases v with
  | agg cs =>
    have : cs = #[.int .i64 k, .int .i64 n, .string s, .slice a len cap] := by
      cases cs; simpa [Value.cells] using e
    subst this
    exact ⟨T, hT, hs⟩
  | _ => simp [Value.cells] at e

theorem open_args {H : Type} {enc : TypeId × Value → H} {w : World} {a : Option Addr} {len cap : Nat} {d : DataW H} {p : List MemPlace} (h : DataW.Trod enc Try.prog w 0 (fun _ => true) true 22 (.slice a len cap) d p) :
    ∃ ks, TsIn (fun b => b < w.heap.size) w (.slice a len cap) ks ∧ Tm.sizes ks ≤ Rows.uptoBulk d := by
  obtain ⟨fuel, hf⟩ := h
  obtain ⟨a', len', cap', ks, e, hT, hs⟩ := open_list hf (fun fuel cs y _ ht => by obtain ⟨k, n, s, a, len, cap, T, e, h1, h2, _⟩ := open_term _ fuel cs y (Nat.le_refl _) ht; exact ⟨k, n, s, a, len, cap, T, e, h1, h2⟩)
  simp [Value.cells] at e
  obtain ⟨rfl, rfl, rfl⟩ := e
  have hs' : Tm.sizes ks + 1 ≤ Rows.uptoBulk d := hs
  exact ⟨ks, hT, by omega⟩

end Go.Proofs.Ytlnggaepmclbkaa
