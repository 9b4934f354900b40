/-
  term.ground, term.formed, term.valid, term.Check.
-/
import Derived.Test.YtlnggaepmclbkaaZSizen2
namespace Go.Proofs.Ytlnggaepmclbkaa
open Go.RowKit Go.Shelf
set_option linter.unusedVariables false
attribute [local go_sem] Oper.semAt_some

theorem cells_own {B : Nat} {W W' : World} {row : Option Nat} {b : Nat} {c : Array Value} {t : TypeId} {z : Nat × Nat} (h : W.heap[b]? = some (.cells c t z)) (hg : W.grownBy W' row)
    (hr : ∀ r, row = some r → B ≤ r ∧ ∃ o : Obj, W.heap[r]? = some o ∧ o.isCells = false) : W'.heap[b]? = some (.cells c t z) :=
  (hg.block b (Array.getElem?_eq_some_iff.1 h).1 (fun e => by obtain ⟨_, o, ho, hc⟩ := hr b e.symm; rw [h] at ho; cases ho; cases hc)).trans h

theorem keepsFrom_below {B : Nat} {W W' : World} (h : Below W.heap.size W W') : KeepsFrom B W W' :=
  ⟨h.size, fun k o _ hk _ => (h.block k (Array.getElem?_eq_some_iff.1 hk).1).trans hk⟩

/-- No part is a variable. -/
def groundL (l : List (Nat × Tm)) : Bool := l.all fun x => decide (x.2.kind ≠ 1)
def Tm.ground (T : Tm) : Bool := groundL (T.parts 1)

/-- The box of a part that was handed on. -/
def PBox {n₀ : Nat} {w0 : World} (x : Part n₀ w0) (S Bx : Nat) (W : World) : Prop :=
  ∃ k n s a len cap ks, x.1.2 = (.agg #[.int .i64 k, .int .i64 n, .string s, .slice a len cap], .mk k n s ks) ∧ W.heap[Bx]? = some (.cells #[.int .i64 k, .int .i64 n, .string s, .slice a len cap] 24 (0, 0)) ∧ S ≤ Bx

theorem PBox.own {n₀ : Nat} {w0 : World} {x : Part n₀ w0} {S Bx B : Nat} {W W' : World} {row : Option Nat} (h : PBox x S Bx W) (hg : W.grownBy W' row)
    (hr : ∀ r, row = some r → B ≤ r ∧ ∃ o : Obj, W.heap[r]? = some o ∧ o.isCells = false) : PBox x S Bx W' := by
  obtain ⟨k, n, s, a, len, cap, ks, e, hb, hS⟩ := h
  exact ⟨k, n, s, a, len, cap, ks, e, cells_own hb hg hr, hS⟩

set_option maxRecDepth 100000 in
set_option maxHeartbeats 2000000 in
theorem ground_at (v : Value) (T : Tm) (w : World) (ht : Has w v T) (hs : T.size ≤ 4000000000000000000) :
    Calls Try.prog 45 #[v] w (Gets w (.bool T.ground)) := by
  refine (callsIn_wide (n := 3)).1 ?_
  obtain ⟨k_, n_, s_, a, len, cap, ks_, rfl, e, hl, hk, hn, hs', hc, hm, ha⟩ := ht.form
  clear e hl hk hn hs' hc hm ha
  refine callsIn_of_wp_marks Try.func45 rfl trivial ?_ rfl
  simp only [Try.ntmps45, List.size_toArray, List.length_cons, List.length_nil, Nat.reduceAdd, Nat.reduceSub, Array.replicate_succ, Array.replicate_zero, List.push_toArray, List.append_toArray, List.nil_append, List.cons_append]
  gi_wp2_with (refine ⟨trivial, ?_⟩; gi_at_call 34; refine (parts_in Fence.wide _ trivial rfl _ _ _ _ _).mono ?_; rintro e w' ⟨rfl, rfl⟩)
  have bR := Boxed.new (w.alloc (.cells #[.int .i64 k_, .int .i64 n_, .string s_, .slice a len cap] 24)) 4 (.bool false)
  have hT := World.alloc_heap_new ((w.alloc (.cells #[.int .i64 k_, .int .i64 n_, .string s_, .slice a len cap] 24)).alloc (.cells #[.bool false] 4)) (.cells #[.int .i64 k_, .int .i64 n_, .string s_, .slice a len cap] 24)
  simp only [World.size_alloc] at bR hT
  have hB0 : Below w.heap.size w (((w.alloc (.cells #[.int .i64 k_, .int .i64 n_, .string s_, .slice a len cap] 24)).alloc (.cells #[.bool false] 4)).alloc (.cells #[.int .i64 k_, .int .i64 n_, .string s_, .slice a len cap] 24)) :=
    (((Below.refl _ w).alloc (Nat.le_refl _) _).alloc (by simp) _).alloc (by simp; omega) _
  refine wpIn_rangeFunc_ownH rfl (by decide) (gf := 41) (lb := #[.pointer (some ⟨w.heap.size + 1 + 1, 0, none⟩)]) rfl trivial (enters_of Try.func41 (by kernel_rfl) rfl)
    (parts_stops Fence.wide rfl _ trivial trivial rfl (w.heap.size + 1 + 1) w.heap.size T (.agg #[.int .i64 k_, .int .i64 n_, .string s_, .slice a len cap]) _ w (by simp; omega) hB0 hT ht hs) keeps_t (keeps_b (by simp; omega)) (Below.refl _ _) (fun _ => rfl)
    (fun pre W => (Boxed W (w.heap.size + 1) 4 (.bool false) ∧ groundL (pre.map Part.key) = true) ∧ Below w.heap.size w W)
    (fun c pre W => (c = .ret ∧ Boxed W (w.heap.size + 1) 4 (.bool false) ∧ groundL (pre.map Part.key) = false) ∧ Below w.heap.size w W)
    (OwnFrom.and (OwnFrom.and (Own.from (boxed_own _ _ _) _) (ownFrom_pure _ _)) (ownFrom_below (Nat.le_refl _) (by simp; omega)))
    (fun c => OwnFrom.and (OwnFrom.and (ownFrom_pure _ _) (OwnFrom.and (Own.from (boxed_own _ _ _) _) (ownFrom_pure _ _))) (ownFrom_below (Nat.le_refl _) (by simp; omega)))
    ⟨⟨bR.alloc _, rfl⟩, hB0⟩
    (fun x a' W => ∃ Bx, PBox x (w.heap.size + 1 + 1) Bx W ∧ a' = { tmps := #[.agg #[.int .i64 k_, .int .i64 n_, .string s_, .slice a len cap], .pointer (some ⟨w.heap.size, 0, none⟩), .pointer (some ⟨w.heap.size + 1, 0, none⟩), undef, .pointer (some ⟨Bx, 0, none⟩), .agg #[.int .i64 k_, .int .i64 n_, .string s_, .slice a len cap], .func (.func 41) #[] #[.pointer (some ⟨w.heap.size + 1 + 1, 0, none⟩)], .int .i64 (x.1.1 : Int), x.1.2.1, undef, undef, undef], defers := [] })
    (fun x a' s A B row hs hg hr => by obtain ⟨Bx, hb, e⟩ := hs; exact ⟨Bx, hb.own hg hr, e⟩) ?assign ?body ?done ?stop
  case assign =>
    rintro l pre ⟨⟨d, u, X⟩, hx, hd, hX⟩ W K ⟨⟨hR, hg⟩, hB⟩ hK
    obtain ⟨k, n, s, a', len', cap', ks, rfl, rfl, -⟩ := hx.form
    gi_wp2
    refine hK _ _ ((KeepsOthers.alloc _ _).from _) ((Keeps.refl _ _).alloc hB.size _) ⟨⟨hR.alloc _, hg⟩, hB.alloc hB.size _⟩ ⟨W.heap.size, ⟨k, n, s, a', len', cap', ks, rfl, World.alloc_heap_new _ _, hR.lt⟩, by first | rfl | simp⟩
  case body =>
    rintro l pre ⟨⟨d, u, X⟩, hx, hd, hX⟩ a' W hl hr ⟨⟨hR, hg⟩, hB⟩ ⟨Bx, ⟨k, n, s, a1, len', cap', ks, e, hb, hS⟩, rfl⟩ hlt
    simp only [Prod.mk.injEq] at e
    obtain ⟨rfl, rfl⟩ := e
    obtain ⟨c0, c1, c2, c3⟩ := tbox_cells hb
    have hcR := hR.cell
    have hfR := hR.frozen
    gi_wp2
    · rename_i hk1
      refine ⟨(KeepsOthers.setCell _ _ _).from _, ⟨rfl, hR.set _, ?_⟩, hB.setCell (p := ⟨w.heap.size + 1, 0, none⟩) (by simp) _⟩
      have : k = 1 := by simpa using hk1
      simp [groundL, Part.key, Tm.kind, this]
    · rename_i hk1
      refine ⟨KeepsFrom.refl _ _, Keeps.refl _ _, ⟨hR, ?_⟩, hB⟩
      have : k ≠ 1 := by simpa using hk1
      unfold groundL at hg ⊢
      rw [List.map_append, List.all_append, hg]
      simp [Part.key, Tm.kind, this]
  case done =>
    rintro D ys W hD hy ⟨⟨hR, hg⟩, hB⟩ hK
    have hcR := hR.cell
    have hfR := hR.frozen
    rw [hy] at hg
    gi_wp2
    have hK' := (KeepsOthers.setCell W ⟨w.heap.size + 1, 0, none⟩ (.bool true)).same D _ hK rfl
    refine ⟨by simp, .inl ⟨_, _, rfl, run_takeDeferred hK', ?_⟩⟩
    have hc5 := cell_kept (hR.set (.bool true)).cell (grownBy_putObj' _ D (.deferred none)) (fun r e => by cases e; exact ⟨_, hK', rfl⟩)
    refine ⟨.bool true, ?_, by rw [Tm.ground, hg], (hB.setCell (p := ⟨w.heap.size + 1, 0, none⟩) (by simp) _).trans (belowK_b (w := w) (Nat.le_refl _) _ D _ _ (by simp at hD; omega) hK' rfl rfl)⟩
    simp [results, Try.f45, go_sem, hc5]
  case stop =>
    rintro D c pre W hD hpre ⟨⟨rfl, hR, hg⟩, hB⟩ hK
    have hgT : T.ground = false := by
      obtain ⟨r, hr⟩ := hpre
      rw [Tm.ground, ← hr, groundL, List.all_append]
      rw [groundL] at hg
      rw [hg]; rfl
    gi_wp2
    refine ⟨by simp, .inl ⟨_, _, rfl, run_takeDeferred hK, ?_⟩⟩
    have hc5 := cell_kept hR.cell (grownBy_putObj' _ D (.deferred none)) (fun r e => by cases e; exact ⟨_, hK, rfl⟩)
    refine ⟨.bool false, ?_, by rw [hgT], hB.trans (belowK_b (w := w) (Nat.le_refl _) W D _ _ (by simp at hD; omega) hK rfl rfl)⟩
    simp [results, Try.f45, go_sem, hc5]

/-- Whether a term is as its kind asks, whatever its kids are like. -/
def Tm.formed (levels : Int) (T : Tm) : Bool :=
  if T.kind = 1 then decide (0 ≤ T.num) && decide (T.num < 4096) && decide (T.name.toList = []) && decide (T.kids.length = 0)
  else if T.kind = 2 then decide (T.name.toList = []) && decide (T.kids.length = 0)
  else if T.kind = 3 then decide (T.num = 0) && decide (T.name.size ≤ 64) && decide (T.kids.length ≤ 8)
  else if T.kind = 4 then decide (T.name.toList = []) && decide (0 ≤ T.num) && decide (T.num < levels) && decide (T.kids.length = 1) && T.ground
  else false

theorem Tm.formed_eq (levels k n : Int) (s : ByteArray) (ks : List Tm) (len : Nat) (hl : len = ks.length) : (Tm.mk k n s ks).formed levels =
    if k = 1 then decide (0 ≤ n) && decide (n < 4096) && decide (s.toList = []) && decide (len = 0)
    else if k = 2 then decide (s.toList = []) && decide (len = 0)
    else if k = 3 then decide (n = 0) && decide (s.size ≤ 64) && decide (len ≤ 8)
    else if k = 4 then decide (s.toList = []) && decide (0 ≤ n) && decide (n < levels) && decide (len = 1) && (Tm.mk k n s ks).ground
    else false := by subst hl; rfl

set_option maxRecDepth 100000 in
set_option maxHeartbeats 4000000 in
theorem formed_at (v : Value) (T : Tm) (levels : Int) (w : World) (ht : Has w v T) (hs : T.size ≤ 4000000000000000000) :
    Calls Try.prog 40 #[v, .int .i64 levels] w (Gets w (.bool (T.formed levels))) := by
  obtain ⟨k, n, s, a, len, cap, ks, rfl, rfl, hl, hk, hn, hs', hc, hm, ha⟩ := ht.form
  have hlen : (len : Int) ≤ 9223372036854775807 := by unfold maxLen at hm; omega
  have hg : ∀ w', Below w.heap.size w w' → Calls Try.prog 45 #[.agg #[.int .i64 k, .int .i64 n, .string s, .slice a len cap]] w' fun e w'' => ∃ g, (Tm.mk k n s ks).ground = g ∧ e = .returned (.bool g) ∧ Below w.heap.size w w'' := fun w' hb =>
    (ground_at _ _ w' (ht.below hb) hs).mono fun e w'' h => ⟨_, rfl, h.1, hb.trans (h.2.mono hb.size)⟩
  have hsz : (s.size : Int) ≤ 9223372036854775807 := by unfold maxLen at hs'; omega
  obtain ⟨b, hF⟩ : ∃ b, (Tm.mk k n s ks).formed levels = b := ⟨_, rfl⟩
  have hF' := hF
  rw [hF]
  rw [Tm.formed_eq levels k n s ks len hl] at hF'
  obtain ⟨g, hgg⟩ : ∃ g, (Tm.mk k n s ks).ground = g ∧ g = g := ⟨_, rfl, rfl⟩
  rw [hgg.1] at hF'
  have HG := Lib.hid hgg.1
  have HF := Lib.hid hF'
  have hB1 : ∀ o, Below w.heap.size w (w.alloc o) := fun o => (Below.refl _ w).alloc (Nat.le_refl _) o
  clear ht hl hs' hc hm ha hF hF' hgg hk hn hs
  rcases Decidable.em (k = 1) with rfl | h1
  · go_enter Try.func40, Try.ntmps40
    go_wp2_with fail
    all_goals go_ret
    all_goals refine ⟨congrArg (fun b => Ending.returned (Value.bool b)) (?_ : _ = b), by first | exact hB1 _ | exact hb2⟩
    all_goals
      have hF := HF.out
      clear HF hB1 hlen hsz
      (try clear hg)
      (try clear hb2)
      subst hF
      rw [Bool.eq_iff_iff]
      first | (simp_all; done) | (simp_all; omega) | grind
  · rcases Decidable.em (k = 2) with rfl | h2
    · go_enter Try.func40, Try.ntmps40
      go_wp2_with fail
      all_goals go_ret
      all_goals refine ⟨congrArg (fun b => Ending.returned (Value.bool b)) (?_ : _ = b), by first | exact hB1 _ | exact hb2⟩
      all_goals
        have hF := HF.out
        clear HF hB1 hlen hsz
        (try clear hg)
        (try clear hb2)
        subst hF
        rw [Bool.eq_iff_iff]
        first | (simp_all; done) | (simp_all; omega) | grind
    · rcases Decidable.em (k = 3) with rfl | h3
      · go_enter Try.func40, Try.ntmps40
        go_wp2_with fail
        all_goals go_ret
        all_goals refine ⟨congrArg (fun b => Ending.returned (Value.bool b)) (?_ : _ = b), by first | exact hB1 _ | exact hb2⟩
        all_goals
          have hF := HF.out
          clear HF hB1 hlen hsz
          (try clear hg)
          (try clear hb2)
          subst hF
          rw [Bool.eq_iff_iff]
          first | (simp_all; done) | (simp_all; omega) | grind
      · rcases Decidable.em (k = 4) with rfl | h4
        · go_enter Try.func40, Try.ntmps40
          go_wp2_with (go_at_call 45; refine (hg _ (hB1 _)).mono ?_; rintro e w2 ⟨g', hg', rfl, hb2⟩; obtain rfl : g' = g := hg'.symm.trans HG.out)
          all_goals go_ret
          all_goals refine ⟨congrArg (fun b => Ending.returned (Value.bool b)) (?_ : _ = b), by first | exact hB1 _ | exact hb2⟩
          all_goals
            have hF := HF.out
            clear HF hB1 hlen hsz
            (try clear hg)
            (try clear hb2)
            subst hF
            rw [Bool.eq_iff_iff]
            first | (simp_all; done) | (simp_all; omega) | grind
        · go_enter Try.func40, Try.ntmps40
          go_wp2_with fail
          all_goals go_ret
          all_goals refine ⟨congrArg (fun b => Ending.returned (Value.bool b)) (?_ : _ = b), by first | exact hB1 _ | exact hb2⟩
          all_goals
            have hF := HF.out
            clear HF hB1 hlen hsz
            (try clear hg)
            (try clear hb2)
            subst hF
            rw [Bool.eq_iff_iff]
            first | (simp_all; done) | (simp_all; omega) | grind

/-- Each part is as its kind asks. -/
def validL (levels : Int) (l : List (Nat × Tm)) : Bool := l.all fun x => x.2.formed levels
def Tm.valid (levels : Int) (T : Tm) : Bool := validL levels (T.parts 1)

set_option maxRecDepth 100000 in
set_option maxHeartbeats 2000000 in
theorem valid_at (v : Value) (T : Tm) (levels : Int) (w : World) (ht : Has w v T) (hs : T.size ≤ 4000000000000000000) :
    Calls Try.prog 31 #[v, .int .i64 levels] w (Gets w (.bool (T.valid levels))) := by
  refine (callsIn_wide (n := 3)).1 ?_
  obtain ⟨k_, n_, s_, a, len, cap, ks_, rfl, e, hl, hk, hn, hs', hc, hm, ha⟩ := ht.form
  clear e hl hk hn hs' hc hm ha
  refine callsIn_of_wp_marks Try.func31 rfl trivial ?_ rfl
  simp only [Try.ntmps31, List.size_toArray, List.length_cons, List.length_nil, Nat.reduceAdd, Nat.reduceSub, Array.replicate_succ, Array.replicate_zero, List.push_toArray, List.append_toArray, List.nil_append, List.cons_append]
  gi_wp2_with (refine ⟨trivial, ?_⟩; gi_at_call 34; refine (parts_in Fence.wide _ trivial rfl _ _ _ _ _).mono ?_; rintro e w' ⟨rfl, rfl⟩)
  have bL := Boxed.new (w.alloc (.cells #[.int .i64 k_, .int .i64 n_, .string s_, .slice a len cap] 24)) 3 (.int .i64 levels)
  have bR := Boxed.new ((w.alloc (.cells #[.int .i64 k_, .int .i64 n_, .string s_, .slice a len cap] 24)).alloc (.cells #[.int .i64 levels] 3)) 4 (.bool false)
  have hT := World.alloc_heap_new (((w.alloc (.cells #[.int .i64 k_, .int .i64 n_, .string s_, .slice a len cap] 24)).alloc (.cells #[.int .i64 levels] 3)).alloc (.cells #[.bool false] 4)) (.cells #[.int .i64 k_, .int .i64 n_, .string s_, .slice a len cap] 24)
  simp only [World.size_alloc] at bL bR hT
  have hB0 : Below w.heap.size w ((((w.alloc (.cells #[.int .i64 k_, .int .i64 n_, .string s_, .slice a len cap] 24)).alloc (.cells #[.int .i64 levels] 3)).alloc (.cells #[.bool false] 4)).alloc (.cells #[.int .i64 k_, .int .i64 n_, .string s_, .slice a len cap] 24)) :=
    ((((Below.refl _ w).alloc (Nat.le_refl _) _).alloc (by simp) _).alloc (by simp; omega) _).alloc (by simp; omega) _
  refine wpIn_rangeFunc_ownH rfl (by decide) (gf := 41) (lb := #[.pointer (some ⟨w.heap.size + 1 + 1 + 1, 0, none⟩)]) rfl trivial (enters_of Try.func41 (by kernel_rfl) rfl)
    (parts_stops Fence.wide rfl _ trivial trivial rfl (w.heap.size + 1 + 1 + 1) w.heap.size T (.agg #[.int .i64 k_, .int .i64 n_, .string s_, .slice a len cap]) _ w (by simp; omega) hB0 hT ht hs) keeps_t (keeps_b (by simp; omega)) (Below.refl _ _) (fun _ => rfl)
    (fun pre W => (Boxed W (w.heap.size + 1) 3 (.int .i64 levels) ∧ Boxed W (w.heap.size + 1 + 1) 4 (.bool false) ∧ validL levels (pre.map Part.key) = true) ∧ Below w.heap.size w W)
    (fun c pre W => (c = .ret ∧ Boxed W (w.heap.size + 1 + 1) 4 (.bool false) ∧ validL levels (pre.map Part.key) = false) ∧ Below w.heap.size w W)
    (OwnFrom.and (OwnFrom.and (Own.from (boxed_own _ _ _) _) (OwnFrom.and (Own.from (boxed_own _ _ _) _) (ownFrom_pure _ _))) (ownFrom_below (Nat.le_refl _) (by simp; omega)))
    (fun c => OwnFrom.and (OwnFrom.and (ownFrom_pure _ _) (OwnFrom.and (Own.from (boxed_own _ _ _) _) (ownFrom_pure _ _))) (ownFrom_below (Nat.le_refl _) (by simp; omega)))
    ⟨⟨(bL.alloc _).alloc _, bR.alloc _, rfl⟩, hB0⟩
    (fun x a' W => ∃ Bx, PBox x (w.heap.size + 1 + 1 + 1) Bx W ∧ a' = { tmps := #[.agg #[.int .i64 k_, .int .i64 n_, .string s_, .slice a len cap], .int .i64 levels, .pointer (some ⟨w.heap.size, 0, none⟩), .pointer (some ⟨w.heap.size + 1, 0, none⟩), .pointer (some ⟨w.heap.size + 1 + 1, 0, none⟩), undef, .pointer (some ⟨Bx, 0, none⟩), .agg #[.int .i64 k_, .int .i64 n_, .string s_, .slice a len cap], .func (.func 41) #[] #[.pointer (some ⟨w.heap.size + 1 + 1 + 1, 0, none⟩)], .int .i64 (x.1.1 : Int), x.1.2.1, undef, undef, undef, undef], defers := [] })
    (fun x a' s A B row hs hg hr => by obtain ⟨Bx, hb, e⟩ := hs; exact ⟨Bx, hb.own hg hr, e⟩) ?assign ?body ?done ?stop
  case assign =>
    rintro l pre ⟨⟨d, u, X⟩, hx, hd, hX⟩ W K ⟨⟨hL, hR, hg⟩, hB⟩ hK
    obtain ⟨k, n, s, a', len', cap', ks, rfl, rfl, -⟩ := hx.form
    gi_wp2
    refine hK _ _ ((KeepsOthers.alloc _ _).from _) ((Keeps.refl _ _).alloc hB.size _) ⟨⟨hL.alloc _, hR.alloc _, hg⟩, hB.alloc hB.size _⟩ ⟨W.heap.size, ⟨k, n, s, a', len', cap', ks, rfl, World.alloc_heap_new _ _, hR.lt⟩, by first | rfl | simp⟩
  case body =>
    rintro l pre ⟨⟨d, u, X⟩, hx, hd, hX⟩ a' W hl hr ⟨⟨hL, hR, hg⟩, hB⟩ ⟨Bx, ⟨k, n, s, a1, len', cap', ks, e, hb, hS⟩, rfl⟩ hlt
    simp only [Prod.mk.injEq] at e
    obtain ⟨rfl, rfl⟩ := e
    obtain ⟨c0, c1, c2, c3⟩ := tbox_cells hb
    have hcL := hL.cell
    have hxW : Has W (.agg #[.int .i64 k, .int .i64 n, .string s, .slice a1 len' cap']) (.mk k n s ks) := IsTm.later hB hB.size hx
    have hfm := (formed_at _ _ levels W hxW hX).mono (R' := fun e W' => ∃ b, (Tm.mk k n s ks).formed levels = b ∧ e = .returned (.bool b) ∧ Below W.heap.size W W' ∧ Boxed W' (w.heap.size + 1) 3 (.int .i64 levels) ∧ Boxed W' (w.heap.size + 1 + 1) 4 (.bool false) ∧ W'.cell? ⟨w.heap.size + 1 + 1, 0, none⟩ = some (.bool false) ∧ W'.frozen? ⟨w.heap.size + 1 + 1, 0, none⟩ = false)
      (fun e W' h => by
        have hR' : Boxed W' (w.heap.size + 1 + 1) 4 (.bool false) := (h.2.block _ hR.lt).trans hR
        exact ⟨_, rfl, h.1, h.2, (h.2.block _ hL.lt).trans hL, hR', hR'.cell, hR'.frozen⟩)
    have hBs := hB.size
    clear hxW
    gi_wp2_with (refine ⟨trivial, ?_⟩; gi_at_call 40; refine (CallsIn.inRound l (callsIn_wide.2 hfm)).mono ?_; clear hfm; rintro e W2 ⟨b, hbv, rfl, hb2, hL2, hR2, hcR2, hfR2⟩)
    · rename_i hnb
      have hb0 : b = false := by simpa using hnb
      refine ⟨(keepsFrom_below hb2).trans ((KeepsOthers.setCell _ _ _).from _), ⟨rfl, hR2.set _, ?_⟩, (hB.trans (hb2.mono hBs)).setCell (p := ⟨w.heap.size + 1 + 1, 0, none⟩) (by simp; omega) _⟩
      rw [validL, List.map_append, List.all_append]
      simp [Part.key, hbv, hb0]
    · rename_i hnb
      have hb0 : b = true := by simpa using hnb
      refine ⟨keepsFrom_below hb2, Keeps.all hb2 hBs, ⟨hL2, hR2, ?_⟩, hB.trans (hb2.mono hBs)⟩
      rw [validL] at hg ⊢
      rw [List.map_append, List.all_append, hg]
      simp [Part.key, hbv, hb0]
  case done =>
    rintro D ys W hD hy ⟨⟨hL, hR, hg⟩, hB⟩ hK
    have hcR := hR.cell
    have hfR := hR.frozen
    rw [hy] at hg
    gi_wp2
    have hK' := (KeepsOthers.setCell W ⟨w.heap.size + 1 + 1, 0, none⟩ (.bool true)).same D _ hK rfl
    refine ⟨by simp, .inl ⟨_, _, rfl, run_takeDeferred hK', ?_⟩⟩
    have hc5 := cell_kept (hR.set (.bool true)).cell (grownBy_putObj' _ D (.deferred none)) (fun r e => by cases e; exact ⟨_, hK', rfl⟩)
    refine ⟨.bool true, ?_, by rw [Tm.valid, hg], (hB.setCell (p := ⟨w.heap.size + 1 + 1, 0, none⟩) (by simp; omega) _).trans (belowK_b (w := w) (Nat.le_refl _) _ D _ _ (by simp at hD; omega) hK' rfl rfl)⟩
    simp [results, Try.f31, go_sem, hc5]
  case stop =>
    rintro D c pre W hD hpre ⟨⟨rfl, hR, hg⟩, hB⟩ hK
    have hgT : T.valid levels = false := by
      obtain ⟨r, hr⟩ := hpre
      rw [Tm.valid, ← hr, validL, List.all_append]
      rw [validL] at hg
      rw [hg]; rfl
    gi_wp2
    refine ⟨by simp, .inl ⟨_, _, rfl, run_takeDeferred hK, ?_⟩⟩
    have hc5 := cell_kept hR.cell (grownBy_putObj' _ D (.deferred none)) (fun r e => by cases e; exact ⟨_, hK, rfl⟩)
    refine ⟨.bool false, ?_, by rw [hgT], hB.trans (belowK_b (w := w) (Nat.le_refl _) W D _ _ (by simp at hD; omega) hK rfl rfl)⟩
    simp [results, Try.f31, go_sem, hc5]

/-- What term.Check tells. -/
def Tm.check (levels : Int) (T : Tm) : Int := if 1000 < T.size then 3 else if 60 < T.deep then 7 else if T.valid levels = true then 0 else 4

theorem Gets.then {w w1 : World} (hb : Below w.heap.size w w1) {v : Value} {e : Ending} {w2 : World} (h : Gets w1 v e w2) : e = .returned v ∧ Below w1.heap.size w1 w2 ∧ Below w.heap.size w w2 :=
  ⟨h.1, h.2, hb.trans (h.2.mono hb.size)⟩

theorem tbox_below {W W' : World} {B : Nat} {c : Array Value} {t : TypeId} {z : Nat × Nat} (h : W.heap[B]? = some (.cells c t z)) (hb : Below W.heap.size W W') : W'.heap[B]? = some (.cells c t z) :=
  (hb.block B (Array.getElem?_eq_some_iff.1 h).1).trans h

set_option maxRecDepth 100000 in
set_option maxHeartbeats 2000000 in
theorem check_at (v : Value) (T : Tm) (levels : Int) (w : World) (ht : Has w v T) (hs : T.size ≤ 4000000000000000000) :
    Calls Try.prog 10 #[v, .int .i64 levels] w (Gets w (.int .i64 (T.check levels))) := by
  obtain ⟨k, n, s, a, len, cap, ks, rfl, e, -⟩ := ht.form
  clear e
  obtain ⟨w1, hw1⟩ : ∃ w1, w1 = w.alloc (.cells #[.int .i64 k, .int .i64 n, .string s, .slice a len cap] 24) := ⟨_, rfl⟩
  have hB1 : Below w.heap.size w w1 := by rw [hw1]; exact (Below.refl _ w).alloc (Nat.le_refl _) _
  have hbox : w1.heap[w.heap.size]? = some (.cells #[.int .i64 k, .int .i64 n, .string s, .slice a len cap] 24 (0, 0)) := by rw [hw1]; exact World.alloc_heap_new _ _
  have ho := (over_at _ T 1000 w1 (ht.below hB1) hs (by omega)).mono (R' := fun e w2 => ∃ b, decide (1000 < T.size) = b ∧ e = .returned (.bool b) ∧ Below w.heap.size w w2 ∧ w2.cell? ⟨w.heap.size, 0, none⟩ = some (.int .i64 k) ∧ w2.cell? ⟨w.heap.size, 1, none⟩ = some (.int .i64 n) ∧ w2.cell? ⟨w.heap.size, 2, none⟩ = some (.string s) ∧ w2.cell? ⟨w.heap.size, 3, none⟩ = some (.slice a len cap) ∧
      Calls Try.prog 30 #[.agg #[.int .i64 k, .int .i64 n, .string s, .slice a len cap]] w2 fun e w3 => ∃ d : Nat, T.deep = d ∧ e = .returned (.int .i64 (d : Int)) ∧ Below w.heap.size w w3 ∧ w3.cell? ⟨w.heap.size, 0, none⟩ = some (.int .i64 k) ∧ w3.cell? ⟨w.heap.size, 1, none⟩ = some (.int .i64 n) ∧ w3.cell? ⟨w.heap.size, 2, none⟩ = some (.string s) ∧ w3.cell? ⟨w.heap.size, 3, none⟩ = some (.slice a len cap) ∧
        Calls Try.prog 31 #[.agg #[.int .i64 k, .int .i64 n, .string s, .slice a len cap], .int .i64 levels] w3 fun e w4 => ∃ b, T.valid levels = b ∧ e = .returned (.bool b) ∧ Below w.heap.size w w4)
    (fun e w2 h2 => by
      obtain ⟨rfl, h2b, hB2⟩ := Gets.then hB1 h2
      have hbox2 := tbox_below hbox h2b
      obtain ⟨c0, c1, c2, c3⟩ := tbox_cells hbox2
      refine ⟨_, rfl, rfl, hB2, c0, c1, c2, c3, (deep_at _ T w2 (ht.below hB2) hs).mono fun e w3 h3 => ?_⟩
      obtain ⟨rfl, h3b, hB3⟩ := Gets.then hB2 h3
      obtain ⟨c0, c1, c2, c3⟩ := tbox_cells (tbox_below hbox2 h3b)
      refine ⟨_, rfl, rfl, hB3, c0, c1, c2, c3, (valid_at _ T levels w3 (ht.below hB3) hs).mono fun e w4 h4 => ?_⟩
      obtain ⟨rfl, h4b, hB4⟩ := Gets.then hB3 h4
      exact ⟨_, rfl, rfl, hB4⟩)
  obtain ⟨r, hr⟩ : ∃ r, T.check levels = r := ⟨_, rfl⟩
  have HR := Lib.hid hr
  rw [hr]
  clear hr ht hB1 hbox
  subst hw1
  go_enter Try.func10, Try.ntmps10
  go_wp2_with (first
    | (go_at_call 29; refine ho.mono ?_; clear ho; rintro e w2 ⟨b2, hb2, rfl, hB2, c0, c1, c2, c3, hd⟩)
    | (go_at_call 30; refine hd.mono ?_; clear hd; rintro e w3 ⟨d3, hd3, rfl, hB3, c0', c1', c2', c3', hv⟩)
    | (go_at_call 31; refine hv.mono ?_; clear hv; rintro e w4 ⟨b4, hb4, rfl, hB4⟩))
  all_goals go_ret
  all_goals refine ⟨?_, by first | exact hB4 | exact hB3 | exact hB2⟩
  all_goals
    have h := HR.out
    rw [Tm.check] at h
    clear HR
    refine congrArg (fun r => Ending.returned (Value.int .i64 r)) (?_ : _ = r)
  · rename_i h1
    rw [← h, if_pos (of_decide_eq_true (hb2.trans h1))]
  · rename_i h1 h2
    have h1' := of_decide_eq_false (hb2.trans h1)
    rw [← h, if_neg h1', if_pos (by omega)]
  · rename_i h1 h2 h3
    have h1' := of_decide_eq_false (hb2.trans h1)
    have h3' : b4 = false := by simpa using h3
    rw [← h, if_neg h1', if_neg (by omega), hb4, if_neg (by rw [h3']; decide)]
  · rename_i h1 h2 h3
    have h1' := of_decide_eq_false (hb2.trans h1)
    have h3' : b4 = true := by simpa using h3
    rw [← h, if_neg h1', if_neg (by omega), hb4, if_pos h3']

end Go.Proofs.Ytlnggaepmclbkaa
