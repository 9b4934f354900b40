/-
  term.Vars: the numbers of a term's variables, each once, as they first occur.
-/
import Derived.Test.YtlnggaepmclbkaaZGround
import Derived.Maps.OwnSet
import Derived.Deep.OwnRows
namespace Go.Proofs.Ytlnggaepmclbkaa
open Go.RowKit Go.Shelf
set_option linter.unusedVariables false
attribute [local go_sem] Oper.semAt_some

def addNew (acc : List Int) (x : Int) : List Int := if acc.contains x then acc else acc ++ [x]
def addV (acc : List Int) (x : Nat × Tm) : List Int := if x.2.kind = 1 then addNew acc x.2.num else acc
/-- The variables of the parts that have come. -/
def varsL (l : List (Nat × Tm)) : List Int := l.foldl addV []
def Tm.vars (T : Tm) : List Int := varsL (T.parts 1)
theorem varsL_snoc (l : List (Nat × Tm)) (x : Nat × Tm) : varsL (l ++ [x]) = addV (varsL l) x := by simp [varsL]
theorem varsL_length (l : List (Nat × Tm)) : (varsL l).length ≤ l.length := by
  suffices h : ∀ acc : List Int, (l.foldl addV acc).length ≤ acc.length + l.length by simpa [varsL] using h []
  induction l with
  | nil => intro acc; simp
  | cons x l ih =>
    intro acc
    have h := ih (addV acc x)
    have h2 : (addV acc x).length ≤ acc.length + 1 := by
      unfold addV addNew
      split
      · split <;> simp
      · omega
    rw [List.foldl_cons, List.length_cons]
    omega

/-- A list of numbers in memory. -/
def IntsAt (w : World) (v : Value) (l : List Int) : Prop :=
  ∃ a cap, v = .slice a l.length cap ∧ l.length ≤ cap ∧ cap ≤ maxLen ∧ (a = none → cap = 0) ∧ ∀ i (h : i < l.length), ∃ b o, a = some ⟨b, o, none⟩ ∧ b < w.heap.size ∧ w.cell? ⟨b, o + i, none⟩ = some (.int .i64 l[i])

theorem IntsAt.below {w w' : World} {v : Value} {l : List Int} (h : IntsAt w v l) (k : Below w.heap.size w w') : IntsAt w' v l := by
  obtain ⟨a, cap, e, h1, h2, h3, h4⟩ := h
  refine ⟨a, cap, e, h1, h2, h3, fun i hi => ?_⟩
  obtain ⟨b, o, e2, hb, hc⟩ := h4 i hi
  exact ⟨b, o, e2, Nat.lt_of_lt_of_le hb k.size, (k.cell (p := ⟨b, _, none⟩) hb).trans hc⟩

theorem ints_of_row {w : World} {base : Nat} {t : TypeId} {v : Value} {l : List Int} (h : w.ownsRow base t 1 v l.length (l.map (Value.int .i64))) : IntsAt w v l := by
  obtain ⟨_, ⟨rfl, h0⟩ | ⟨g, cap, cur, rfl, hg, hh, h1, h2, h3, h4⟩⟩ := h
  · exact ⟨none, 0, by rw [h0], by omega, Nat.zero_le _, fun _ => rfl, fun i hi => by omega⟩
  · refine ⟨some ⟨g, 0, none⟩, cap, rfl, h1, h2, (fun h => by cases h), fun i hi => ⟨g, 0, rfl, (Array.getElem?_eq_some_iff.1 hh).1, ?_⟩⟩
    have e : (cur.toList.take (l.length * 1))[i]? = some (.int .i64 l[i]) := by rw [h4]; simp [hi]
    rw [List.getElem?_take_of_lt (by omega)] at e
    simpa [World.cell?, hh] using e

def setV (l : List Int) : DataW Unit := Maps.setOf (.agg []) (l.map (Lit.int .i64))
theorem any_i64 (x : Int) : ∀ l : List Int, l.any ((fun y : Lit => y.sameKey (.int .i64 x)) ∘ Lit.int .i64) = l.contains x
  | [] => rfl
  | a :: r => by
    rw [List.any_cons, List.contains_cons, any_i64 x r]
    congr 1
    show decide (IntKind.i64 = IntKind.i64 ∧ a = x) = (x == a)
    by_cases e : a = x
    · subst e
      simp
    · have e' : ¬ x = a := fun h => e h.symm
      simp [e, e']
theorem has_setV (l : List Int) (x : Int) : Maps.has (setV l) (.int .i64 x) = l.contains x := by
  unfold setV
  rw [Maps.has_setOf _ _ _ (fun y hy => by obtain ⟨_, _, rfl⟩ := List.mem_map.1 hy; trivial), List.any_map]
  exact any_i64 x _
theorem setV_snoc (l : List Int) (x : Int) : setV (l ++ [x]) = (setV l).put (.int .i64 x) (.agg []) := by
  unfold setV
  rw [List.map_append, List.map_singleton, Maps.setOf_snoc]

theorem keyed64 : Maps.Keyed Try.prog 2 := Maps.int_keyed Try.underlying2
theorem zeroUnit (w : World) : (zeroValue 66).run Try.prog w = .ok (.agg #[]) w := by kernel_rfl
theorem infoInt : (Try.prog.info? 3).map (fun i => (i.zero, i.size, i.bytes)) = some (some (.int .i64 0), 1, 8) := by kernel_rfl

theorem row_not_term {w : World} {base : Nat} {e : TypeId} {size : Nat} {v : Value} {n : Nat} {xs : List Value} (h : w.ownsRow base e size v n xs) (he : e ≠ 24) {b : Nat} {c : Array Value} {z : Nat × Nat} (hb : w.heap[b]? = some (.cells c 24 z)) : some b ≠ v.ownBlock := by
  rcases h.2 with ⟨rfl, _⟩ | ⟨g, cap, cur, rfl, _, hgb, _⟩
  · simp [Value.ownBlock]
  · intro e'
    obtain rfl : b = g := by simpa [Value.ownBlock] using e'
    rw [hgb] at hb; cases hb; exact he rfl

theorem row_not_map {w : World} {base : Nat} {e : TypeId} {size : Nat} {v : Value} {n : Nat} {xs : List Value} (h : w.ownsRow base e size v n xs) {P : Program} {k : TypeId} {R : Value → Option (DataW Unit × List MemPlace)} {b m : Nat} {D : DataW Unit} (hb : w.ownsMap P k R b m D) : v.ownBlock ≠ some b := by
  rcases h.2 with ⟨rfl, _⟩ | ⟨g, cap, cur, rfl, _, hgb, _⟩
  · simp [Value.ownBlock]
  · intro e'
    obtain rfl : g = b := by simpa [Value.ownBlock] using e'
    obtain ⟨es, ck, hh, _⟩ := hb
    rw [hgb] at hh; cases hh

theorem map_obj {w : World} {P : Program} {k : TypeId} {R : Value → Option (DataW Unit × List MemPlace)} {b m : Nat} {D : DataW Unit} (hb : w.ownsMap P k R b m D) : ∃ es ck, w.heap[b]? = some (.map es ck) := by
  obtain ⟨es, ck, hh, _⟩ := hb
  exact ⟨es, ck, hh⟩

theorem keeps_grown {n₀ : Nat} {W W' : World} {row : Option Nat} (hg : W.grownBy W' row) (hn : n₀ ≤ W.heap.size) (h1 : ∀ k, row = some k → n₀ ≤ k) (h2 : ∀ b c z, W.heap[b]? = some (.cells c 24 z) → some b ≠ row) : Keeps n₀ W W' :=
  ⟨(Below.refl _ _).grown hg hn h1, fun b c z e => (hg.block b (Array.getElem?_eq_some_iff.1 e).1 (h2 b c z e)).trans e⟩

set_option maxRecDepth 100000 in
set_option maxHeartbeats 4000000 in
theorem vars_at (v : Value) (T : Tm) (w : World) (ht : Has w v T) (hs : T.size ≤ 1000000000000) :
    Calls Try.prog 15 #[v] w fun e w' => ∃ r, e = .returned r ∧ IntsAt w' r T.vars ∧ Below w.heap.size w w' := by
  refine (callsIn_wide (n := 3)).1 ?_
  have hs4 : T.size ≤ 4000000000000000000 := by omega
  have hmm := @run_makeMap Try.prog
  obtain ⟨i0, hi, hz0, hz1, hz2⟩ := info_parts infoInt
  obtain ⟨k_, n_, s_, a, len, cap, ks_, rfl, e, -⟩ := ht.form
  clear e
  refine callsIn_of_wp_marks Try.func15 rfl trivial ?_ rfl
  simp only [Try.ntmps15, List.size_toArray, List.length_cons, List.length_nil, Nat.reduceAdd, Nat.reduceSub, Array.replicate_succ, Array.replicate_zero, List.push_toArray, List.append_toArray, List.nil_append, List.cons_append]
  gi_wp2_with (refine ⟨trivial, ?_⟩; gi_at_call 34; refine (parts_in Fence.wide _ trivial rfl _ _ _ _ _).mono ?_; rintro e w' ⟨rfl, rfl⟩)
  have bV := Boxed.new (w.alloc (.cells #[.int .i64 k_, .int .i64 n_, .string s_, .slice a len cap] 24)) 34 (.slice none 0 0)
  have hm0 := World.ownsMap_made ((w.alloc (.cells #[.int .i64 k_, .int .i64 n_, .string s_, .slice a len cap] 24)).alloc (.cells #[.slice none 0 0] 34)) Try.prog 2 (unitElem (H := Unit))
  have bM := Boxed.new (((w.alloc (.cells #[.int .i64 k_, .int .i64 n_, .string s_, .slice a len cap] 24)).alloc (.cells #[.slice none 0 0] 34)).alloc (.map #[] 0)) 62 (.map (some (w.heap.size + 1 + 1)))
  have hT := World.alloc_heap_new ((((w.alloc (.cells #[.int .i64 k_, .int .i64 n_, .string s_, .slice a len cap] 24)).alloc (.cells #[.slice none 0 0] 34)).alloc (.map #[] 0)).alloc (.cells #[.map (some (w.heap.size + 1 + 1))] 62)) (.cells #[.int .i64 k_, .int .i64 n_, .string s_, .slice a len cap] 24)
  simp only [World.size_alloc] at bV hm0 bM hT
  have hB0 : Below w.heap.size w (((((w.alloc (.cells #[.int .i64 k_, .int .i64 n_, .string s_, .slice a len cap] 24)).alloc (.cells #[.slice none 0 0] 34)).alloc (.map #[] 0)).alloc (.cells #[.map (some (w.heap.size + 1 + 1))] 62)).alloc (.cells #[.int .i64 k_, .int .i64 n_, .string s_, .slice a len cap] 24)) :=
    (((((Below.refl _ w).alloc (Nat.le_refl _) _).alloc (by simp) _).alloc (by simp; omega) _).alloc (by simp; omega) _).alloc (by simp; omega) _
  refine wpIn_rangeFunc_ownH rfl (by decide) (gf := 41) (lb := #[.pointer (some ⟨w.heap.size + 1 + 1 + 1 + 1, 0, none⟩)]) rfl trivial (enters_of Try.func41 (by kernel_rfl) rfl)
    (parts_stops Fence.wide rfl _ trivial trivial rfl (w.heap.size + 1 + 1 + 1 + 1) w.heap.size T (.agg #[.int .i64 k_, .int .i64 n_, .string s_, .slice a len cap]) _ w (by simp; omega) hB0 hT ht hs4) keeps_t (keeps_b (by simp; omega)) (Below.refl _ _) (fun _ => rfl)
    (fun pre W => ((∃ v, Boxed W (w.heap.size + 1) 34 v ∧ W.ownsRow w.heap.size 3 1 v (varsL (pre.map Part.key)).length ((varsL (pre.map Part.key)).map (Value.int .i64)) ∧ (v = .slice none 0 0 ↔ varsL (pre.map Part.key) = [])) ∧ Boxed W (w.heap.size + 1 + 1 + 1) 62 (.map (some (w.heap.size + 1 + 1))) ∧ W.ownsMap Try.prog 2 (unitElem (H := Unit)) (w.heap.size + 1 + 1) (varsL (pre.map Part.key)).length (setV (varsL (pre.map Part.key)))) ∧ Below w.heap.size w W)
    (fun _ _ _ => False)
    (OwnFrom.and (OwnFrom.and (Own.from (holdsRow_own w.heap.size _ _ _ 1 (fun pre : List (Part w.heap.size w) => (varsL (pre.map Part.key)).length) (fun pre => (varsL (pre.map Part.key)).map (Value.int .i64)) (fun pre v => v = .slice none 0 0 ↔ varsL (pre.map Part.key) = [])) _) (OwnFrom.and (Own.from (boxed_own _ _ _) _) (fun s A B row hs hg hr => hs.kept hg (fun e => by have := (hr _ e.symm).1; simp at this; omega)))) (ownFrom_below (Nat.le_refl _) (by simp; omega)))
    (fun _ _ _ _ _ hs _ _ => hs)
    ⟨⟨⟨_, (((bV.alloc _).alloc _).alloc _), World.ownsRow_nil _ _ _ _, by simp [varsL]⟩, bM.alloc _, (hm0.alloc _).alloc _⟩, hB0⟩
    (fun x a' W => ∃ Bx, PBox x (w.heap.size + 1 + 1 + 1 + 1) Bx W ∧ a' = { tmps := #[.agg #[.int .i64 k_, .int .i64 n_, .string s_, .slice a len cap], .pointer (some ⟨w.heap.size, 0, none⟩), .slice none 0 0, .pointer (some ⟨w.heap.size + 1, 0, none⟩), .pointer (some ⟨w.heap.size + 1 + 1 + 1, 0, none⟩), undef, .pointer (some ⟨Bx, 0, none⟩), undef, undef, .map (some (w.heap.size + 1 + 1)), .agg #[.int .i64 k_, .int .i64 n_, .string s_, .slice a len cap], .func (.func 41) #[] #[.pointer (some ⟨w.heap.size + 1 + 1 + 1 + 1, 0, none⟩)], .int .i64 (x.1.1 : Int), x.1.2.1, undef, undef, undef, undef, undef, undef, undef, undef, undef, undef, undef, undef, undef, undef, undef, undef, undef, undef, undef, undef, undef], defers := [] })
    (fun x a' s A B row hs hg hr => by obtain ⟨Bx, hb, e⟩ := hs; exact ⟨Bx, hb.own hg hr, e⟩) ?assign ?body ?done ?stop
  case assign =>
    rintro l pre ⟨⟨d, u, X⟩, hx, hd, hX⟩ W K ⟨⟨⟨vv, hv, hrow, hnil⟩, hM, hown⟩, hB⟩ hK
    obtain ⟨k, n, s, a', len', cap', ks, rfl, rfl, -⟩ := hx.form
    gi_wp2
    refine hK _ _ ((KeepsOthers.alloc _ _).from _) ((Keeps.refl _ _).alloc hB.size _) ⟨⟨⟨vv, hv.alloc _, hrow.alloc _, hnil⟩, hM.alloc _, hown.alloc _⟩, hB.alloc hB.size _⟩ ⟨W.heap.size, ⟨k, n, s, a', len', cap', ks, rfl, World.alloc_heap_new _ _, hM.lt⟩, by first | rfl | simp⟩
  case body =>
    rintro l pre ⟨⟨d, u, X⟩, hx, hd, hX⟩ a' W hl hr ⟨⟨⟨vv, hv, hrow, hnil⟩, hM, hown⟩, hB⟩ ⟨Bx, ⟨k, n, s, a1, len', cap', ks, e, hb, hS⟩, rfl⟩ hlt
    simp only [Prod.mk.injEq] at e
    obtain ⟨rfl, rfl⟩ := e
    obtain ⟨c0, c1, c2, c3⟩ := tbox_cells hb
    have hn : i64ok n := by
      obtain ⟨_, _, _, _, _, _, _, e1, e2, _, _, hn, _⟩ := hx.form
      cases e2; exact hn
    have hsnoc := varsL_snoc (pre.map Part.key) (d, .mk k n s ks)
    have hvl := varsL_length (pre.map Part.key)
    rw [List.length_map] at hvl
    have hmap : (pre ++ [(⟨(d, .agg #[.int .i64 k, .int .i64 n, .string s, .slice a1 len' cap'], .mk k n s ks), hx, hd, hX⟩ : Part w.heap.size w)]).map Part.key = pre.map Part.key ++ [(d, .mk k n s ks)] := by simp [Part.key]
    generalize hV : varsL (pre.map Part.key) = V at *
    have HN := Lib.hid (And.intro hmap (And.intro hsnoc hV))
    clear hmap hsnoc hV
    have hBs := hB.size
    have hcM := hM.cell
    have hcV := hv.cell
    have hkey : keyOf Try.prog 2 (.int .i64 n) = some (.int .i64 n) := Maps.keyOf_int_mk Try.underlying2 (WalkArith.wf_i64 hn)
    have hmx : V.length < maxLen := by unfold maxLen; omega
    by_cases hk : k = 1
    · subst hk
      obtain ⟨es, ck, hmap⟩ := map_obj hown
      have hM1 := hM.alloc (.cells #[] 66)
      have hcM1 := hM1.cell
      have hb1 : (W.alloc (.cells #[] 66)).heap[Bx]? = _ := (Below.heap_alloc W _ Bx (Array.getElem?_eq_some_iff.1 hb).1).trans hb
      obtain ⟨d0, d1, d2, d3⟩ := tbox_cells hb1
      have hne : ∀ {t : TypeId} {B : Nat} {u : Value}, Boxed W B t u → some B ≠ some (w.heap.size + 1 + 1) := fun h e => by cases e; rw [show W.heap[_]? = _ from h] at hmap; cases hmap
      have hneB : some Bx ≠ some (w.heap.size + 1 + 1) := fun e => by cases e; rw [hb] at hmap; cases hmap
      gi_wp2_with (first
        | (gi_at_lookup; refine wpListIn_lookup_own_unit _ rfl _ _ 62 rfl 2 66 keyed64 Try.underlying62 (zeroUnit _) (w.heap.size + 1 + 1) V.length _ rfl hown _ _ rfl hkey ?_)
        | (gi_at_mapUpdate; refine wpListIn_mapUpdate_own _ rfl _ _ _ 62 rfl 2 66 keyed64 Try.underlying62 (unitElem (H := Unit)) (w.heap.size + 1 + 1) V.length _ rfl (hown.alloc _) hmx _ _ _ rfl rfl hkey _ [] unitElem_mk ?_; intro w1 hown1 hgrow1; have hv1 := (hv.alloc (.cells #[] 66)).kept hgrow1 (hne hv); have hcV1 := hv1.cell; have hM2 := hM1.kept hgrow1 (hne hM); have hb2 := (hgrow1.block Bx (Array.getElem?_eq_some_iff.1 hb1).1 hneB).trans hb1; have hrow1 := (hrow.alloc (.cells #[] 66)).kept hgrow1 (Or.inr (row_not_map hrow hown)); obtain ⟨f0, f1, f2, f3⟩ := tbox_cells hb2)
        | (gi_at_builtin; refine wpListIn_append_own _ rfl _ _ 34 rfl w.heap.size 3 i0 (.int .i64 0) 1 8 Try.underlying34 hi hz0 hz1 hz2 rfl (by decide) _ _ _ rfl (hrow1.alloc _) ⟨w1.heap.size, 0, none⟩ 1 1 [.int .i64 n] rfl rfl (cell_one_new _ _ _) (by simp [Value.oneCell']) (by omega) (by omega) (by have := hgrow1.size; simp at this ⊢; omega) ?_; intro v' w2 hown' hgrow2 _; obtain ⟨g', cap', rfl⟩ := ownsRow_succ hown'; obtain ⟨hv2, hv3, hr3, hk3, hb3⟩ := hv1.appended (by decide) hrow1 (by have := hgrow1.size; simp at this; omega) (by omega) hown' hgrow2; have hcv2 := hv2.cell; have hfv2 := hv2.frozen))
      · have hc : V.contains n = true := by rw [← has_setV]; assumption
        have e := (congrArg varsL HN.out.1).trans (HN.out.2.1.trans (show addV V (d, .mk 1 n s ks) = V by simp only [addV, addNew, Tm.kind, Tm.num, if_true, hc]))
        exact ⟨(KeepsOthers.alloc _ _).from _, (Keeps.refl _ _).alloc hBs _, ⟨⟨vv, hv.alloc _, by rw [e]; exact hrow.alloc _, by rw [e]; exact hnil⟩, hM1, by rw [e]; exact hown.alloc _⟩, hB.alloc hBs _⟩
      · have hc : V.contains n = false := by rw [← has_setV]; assumption
        have e := (congrArg varsL HN.out.1).trans (HN.out.2.1.trans (show addV V (d, .mk 1 n s ks) = V ++ [n] by simp only [addV, addNew, Tm.kind, Tm.num, if_true, hc]; rfl))
        have hk1 : Keeps w.heap.size W w1 := ((Keeps.refl _ _).alloc hBs _).trans (keeps_grown hgrow1 (by simp; omega) (fun k e => by cases e; omega) (fun b c z h e => by
          cases e
          rw [Below.heap_alloc W _ _ (Array.getElem?_eq_some_iff.1 hmap).1, hmap] at h
          cases h))
        have s1 := hk1.below.size
        have hk2 : Keeps w.heap.size w1 (w2.setCell ⟨w.heap.size + 1, 0, none⟩ (.slice (some ⟨g', 0, none⟩) (V.length + 1) cap')) := ⟨hb3, fun b c z h => by
          have hlt := (Array.getElem?_eq_some_iff.1 h).1
          have h1 : w2.heap[b]? = some (.cells c 24 z) := (hgrow2.block b (by simp; omega) (row_not_term hrow1 (by decide) h)).trans ((Below.heap_alloc w1 _ b hlt).trans h)
          refine (Below.heap_setCell w2 ⟨w.heap.size + 1, 0, none⟩ _ b (fun e => ?_)).trans h1
          subst e
          rw [show w1.heap[_]? = _ from hv1] at h; cases h⟩
        have hM3 : Boxed w2 (w.heap.size + 1 + 1 + 1) 62 (.map (some (w.heap.size + 1 + 1))) := (hM2.alloc _).kept hgrow2 (hM2.not_row (by decide) hrow1)
        have hown2 := ((hown1.alloc (.cells #[.int .i64 n] 3)).kept hgrow2 (row_not_map hrow1 hown1).symm).setCell (a := ⟨w.heap.size + 1, 0, none⟩) (by simp) (.slice (some ⟨g', 0, none⟩) (V.length + 1) cap')
        refine ⟨((KeepsOthers.alloc _ _).from _).trans ((KeepsFrom.of_grownBy hgrow1 (fun j e => by cases e; simp)).trans (hk3.from _)), hk1.trans hk2, ⟨⟨_, hv3, by rw [e]; simpa using hr3, by rw [e]; simp⟩, hM3.other (by omega) _, ?_⟩, hB.trans (hk1.below.trans hk2.below)⟩
        rw [e, setV_snoc, List.length_append]
        exact hown2
    · have e := (congrArg varsL HN.out.1).trans (HN.out.2.1.trans (show addV V (d, .mk k n s ks) = V by unfold addV; exact if_neg hk))
      gi_wp2
      exact ⟨KeepsFrom.refl _ _, Keeps.refl _ _, ⟨⟨vv, hv, by rw [e]; exact hrow, by rw [e]; exact hnil⟩, hM, by rw [e]; exact hown⟩, hB⟩
  case done =>
    rintro D ys W hD hy ⟨⟨⟨vv, hv, hrow, hnil⟩, hM, hown⟩, hB⟩ hK
    have hcV := hv.cell
    rw [hy] at hrow
    gi_wp2
    refine ⟨by simp, .inl ⟨_, _, rfl, run_takeDeferred hK, ?_⟩⟩
    exact ⟨_, results_tmp rfl _ _ _, vv, rfl, ints_of_row (ownsRow_putObj hrow _ hK rfl), hB.trans (belowK_b (w := w) (Nat.le_refl _) W D _ _ (by simp at hD; omega) hK rfl rfl)⟩
  case stop =>
    rintro D c pre W _ _ h _
    exact h.elim

end Go.Proofs.Ytlnggaepmclbkaa

namespace Go.Proofs.Ytlnggaepmclbkaa
open Go.RowKit Go.Shelf
set_option linter.unusedVariables false

mutual
/-- A term, its variables' numbers moved. -/
def Tm.shift (d : Int) : Tm → Tm
  | .mk k n s ks => .mk k (if k = 1 then wrap64 (n + d) else n) s (Tm.shifts d ks)
def Tm.shifts (d : Int) : List Tm → List Tm
  | [] => []
  | t :: ts => t.shift d :: Tm.shifts d ts
end
theorem Tm.shift_mk (d k n : Int) (s : ByteArray) (ks : List Tm) : (Tm.mk k n s ks).shift d = .mk k (if k = 1 then wrap64 (n + d) else n) s (Tm.shifts d ks) := by rw [Tm.shift]
theorem Tm.shifts_eq (d : Int) : ∀ ks : List Tm, Tm.shifts d ks = ks.map (Tm.shift d)
  | [] => by rw [Tm.shifts]; rfl
  | t :: ts => by rw [Tm.shifts, Tm.shifts_eq d ts]; rfl

theorem wrap64_ok (x : Int) : i64ok (wrap64 x) := by unfold i64ok; simp only [wrap64]; omega

/-- What a call that makes a term leaves: the term in new memory; what was there is as it was. -/
def NewTm (w : World) (T : Tm) (e : Ending) (w' : World) : Prop := ∃ r, e = .returned r ∧ TmIn (fun b => w.heap.size ≤ b ∧ b < w'.heap.size) w' r T ∧ Below w.heap.size w w'
def NewTs (w : World) (ks : List Tm) (e : Ending) (w' : World) : Prop := ∃ r, e = .returned r ∧ TsIn (fun b => w.heap.size ≤ b ∧ b < w'.heap.size) w' r ks ∧ Below w.heap.size w w'

abbrev HasTs (w : World) (v : Value) (ks : List Tm) : Prop := TsIn (fun b => b < w.heap.size) w v ks
theorem HasTs.below {w w' : World} {v : Value} {ks : List Tm} (h : HasTs w v ks) (k : Below w.heap.size w w') : HasTs w' v ks := TsIn.carry (fun b hb => k.block b hb) (fun b hb => Nat.lt_of_lt_of_le hb k.size) h

theorem infoTerm : (Try.prog.info? 24).map (fun i => (i.zero, i.size, i.bytes)) = some (some (.agg #[.int .i64 0, .int .i64 0, .string (ByteArray.mk #[]), .slice none 0 0]), 4, 56) := by kernel_rfl

theorem make_terms (n : Nat) (h : n ≤ 1000000000000) (w : World) :
    (Instr.makeSlice 22 (.int .i64 (n : Int)) (.int .i64 (n : Int))).run Try.prog w = .ok (.slice (some ⟨w.heap.size, 0, none⟩) n n) (w.alloc (.cells (madeCells #[.int .i64 0, .int .i64 0, .string (ByteArray.mk #[]), .slice none 0 0] (n * 4)) 24)) := by
  obtain ⟨i, hi, hz, hs, hb⟩ := info_parts infoTerm
  have hr := run_make (P := Try.prog) w 22 24 i _ Try.underlying22 hi hz .i64 .i64 n n (by omega) (Int.le_refl _) (by rw [hb]; omega) (by omega)
  simp only [Int.toNat_natCast, hs] at hr
  exact hr

theorem zeroTerm (w : World) : (zeroValue 24).run Try.prog w = .ok (.agg #[.int .i64 0, .int .i64 0, .string (ByteArray.mk #[]), .slice none 0 0]) w := by kernel_rfl

/-- The new list, its first places filled. -/
structure Filled (W : World) (B c len : Nat) (d : Int) (ks : List Tm) : Prop where
  row : ∃ cur : Array Value, W.heap[B]? = some (.cells cur 24 (0, 0)) ∧ cur.size = len * 4
  kids : ∀ i t, i < c → ks[i]? = some t → ∃ (k' n' : Int) (s' : ByteArray) (a' : Option Addr) (l' c' : Nat), W.cell? ⟨B, i * 4, none⟩ = some (.int .i64 k') ∧ W.cell? ⟨B, i * 4 + 1, none⟩ = some (.int .i64 n') ∧
      W.cell? ⟨B, i * 4 + 2, none⟩ = some (.string s') ∧ W.cell? ⟨B, i * 4 + 3, none⟩ = some (.slice a' l' c') ∧ TmIn (fun b => B < b ∧ b < W.heap.size) W (.agg #[.int .i64 k', .int .i64 n', .string s', .slice a' l' c']) (t.shift d)

theorem Filled.spot {W : World} {B c len : Nat} {d : Int} {ks : List Tm} (h : Filled W B c len d ks) (i : Nat) (hi : i < len) :
    ∃ u0 u1 u2 u3, W.cell? ⟨B, i * 4, none⟩ = some u0 ∧ W.cell? ⟨B, i * 4 + 1, none⟩ = some u1 ∧ W.cell? ⟨B, i * 4 + 2, none⟩ = some u2 ∧ W.cell? ⟨B, i * 4 + 3, none⟩ = some u3 ∧ ∀ j, W.frozen? ⟨B, j, none⟩ = false := by
  obtain ⟨cur, h1, h2⟩ := h.row
  have e : ∀ j, j < len * 4 → ∃ u, W.cell? ⟨B, j, none⟩ = some u := fun j hj => ⟨cur[j], by simp [World.cell?, h1, Array.getElem?_eq_getElem (show j < cur.size by omega)]⟩
  obtain ⟨u0, e0⟩ := e (i * 4) (by omega)
  obtain ⟨u1, e1⟩ := e (i * 4 + 1) (by omega)
  obtain ⟨u2, e2⟩ := e (i * 4 + 2) (by omega)
  obtain ⟨u3, e3⟩ := e (i * 4 + 3) (by omega)
  exact ⟨u0, u1, u2, u3, e0, e1, e2, e3, fun j => by simp [World.frozen?, h1]⟩

theorem Filled.below {W W' : World} {B c len : Nat} {d : Int} {ks : List Tm} (h : Filled W B c len d ks) (hb : Below W.heap.size W W') : Filled W' B c len d ks := by
  obtain ⟨cur, h1, h2⟩ := h.row
  have hlt : B < W.heap.size := (Array.getElem?_eq_some_iff.1 h1).1
  refine ⟨⟨cur, (hb.block B hlt).trans h1, h2⟩, fun i t hi ht => ?_⟩
  obtain ⟨k', n', s', a', l', c', c0, c1, c2, c3, hT⟩ := h.kids i t hi ht
  exact ⟨k', n', s', a', l', c', (hb.cell (p := ⟨B, _, none⟩) hlt).trans c0, (hb.cell (p := ⟨B, _, none⟩) hlt).trans c1, (hb.cell (p := ⟨B, _, none⟩) hlt).trans c2, (hb.cell (p := ⟨B, _, none⟩) hlt).trans c3,
    hT.carry (fun b hp => hb.block b hp.2) (fun b hp => ⟨hp.1, Nat.lt_of_lt_of_le hp.2 hb.size⟩)⟩

theorem set_block {W : World} {B o : Nat} {cur : Array Value} {t : TypeId} {z : Nat × Nat} (h : W.heap[B]? = some (.cells cur t z)) (v : Value) : (W.setCell ⟨B, o, none⟩ v).heap[B]? = some (.cells (cur.setIfInBounds o v) t z) := by
  obtain ⟨hlt, hk⟩ := Array.getElem?_eq_some_iff.1 h
  show (W.heap.modify B _)[B]? = _
  rw [Array.getElem?_eq_getElem (by rw [Array.size_modify]; exact hlt), Array.getElem_modify_self, hk]
  rfl

/-- A box of a term, stored whole. -/
theorem four_block {W : World} {B : Nat} {c0 c1 c2 c3 : Value} {t : TypeId} {z : Nat × Nat} (h : W.heap[B]? = some (.cells #[c0, c1, c2, c3] t z)) (v0 v1 v2 v3 : Value) :
    ((((W.setCell ⟨B, 0, none⟩ v0).setCell ⟨B, 1, none⟩ v1).setCell ⟨B, 2, none⟩ v2).setCell ⟨B, 3, none⟩ v3).heap[B]? = some (.cells #[v0, v1, v2, v3] t z) :=
  set_block (o := 3) (set_block (o := 2) (set_block (o := 1) (set_block (o := 0) h v0) v1) v2) v3

theorem Filled.set {W : World} {B c len : Nat} {d : Int} {ks : List Tm} (h : Filled W B c len d ks) (hc : c < len) {t : Tm} (ht : ks[c]? = some t) {k n : Int} {s : ByteArray} {a : Option Addr} {l cp : Nat}
    (hT : TmIn (fun b => B < b ∧ b < W.heap.size) W (.agg #[.int .i64 k, .int .i64 n, .string s, .slice a l cp]) (t.shift d)) :
    Filled ((((W.setCell ⟨B, c * 4, none⟩ (.int .i64 k)).setCell ⟨B, c * 4 + 1, none⟩ (.int .i64 n)).setCell ⟨B, c * 4 + 2, none⟩ (.string s)).setCell ⟨B, c * 4 + 3, none⟩ (.slice a l cp)) B (c + 1) len d ks := by
  obtain ⟨cur, h1, h2⟩ := h.row
  have e1 := set_block (o := c * 4 + 3) (set_block (o := c * 4 + 2) (set_block (o := c * 4 + 1) (set_block (o := c * 4) h1 (.int .i64 k)) (.int .i64 n)) (.string s)) (.slice a l cp)
  have eo : ∀ b, b ≠ B → ((((W.setCell ⟨B, c * 4, none⟩ (.int .i64 k)).setCell ⟨B, c * 4 + 1, none⟩ (.int .i64 n)).setCell ⟨B, c * 4 + 2, none⟩ (.string s)).setCell ⟨B, c * 4 + 3, none⟩ (.slice a l cp)).heap[b]? = W.heap[b]? := fun b hb => by
    rw [Below.heap_setCell _ _ _ _ hb, Below.heap_setCell _ _ _ _ hb, Below.heap_setCell _ _ _ _ hb, Below.heap_setCell _ _ _ _ hb]
  have es : ((((W.setCell ⟨B, c * 4, none⟩ (.int .i64 k)).setCell ⟨B, c * 4 + 1, none⟩ (.int .i64 n)).setCell ⟨B, c * 4 + 2, none⟩ (.string s)).setCell ⟨B, c * 4 + 3, none⟩ (.slice a l cp)).heap.size = W.heap.size := by simp
  generalize ((((W.setCell ⟨B, c * 4, none⟩ (.int .i64 k)).setCell ⟨B, c * 4 + 1, none⟩ (.int .i64 n)).setCell ⟨B, c * 4 + 2, none⟩ (.string s)).setCell ⟨B, c * 4 + 3, none⟩ (.slice a l cp)) = W' at e1 eo es ⊢
  have hcarry : ∀ {v : Value} {T : Tm}, TmIn (fun b => B < b ∧ b < W.heap.size) W v T → TmIn (fun b => B < b ∧ b < W'.heap.size) W' v T := fun hh =>
    hh.carry (fun b hb => eo b (by omega)) (fun b hb => ⟨hb.1, by rw [es]; exact hb.2⟩)
  have cell' : ∀ j, W'.cell? ⟨B, j, none⟩ = ((((cur.setIfInBounds (c * 4) (.int .i64 k)).setIfInBounds (c * 4 + 1) (.int .i64 n)).setIfInBounds (c * 4 + 2) (.string s)).setIfInBounds (c * 4 + 3) (.slice a l cp))[j]? := fun j => by simp [World.cell?, e1]
  have cell0 : ∀ j, W.cell? ⟨B, j, none⟩ = cur[j]? := fun j => by simp [World.cell?, h1]
  refine ⟨⟨_, e1, by simp [h2]⟩, fun i u hi hu => ?_⟩
  by_cases hic : i = c
  · subst hic
    rw [ht] at hu
    cases hu
    refine ⟨k, n, s, a, l, cp, ?_, ?_, ?_, ?_, hcarry hT⟩
    · rw [cell', Array.getElem?_setIfInBounds_ne (by omega), Array.getElem?_setIfInBounds_ne (by omega), Array.getElem?_setIfInBounds_ne (by omega), Array.getElem?_setIfInBounds_self_of_lt (by omega)]
    · rw [cell', Array.getElem?_setIfInBounds_ne (by omega), Array.getElem?_setIfInBounds_ne (by omega), Array.getElem?_setIfInBounds_self_of_lt (by simp; omega)]
    · rw [cell', Array.getElem?_setIfInBounds_ne (by omega), Array.getElem?_setIfInBounds_self_of_lt (by simp; omega)]
    · rw [cell', Array.getElem?_setIfInBounds_self_of_lt (by simp; omega)]
  · obtain ⟨k', n', s', a', l', c', c0, c1, c2, c3, hT'⟩ := h.kids i u (by omega) hu
    have other : ∀ j, j < c * 4 → W'.cell? ⟨B, j, none⟩ = W.cell? ⟨B, j, none⟩ := fun j hj => by
      rw [cell', cell0, Array.getElem?_setIfInBounds_ne (by omega), Array.getElem?_setIfInBounds_ne (by omega), Array.getElem?_setIfInBounds_ne (by omega), Array.getElem?_setIfInBounds_ne (by omega)]
    exact ⟨k', n', s', a', l', c', (other _ (by omega)).trans c0, (other _ (by omega)).trans c1, (other _ (by omega)).trans c2, (other _ (by omega)).trans c3, hcarry hT'⟩

theorem Filled.done {W : World} {B : Nat} {d : Int} {ks : List Tm} (h : Filled W B ks.length ks.length d ks) (hl : ks.length ≤ maxLen) : TsIn (fun b => B ≤ b ∧ b < W.heap.size) W (.slice (some ⟨B, 0, none⟩) ks.length ks.length) (Tm.shifts d ks) := by
  obtain ⟨cur, h1, h2⟩ := h.row
  have hlen : (Tm.shifts d ks).length = ks.length := by rw [Tm.shifts_eq, List.length_map]
  refine ⟨some ⟨B, 0, none⟩, ks.length, by rw [hlen], by rw [hlen]; exact Nat.le_refl _, hl, (fun h => by cases h), fun i hi => ?_⟩
  rw [hlen] at hi
  obtain ⟨k', n', s', a', l', c', c0, c1, c2, c3, hT⟩ := h.kids i ks[i] hi (List.getElem?_eq_getElem hi)
  refine ⟨B, 0, k', n', s', a', l', c', rfl, ⟨Nat.le_refl _, (Array.getElem?_eq_some_iff.1 h1).1⟩, by rw [Nat.zero_add]; exact c0, by rw [Nat.zero_add]; exact c1, by rw [Nat.zero_add]; exact c2, by rw [Nat.zero_add]; exact c3, ?_⟩
  have e : (Tm.shifts d ks)[i] = ks[i].shift d := by simp [Tm.shifts_eq]
  rw [e]
  exact hT.carry (fun _ _ => rfl) (fun b hb => ⟨Nat.le_of_lt hb.1, hb.2⟩)

set_option maxRecDepth 100000 in
set_option maxHeartbeats 2000000 in
theorem shifted_of (d : Int) (ks : List Tm) (ih : ∀ t ∈ ks, ∀ (v : Value) (w : World), Has w v t → Calls Try.prog 12 #[v, .int .i64 d] w (NewTm w (t.shift d)))
    (v : Value) (w : World) (hv : HasTs w v ks) (hl : ks.length ≤ 1000000000000) :
    Calls Try.prog 33 #[v, .int .i64 d] w (NewTs w (Tm.shifts d ks)) := by
  obtain ⟨a, cap, rfl, hc, hm, ha, hx⟩ := id hv
  have hmk := make_terms ks.length hl
  have hz := zeroTerm
  by_cases h0 : ks.length = 0
  · obtain rfl : ks = [] := List.eq_nil_of_length_eq_zero h0
    go_enter Try.func33, Try.ntmps33
    go_wp2_with fail
    go_ret
    exact ⟨_, rfl, ⟨none, 0, by simp [Tm.shifts_eq], Nat.le_refl _, Nat.zero_le _, fun _ => rfl, fun i hi => by simp [Tm.shifts_eq] at hi⟩, Below.refl _ _⟩
  · go_enter Try.func33, Try.ntmps33
    go_wp2_with fail
    go_loopw [16] (fun i wr => ∃ c : Nat, i = .int .i64 c ∧ c ≤ ks.length ∧ Filled wr w.heap.size c ks.length d ks ∧ Below w.heap.size w wr) (fun i _ => ks.length - (intOf i).toNat)
    case atStart =>
      refine ⟨0, rfl, Nat.zero_le _, ⟨⟨_, World.alloc_heap_new _ _, by rw [size_madeCells]⟩, fun i t hi => absurd hi (Nat.not_lt_zero _)⟩, (Below.refl _ w).alloc (Nat.le_refl _) _⟩
    case round =>
      obtain ⟨c, rfl, hcl, hF, hB⟩ := hrel
      by_cases hlt : c < ks.length
      · obtain ⟨b, o, k', n', s', a', l', c', rfl, hbn, c0, c1, c2, c3, ht⟩ := hx c hlt
        have hbn' : b < w.heap.size := hbn
        have q0 := (hB.cell (p := ⟨b, o + c * 4, none⟩) hbn').trans c0
        have q1 := (hB.cell (p := ⟨b, o + c * 4 + 1, none⟩) hbn').trans c1
        have q2 := (hB.cell (p := ⟨b, o + c * 4 + 2, none⟩) hbn').trans c2
        have q3 := (hB.cell (p := ⟨b, o + c * 4 + 3, none⟩) hbn').trans c3
        have ht1 : Has wr (.agg #[.int .i64 k', .int .i64 n', .string s', .slice a' l' c']) ks[c] := IsTm.later hB hB.size ht
        have hih : ∀ w3, Below wr.heap.size wr w3 → Calls Try.prog 12 #[.agg #[.int .i64 k', .int .i64 n', .string s', .slice a' l' c'], .int .i64 d] w3 fun e w4 => ∃ (k4 n4 : Int) (s4 : ByteArray) (a4 : Option Addr) (l4 c4 : Nat) (u0 u1 u2 u3 : Value), e = .returned (.agg #[.int .i64 k4, .int .i64 n4, .string s4, .slice a4 l4 c4]) ∧
            w4.cell? ⟨w.heap.size, c * 4, none⟩ = some u0 ∧ w4.cell? ⟨w.heap.size, c * 4 + 1, none⟩ = some u1 ∧ w4.cell? ⟨w.heap.size, c * 4 + 2, none⟩ = some u2 ∧ w4.cell? ⟨w.heap.size, c * 4 + 3, none⟩ = some u3 ∧ (∀ j, w4.frozen? ⟨w.heap.size, j, none⟩ = false) ∧
            TmIn (fun b => w.heap.size < b ∧ b < w4.heap.size) w4 (.agg #[.int .i64 k4, .int .i64 n4, .string s4, .slice a4 l4 c4]) (ks[c].shift d) ∧ Filled w4 w.heap.size c ks.length d ks ∧ Below w.heap.size w w4 := fun w3 h3 =>
          (ih ks[c] (List.getElem_mem _) _ w3 (Has.below ht1 h3)).mono fun e w4 h4 => by
            obtain ⟨r, rfl, hr, hb4⟩ := h4
            obtain ⟨k4, n4, s4, a4, l4, c4, ks4, rfl, -⟩ := hr.form
            have hF4 := (hF.below h3).below hb4
            obtain ⟨u0, u1, u2, u3, e0, e1, e2, e3, ef⟩ := hF4.spot c hlt
            obtain ⟨cur, hcur, _⟩ := hF.row
            have hlt3 : w.heap.size < w3.heap.size := Nat.lt_of_lt_of_le (Array.getElem?_eq_some_iff.1 hcur).1 h3.size
            exact ⟨k4, n4, s4, a4, l4, c4, u0, u1, u2, u3, rfl, e0, e1, e2, e3, ef, hr.carry (fun _ _ => rfl) (fun b hb => ⟨Nat.lt_of_lt_of_le hlt3 hb.1, hb.2⟩), hF4, (hB.trans (h3.mono hB.size)).trans (hb4.mono (Nat.le_trans hB.size h3.size))⟩
        clear ih c0 c1 c2 c3 ht hF hv hx ht1 hmk
        go_wp2_with (go_at_call 12; refine (hih _ ((Below.refl _ _).alloc (Nat.le_refl _) _)).mono ?_; rintro e w4 ⟨k4, n4, s4, a4, l4, c4, u0, u1, u2, u3, rfl, e0, e1, e2, e3, ef, hT, hF4, hB4⟩)
        refine ⟨⟨c + 1, by simp, hlt, hF4.set hlt (List.getElem?_eq_getElem hlt) hT, (((hB4.setCell (p := ⟨w.heap.size, _, none⟩) (Nat.le_refl _) _).setCell (p := ⟨w.heap.size, _, none⟩) (Nat.le_refl _) _).setCell (p := ⟨w.heap.size, _, none⟩) (Nat.le_refl _) _).setCell (p := ⟨w.heap.size, _, none⟩) (Nat.le_refl _) _⟩, ?_⟩
        simp [intOf]; omega
      · have hce : c = ks.length := by omega
        subst hce
        go_wp2_with fail
        go_ret
        exact ⟨_, rfl, hF.done (by unfold maxLen; omega), hB⟩

set_option maxRecDepth 100000 in
set_option maxHeartbeats 2000000 in
theorem shift_at (d : Int) (T : Tm) : ∀ (v : Value) (w : World), Has w v T → T.size ≤ 1000000000000 → Calls Try.prog 12 #[v, .int .i64 d] w (NewTm w (T.shift d)) := by
  induction T using Tm.ind with
  | h k n s ks ih =>
    intro v w hv hs
    obtain ⟨k_, n_, s_, a, len, cap, ks_, rfl, e, hl, hk, hn, hs', -⟩ := hv.form
    injection e with e1 e2 e3 e4
    subst e1 e2 e3 e4
    have hsz : ks.length ≤ 1000000000000 := by have := Tm.length_le_sizes ks; rw [Tm.size_mk] at hs; omega
    have hkids : HasTs w (.slice a len cap) ks := TmIn.kids hv
    have hsh : ∀ n1 : Int, Calls Try.prog 33 #[.slice a len cap, .int .i64 d] ((w.alloc (.cells #[.int .i64 k, .int .i64 n1, .string s, .slice a len cap] 24)).alloc (.cells #[.int .i64 0, .int .i64 0, .string (ByteArray.mk #[]), .slice none 0 0] 24)) fun e w4 => ∃ a4 l4 c4, e = .returned (.slice a4 l4 c4) ∧
        w4.cell? ⟨w.heap.size, 0, none⟩ = some (.int .i64 k) ∧ w4.cell? ⟨w.heap.size, 1, none⟩ = some (.int .i64 n1) ∧ w4.cell? ⟨w.heap.size, 2, none⟩ = some (.string s) ∧ w4.cell? ⟨w.heap.size, 3, none⟩ = some (.slice a len cap) ∧ (∀ j, w4.frozen? ⟨w.heap.size, j, none⟩ = false) ∧
        w4.cell? ⟨w.heap.size + 1, 0, none⟩ = some (.int .i64 0) ∧ w4.cell? ⟨w.heap.size + 1, 1, none⟩ = some (.int .i64 0) ∧ w4.cell? ⟨w.heap.size + 1, 2, none⟩ = some (.string (ByteArray.mk #[])) ∧ w4.cell? ⟨w.heap.size + 1, 3, none⟩ = some (.slice none 0 0) ∧ (∀ j, w4.frozen? ⟨w.heap.size + 1, j, none⟩ = false) ∧
        w4.heap[w.heap.size + 1]? = some (.cells #[.int .i64 0, .int .i64 0, .string (ByteArray.mk #[]), .slice none 0 0] 24 (0, 0)) ∧
        TsIn (fun b => w.heap.size + 2 ≤ b ∧ b < w4.heap.size) w4 (.slice a4 l4 c4) (Tm.shifts d ks) ∧ Below w.heap.size w w4 := fun n1 => by
      obtain ⟨w2, hw2⟩ : ∃ w2, w2 = (w.alloc (.cells #[.int .i64 k, .int .i64 n1, .string s, .slice a len cap] 24)).alloc (.cells #[.int .i64 0, .int .i64 0, .string (ByteArray.mk #[]), .slice none 0 0] 24) := ⟨_, rfl⟩
      have hb : Below w.heap.size w w2 := by rw [hw2]; exact ((Below.refl _ w).alloc (Nat.le_refl _) _).alloc (by simp) _
      have hx1 : w2.heap[w.heap.size]? = some (.cells #[.int .i64 k, .int .i64 n1, .string s, .slice a len cap] 24 (0, 0)) := by rw [hw2]; exact (Below.heap_alloc _ _ _ (by simp)).trans (World.alloc_heap_new _ _)
      have hx2 : w2.heap[w.heap.size + 1]? = some (.cells #[.int .i64 0, .int .i64 0, .string (ByteArray.mk #[]), .slice none 0 0] 24 (0, 0)) := by rw [hw2]; simpa using World.alloc_heap_new (w.alloc (.cells #[.int .i64 k, .int .i64 n1, .string s, .slice a len cap] 24)) (.cells #[.int .i64 0, .int .i64 0, .string (ByteArray.mk #[]), .slice none 0 0] 24)
      have hsz2 : w2.heap.size = w.heap.size + 2 := by rw [hw2]; simp
      rw [← hw2]
      refine (shifted_of d ks (fun t ht v w hv => ih t ht v w hv (by have := Tm.size_le_sizes ht; rw [Tm.size_mk] at hs; omega)) _ w2 (HasTs.below hkids hb) hsz).mono fun e w4 h4 => ?_
      obtain ⟨r, rfl, hr, hb4⟩ := h4
      obtain ⟨a4, c4, rfl, h5⟩ := id hr
      have y1 := tbox_below hx1 hb4
      have y2 := tbox_below hx2 hb4
      obtain ⟨z0, z1, z2, z3⟩ := tbox_cells y1
      obtain ⟨x0, x1, x2, x3⟩ := tbox_cells y2
      exact ⟨a4, _, c4, rfl, z0, z1, z2, z3, (fun j => by simp [World.frozen?, y1]), x0, x1, x2, x3, (fun j => by simp [World.frozen?, y2]), y2, hr.carry (fun _ _ => rfl) (fun b hb => ⟨by rw [← hsz2]; exact hb.1, hb.2⟩), hb.trans (hb4.mono hb.size)⟩
    have hz := zeroTerm
    clear ih hl hkids hv
    rw [Tm.shift_mk]
    by_cases h1 : k = 1
    · subst h1
      rw [if_pos rfl]
      go_enter Try.func12, Try.ntmps12
      go_wp2_with (go_at_call 33; refine (hsh _).mono ?_; clear hsh; rintro e w4 ⟨a4, l4, c4, rfl, z0, z1, z2, z3, zf, x0, x1, x2, x3, xf, y2, hT, hB⟩)
      have hb5 := four_block ((Below.heap_setCell w4 ⟨w.heap.size, 3, none⟩ (.slice a4 l4 c4) (w.heap.size + 1) (by simp)).trans y2) (.int .i64 1) (.int .i64 (wrap64 (n + d))) (.string s) (.slice a4 l4 c4)
      have ho5 : ∀ b, w.heap.size + 2 ≤ b → (((((w4.setCell ⟨w.heap.size, 3, none⟩ (.slice a4 l4 c4)).setCell ⟨w.heap.size + 1, 0, none⟩ (.int .i64 1)).setCell ⟨w.heap.size + 1, 1, none⟩ (.int .i64 (wrap64 (n + d)))).setCell ⟨w.heap.size + 1, 2, none⟩ (.string s)).setCell ⟨w.heap.size + 1, 3, none⟩ (.slice a4 l4 c4)).heap[b]? = w4.heap[b]? := fun b hb => by
        rw [Below.heap_setCell _ _ _ _ (by simp; omega), Below.heap_setCell _ _ _ _ (by simp; omega), Below.heap_setCell _ _ _ _ (by simp; omega), Below.heap_setCell _ _ _ _ (by simp; omega), Below.heap_setCell _ _ _ _ (by simp; omega)]
      have hB5 := ((((hB.setCell (p := ⟨w.heap.size, 3, none⟩) (Nat.le_refl _) (.slice a4 l4 c4)).setCell (p := ⟨w.heap.size + 1, 0, none⟩) (Nat.le_succ _) (.int .i64 1)).setCell (p := ⟨w.heap.size + 1, 1, none⟩) (Nat.le_succ _) (.int .i64 (wrap64 (n + d)))).setCell (p := ⟨w.heap.size + 1, 2, none⟩) (Nat.le_succ _) (.string s)).setCell (p := ⟨w.heap.size + 1, 3, none⟩) (Nat.le_succ _) (.slice a4 l4 c4)
      have hs5 : (((((w4.setCell ⟨w.heap.size, 3, none⟩ (.slice a4 l4 c4)).setCell ⟨w.heap.size + 1, 0, none⟩ (.int .i64 1)).setCell ⟨w.heap.size + 1, 1, none⟩ (.int .i64 (wrap64 (n + d)))).setCell ⟨w.heap.size + 1, 2, none⟩ (.string s)).setCell ⟨w.heap.size + 1, 3, none⟩ (.slice a4 l4 c4)).heap.size = w4.heap.size := by simp
      generalize (((((w4.setCell ⟨w.heap.size, 3, none⟩ (.slice a4 l4 c4)).setCell ⟨w.heap.size + 1, 0, none⟩ (.int .i64 1)).setCell ⟨w.heap.size + 1, 1, none⟩ (.int .i64 (wrap64 (n + d)))).setCell ⟨w.heap.size + 1, 2, none⟩ (.string s)).setCell ⟨w.heap.size + 1, 3, none⟩ (.slice a4 l4 c4)) = w5 at hb5 ho5 hB5 hs5 ⊢
      obtain ⟨f0, f1, f2, f3⟩ := tbox_cells hb5
      refine bodyPost_ret (v := .agg #[.int .i64 1, .int .i64 (wrap64 (n + d)), .string s, .slice a4 l4 c4]) (by simp [results, Try.f12, go_sem, f0, f1, f2, f3]) rfl ?_
      exact ⟨_, rfl, (hT.carry (q := fun b => w.heap.size ≤ b ∧ b < w5.heap.size) (fun b hb => ho5 b hb.1) (fun b hb => ⟨by omega, by rw [hs5]; exact hb.2⟩)).term hk (wrap64_ok _) hs', hB5⟩
    · rw [if_neg h1]
      go_enter Try.func12, Try.ntmps12
      go_wp2_with (go_at_call 33; refine (hsh _).mono ?_; clear hsh; rintro e w4 ⟨a4, l4, c4, rfl, z0, z1, z2, z3, zf, x0, x1, x2, x3, xf, y2, hT, hB⟩)
      have hb5 := four_block ((Below.heap_setCell w4 ⟨w.heap.size, 3, none⟩ (.slice a4 l4 c4) (w.heap.size + 1) (by simp)).trans y2) (.int .i64 k) (.int .i64 n) (.string s) (.slice a4 l4 c4)
      have ho5 : ∀ b, w.heap.size + 2 ≤ b → (((((w4.setCell ⟨w.heap.size, 3, none⟩ (.slice a4 l4 c4)).setCell ⟨w.heap.size + 1, 0, none⟩ (.int .i64 k)).setCell ⟨w.heap.size + 1, 1, none⟩ (.int .i64 n)).setCell ⟨w.heap.size + 1, 2, none⟩ (.string s)).setCell ⟨w.heap.size + 1, 3, none⟩ (.slice a4 l4 c4)).heap[b]? = w4.heap[b]? := fun b hb => by
        rw [Below.heap_setCell _ _ _ _ (by simp; omega), Below.heap_setCell _ _ _ _ (by simp; omega), Below.heap_setCell _ _ _ _ (by simp; omega), Below.heap_setCell _ _ _ _ (by simp; omega), Below.heap_setCell _ _ _ _ (by simp; omega)]
      have hB5 := ((((hB.setCell (p := ⟨w.heap.size, 3, none⟩) (Nat.le_refl _) (.slice a4 l4 c4)).setCell (p := ⟨w.heap.size + 1, 0, none⟩) (Nat.le_succ _) (.int .i64 k)).setCell (p := ⟨w.heap.size + 1, 1, none⟩) (Nat.le_succ _) (.int .i64 n)).setCell (p := ⟨w.heap.size + 1, 2, none⟩) (Nat.le_succ _) (.string s)).setCell (p := ⟨w.heap.size + 1, 3, none⟩) (Nat.le_succ _) (.slice a4 l4 c4)
      have hs5 : (((((w4.setCell ⟨w.heap.size, 3, none⟩ (.slice a4 l4 c4)).setCell ⟨w.heap.size + 1, 0, none⟩ (.int .i64 k)).setCell ⟨w.heap.size + 1, 1, none⟩ (.int .i64 n)).setCell ⟨w.heap.size + 1, 2, none⟩ (.string s)).setCell ⟨w.heap.size + 1, 3, none⟩ (.slice a4 l4 c4)).heap.size = w4.heap.size := by simp
      generalize (((((w4.setCell ⟨w.heap.size, 3, none⟩ (.slice a4 l4 c4)).setCell ⟨w.heap.size + 1, 0, none⟩ (.int .i64 k)).setCell ⟨w.heap.size + 1, 1, none⟩ (.int .i64 n)).setCell ⟨w.heap.size + 1, 2, none⟩ (.string s)).setCell ⟨w.heap.size + 1, 3, none⟩ (.slice a4 l4 c4)) = w5 at hb5 ho5 hB5 hs5 ⊢
      obtain ⟨f0, f1, f2, f3⟩ := tbox_cells hb5
      refine bodyPost_ret (v := .agg #[.int .i64 k, .int .i64 n, .string s, .slice a4 l4 c4]) (by simp [results, Try.f12, go_sem, f0, f1, f2, f3]) rfl ?_
      exact ⟨_, rfl, (hT.carry (q := fun b => w.heap.size ≤ b ∧ b < w5.heap.size) (fun b hb => ho5 b hb.1) (fun b hb => ⟨by omega, by rw [hs5]; exact hb.2⟩)).term hk hn hs', hB5⟩

end Go.Proofs.Ytlnggaepmclbkaa
