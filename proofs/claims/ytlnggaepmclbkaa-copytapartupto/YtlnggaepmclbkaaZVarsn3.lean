/-
  term.Vars: the numbers of a term's variables, each once, as they first occur.
-/
import Derived.Test.YtlnggaepmclbkaaZGround
import Derived.Maps.OwnSet
import Derived.Test.YtlnggaepmclbkaaZShiftn2
namespace Go.Proofs.Ytlnggaepmclbkaa
open Go.RowKit Go.Shelf
set_option linter.unusedVariables false
attribute [local go_sem] Oper.semAt_some

def addNew (acc : List Int) (x : Int) : List Int := if acc.contains x then acc else acc ++ [x]
def addV (acc : List Int) (x : Nat × Tm) : List Int := if x.2.kind = 1 then addNew acc x.2.num else acc
/-- The variables of the parts that have come. -/
def varsL (l : List (Nat × Tm)) : List Int := l.foldl addV []
def Tm.vars (T : Tm) : List Int := varsL (T.parts 1)
theorem varsL_snoc (l : List (Nat × Tm)) (x : Nat × Tm) : varsL (l ++ [x]) = addV (varsL l) x := by simp [varsL]
theorem varsL_length (l : List (Nat × Tm)) : (varsL l).length ≤ l.length := by
  suffices h : ∀ acc : List Int, (l.foldl addV acc).length ≤ acc.length + l.length by simpa [varsL] using h []
  induction l with
  | nil => intro acc; simp
  | cons x l ih =>
    intro acc
    have h := ih (addV acc x)
    have h2 : (addV acc x).length ≤ acc.length + 1 := by
      unfold addV addNew
      split
      · split <;> simp
      · omega
    rw [List.foldl_cons, List.length_cons]
    omega

/-- A list of numbers in memory. -/
def IntsAt (w : World) (v : Value) (l : List Int) : Prop :=
  ∃ a cap, v = .slice a l.length cap ∧ l.length ≤ cap ∧ cap ≤ maxLen ∧ (a = none → cap = 0) ∧ ∀ i (h : i < l.length), ∃ b o, a = some ⟨b, o, none⟩ ∧ b < w.heap.size ∧ w.cell? ⟨b, o + i, none⟩ = some (.int .i64 l[i])

theorem IntsAt.below {w w' : World} {v : Value} {l : List Int} (h : IntsAt w v l) (k : Below w.heap.size w w') : IntsAt w' v l := by
  obtain ⟨a, cap, e, h1, h2, h3, h4⟩ := h
  refine ⟨a, cap, e, h1, h2, h3, fun i hi => ?_⟩
  obtain ⟨b, o, e2, hb, hc⟩ := h4 i hi
  exact ⟨b, o, e2, Nat.lt_of_lt_of_le hb k.size, (k.cell (p := ⟨b, _, none⟩) hb).trans hc⟩

theorem ints_of_row {w : World} {base : Nat} {t : TypeId} {v : Value} {l : List Int} (h : w.ownsRow base t 1 v l.length (l.map (Value.int .i64))) : IntsAt w v l := by
  obtain ⟨_, ⟨rfl, h0⟩ | ⟨g, cap, cur, rfl, hg, hh, h1, h2, h3, h4⟩⟩ := h
  · exact ⟨none, 0, by rw [h0], by omega, Nat.zero_le _, fun _ => rfl, fun i hi => by omega⟩
  · refine ⟨some ⟨g, 0, none⟩, cap, rfl, h1, h2, (fun h => by cases h), fun i hi => ⟨g, 0, rfl, (Array.getElem?_eq_some_iff.1 hh).1, ?_⟩⟩
    have e : (cur.toList.take (l.length * 1))[i]? = some (.int .i64 l[i]) := by rw [h4]; simp [hi]
    rw [List.getElem?_take_of_lt (by omega)] at e
    simpa [World.cell?, hh] using e

def setV (l : List Int) : DataW Unit := Maps.setOf (.agg []) (l.map (Lit.int .i64))
theorem any_i64 (x : Int) : ∀ l : List Int, l.any ((fun y : Lit => y.sameKey (.int .i64 x)) ∘ Lit.int .i64) = l.contains x
  | [] => rfl
  | a :: r => by
    rw [List.any_cons, List.contains_cons, any_i64 x r]
    congr 1
    show decide (IntKind.i64 = IntKind.i64 ∧ a = x) = (x == a)
    by_cases e : a = x
    · subst e
      simp
    · have e' : ¬ x = a := fun h => e h.symm
      simp [e, e']
theorem has_setV (l : List Int) (x : Int) : Maps.has (setV l) (.int .i64 x) = l.contains x := by
  unfold setV
  rw [Maps.has_setOf _ _ _ (fun y hy => by obtain ⟨_, _, rfl⟩ := List.mem_map.1 hy; trivial), List.any_map]
  exact any_i64 x _
theorem setV_snoc (l : List Int) (x : Int) : setV (l ++ [x]) = (setV l).put (.int .i64 x) (.agg []) := by
  unfold setV
  rw [List.map_append, List.map_singleton, Maps.setOf_snoc]

theorem keyed64 : Maps.Keyed Try.prog 2 := Maps.int_keyed Try.underlying2
theorem zeroUnit (w : World) : (zeroValue 66).run Try.prog w = .ok (.agg #[]) w := by kernel_rfl
theorem infoInt : (Try.prog.info? 3).map (fun i => (i.zero, i.size, i.bytes)) = some (some (.int .i64 0), 1, 8) := by kernel_rfl

theorem row_not_term {w : World} {base : Nat} {e : TypeId} {size : Nat} {v : Value} {n : Nat} {xs : List Value} (h : w.ownsRow base e size v n xs) (he : e ≠ 24) {b : Nat} {c : Array Value} {z : Nat × Nat} (hb : w.heap[b]? = some (.cells c 24 z)) : some b ≠ v.ownBlock := by
  rcases h.2 with ⟨rfl, _⟩ | ⟨g, cap, cur, rfl, _, hgb, _⟩
  · simp [Value.ownBlock]
  · intro e'
    obtain rfl : b = g := by simpa [Value.ownBlock] using e'
    rw [hgb] at hb; cases hb; exact he rfl

theorem row_not_map {w : World} {base : Nat} {e : TypeId} {size : Nat} {v : Value} {n : Nat} {xs : List Value} (h : w.ownsRow base e size v n xs) {P : Program} {k : TypeId} {R : Value → Option (DataW Unit × List MemPlace)} {b m : Nat} {D : DataW Unit} (hb : w.ownsMap P k R b m D) : v.ownBlock ≠ some b := by
  rcases h.2 with ⟨rfl, _⟩ | ⟨g, cap, cur, rfl, _, hgb, _⟩
  · simp [Value.ownBlock]
  · intro e'
    obtain rfl : g = b := by simpa [Value.ownBlock] using e'
    obtain ⟨es, ck, hh, _⟩ := hb
    rw [hgb] at hh; cases hh

theorem map_obj {w : World} {P : Program} {k : TypeId} {R : Value → Option (DataW Unit × List MemPlace)} {b m : Nat} {D : DataW Unit} (hb : w.ownsMap P k R b m D) : ∃ es ck, w.heap[b]? = some (.map es ck) := by
  obtain ⟨es, ck, hh, _⟩ := hb
  exact ⟨es, ck, hh⟩

theorem keeps_grown {n₀ : Nat} {W W' : World} {row : Option Nat} (hg : W.grownBy W' row) (hn : n₀ ≤ W.heap.size) (h1 : ∀ k, row = some k → n₀ ≤ k) (h2 : ∀ b c z, W.heap[b]? = some (.cells c 24 z) → some b ≠ row) : Keeps n₀ W W' :=
  ⟨(Below.refl _ _).grown hg hn h1, fun b c z e => (hg.block b (Array.getElem?_eq_some_iff.1 e).1 (h2 b c z e)).trans e⟩

set_option maxRecDepth 100000 in
set_option maxHeartbeats 4000000 in
theorem vars_at (v : Value) (T : Tm) (w : World) (ht : Has w v T) (hs : T.size ≤ 1000000000000) :
    Calls Try.prog 15 #[v] w fun e w' => ∃ r, e = .returned r ∧ IntsAt w' r T.vars ∧ Below w.heap.size w w' := by
  refine (callsIn_wide (n := 3)).1 ?_
  have hs4 : T.size ≤ 4000000000000000000 := by omega
  have hmm := @run_makeMap Try.prog
  obtain ⟨i0, hi, hz0, hz1, hz2⟩ := info_parts infoInt
  obtain ⟨k_, n_, s_, a, len, cap, ks_, rfl, e, -⟩ := ht.form
  clear e
  refine callsIn_of_wp_marks Try.func15 rfl trivial ?_ rfl
  simp only [Try.ntmps15, List.size_toArray, List.length_cons, List.length_nil, Nat.reduceAdd, Nat.reduceSub, Array.replicate_succ, Array.replicate_zero, List.push_toArray, List.append_toArray, List.nil_append, List.cons_append]
  gi_wp2_with (refine ⟨trivial, ?_⟩; gi_at_call 34; refine (parts_in Fence.wide _ trivial rfl _ _ _ _ _).mono ?_; rintro e w' ⟨rfl, rfl⟩)
  have bV := Boxed.new (w.alloc (.cells #[.int .i64 k_, .int .i64 n_, .string s_, .slice a len cap] 24)) 34 (.slice none 0 0)
  have hm0 := World.ownsMap_made ((w.alloc (.cells #[.int .i64 k_, .int .i64 n_, .string s_, .slice a len cap] 24)).alloc (.cells #[.slice none 0 0] 34)) Try.prog 2 (unitElem (H := Unit))
  have bM := Boxed.new (((w.alloc (.cells #[.int .i64 k_, .int .i64 n_, .string s_, .slice a len cap] 24)).alloc (.cells #[.slice none 0 0] 34)).alloc (.map #[] 0)) 62 (.map (some (w.heap.size + 1 + 1)))
  have hT := World.alloc_heap_new ((((w.alloc (.cells #[.int .i64 k_, .int .i64 n_, .string s_, .slice a len cap] 24)).alloc (.cells #[.slice none 0 0] 34)).alloc (.map #[] 0)).alloc (.cells #[.map (some (w.heap.size + 1 + 1))] 62)) (.cells #[.int .i64 k_, .int .i64 n_, .string s_, .slice a len cap] 24)
  simp only [World.size_alloc] at bV hm0 bM hT
  have hB0 : Below w.heap.size w (((((w.alloc (.cells #[.int .i64 k_, .int .i64 n_, .string s_, .slice a len cap] 24)).alloc (.cells #[.slice none 0 0] 34)).alloc (.map #[] 0)).alloc (.cells #[.map (some (w.heap.size + 1 + 1))] 62)).alloc (.cells #[.int .i64 k_, .int .i64 n_, .string s_, .slice a len cap] 24)) :=
    (((((Below.refl _ w).alloc (Nat.le_refl _) _).alloc (by simp) _).alloc (by simp; omega) _).alloc (by simp; omega) _).alloc (by simp; omega) _
  refine wpIn_rangeFunc_ownH rfl (by decide) (gf := 41) (lb := #[.pointer (some ⟨w.heap.size + 1 + 1 + 1 + 1, 0, none⟩)]) rfl trivial (enters_of Try.func41 (by kernel_rfl) rfl)
    (parts_stops Fence.wide rfl _ trivial trivial rfl (w.heap.size + 1 + 1 + 1 + 1) w.heap.size T (.agg #[.int .i64 k_, .int .i64 n_, .string s_, .slice a len cap]) _ w (by simp; omega) hB0 hT ht hs4) keeps_t (keeps_b (by simp; omega)) (Below.refl _ _) (fun _ => rfl)
    (fun pre W => ((∃ v, Boxed W (w.heap.size + 1) 34 v ∧ W.ownsRow w.heap.size 3 1 v (varsL (pre.map Part.key)).length ((varsL (pre.map Part.key)).map (Value.int .i64)) ∧ (v = .slice none 0 0 ↔ varsL (pre.map Part.key) = [])) ∧ Boxed W (w.heap.size + 1 + 1 + 1) 62 (.map (some (w.heap.size + 1 + 1))) ∧ W.ownsMap Try.prog 2 (unitElem (H := Unit)) (w.heap.size + 1 + 1) (varsL (pre.map Part.key)).length (setV (varsL (pre.map Part.key)))) ∧ Below w.heap.size w W)
    (fun _ _ _ => False)
    (OwnFrom.and (OwnFrom.and (Own.from (holdsRow_own w.heap.size _ _ _ 1 (fun pre : List (Part w.heap.size w) => (varsL (pre.map Part.key)).length) (fun pre => (varsL (pre.map Part.key)).map (Value.int .i64)) (fun pre v => v = .slice none 0 0 ↔ varsL (pre.map Part.key) = [])) _) (OwnFrom.and (Own.from (boxed_own _ _ _) _) (fun s A B row hs hg hr => hs.kept hg (fun e => by have := (hr _ e.symm).1; simp at this; omega)))) (ownFrom_below (Nat.le_refl _) (by simp; omega)))
    (fun _ _ _ _ _ hs _ _ => hs)
    ⟨⟨⟨_, (((bV.alloc _).alloc _).alloc _), World.ownsRow_nil _ _ _ _, by simp [varsL]⟩, bM.alloc _, (hm0.alloc _).alloc _⟩, hB0⟩
    (fun x a' W => ∃ Bx, PBox x (w.heap.size + 1 + 1 + 1 + 1) Bx W ∧ a' = { tmps := #[.agg #[.int .i64 k_, .int .i64 n_, .string s_, .slice a len cap], .pointer (some ⟨w.heap.size, 0, none⟩), .slice none 0 0, .pointer (some ⟨w.heap.size + 1, 0, none⟩), .pointer (some ⟨w.heap.size + 1 + 1 + 1, 0, none⟩), undef, .pointer (some ⟨Bx, 0, none⟩), undef, undef, .map (some (w.heap.size + 1 + 1)), .agg #[.int .i64 k_, .int .i64 n_, .string s_, .slice a len cap], .func (.func 41) #[] #[.pointer (some ⟨w.heap.size + 1 + 1 + 1 + 1, 0, none⟩)], .int .i64 (x.1.1 : Int), x.1.2.1, undef, undef, undef, undef, undef, undef, undef, undef, undef, undef, undef, undef, undef, undef, undef, undef, undef, undef, undef, undef, undef], defers := [] })
    (fun x a' s A B row hs hg hr => by obtain ⟨Bx, hb, e⟩ := hs; exact ⟨Bx, hb.own hg hr, e⟩) ?assign ?body ?done ?stop
  case assign =>
    rintro l pre ⟨⟨d, u, X⟩, hx, hd, hX⟩ W K ⟨⟨⟨vv, hv, hrow, hnil⟩, hM, hown⟩, hB⟩ hK
    obtain ⟨k, n, s, a', len', cap', ks, rfl, rfl, -⟩ := hx.form
    gi_wp2
    refine hK _ _ ((KeepsOthers.alloc _ _).from _) ((Keeps.refl _ _).alloc hB.size _) ⟨⟨⟨vv, hv.alloc _, hrow.alloc _, hnil⟩, hM.alloc _, hown.alloc _⟩, hB.alloc hB.size _⟩ ⟨W.heap.size, ⟨k, n, s, a', len', cap', ks, rfl, World.alloc_heap_new _ _, hM.lt⟩, by first | rfl | simp⟩
  case body =>
    rintro l pre ⟨⟨d, u, X⟩, hx, hd, hX⟩ a' W hl hr ⟨⟨⟨vv, hv, hrow, hnil⟩, hM, hown⟩, hB⟩ ⟨Bx, ⟨k, n, s, a1, len', cap', ks, e, hb, hS⟩, rfl⟩ hlt
    simp only [Prod.mk.injEq] at e
    obtain ⟨rfl, rfl⟩ := e
    obtain ⟨c0, c1, c2, c3⟩ := tbox_cells hb
    have hn : i64ok n := by
      obtain ⟨_, _, _, _, _, _, _, e1, e2, _, _, hn, _⟩ := hx.form
      cases e2; exact hn
    have hsnoc := varsL_snoc (pre.map Part.key) (d, .mk k n s ks)
    have hvl := varsL_length (pre.map Part.key)
    rw [List.length_map] at hvl
    have hmap : (pre ++ [(⟨(d, .agg #[.int .i64 k, .int .i64 n, .string s, .slice a1 len' cap'], .mk k n s ks), hx, hd, hX⟩ : Part w.heap.size w)]).map Part.key = pre.map Part.key ++ [(d, .mk k n s ks)] := by simp [Part.key]
    generalize hV : varsL (pre.map Part.key) = V at *
    have HN := Lib.hid (And.intro hmap (And.intro hsnoc hV))
    clear hmap hsnoc hV
    have hBs := hB.size
    have hcM := hM.cell
    have hcV := hv.cell
    have hkey : keyOf Try.prog 2 (.int .i64 n) = some (.int .i64 n) := Maps.keyOf_int_mk Try.underlying2 (WalkArith.wf_i64 hn)
    have hmx : V.length < maxLen := by unfold maxLen; omega
    by_cases hk : k = 1
    · subst hk
      obtain ⟨es, ck, hmap⟩ := map_obj hown
      have hM1 := hM.alloc (.cells #[] 66)
      have hcM1 := hM1.cell
      have hb1 : (W.alloc (.cells #[] 66)).heap[Bx]? = _ := (Below.heap_alloc W _ Bx (Array.getElem?_eq_some_iff.1 hb).1).trans hb
      obtain ⟨d0, d1, d2, d3⟩ := tbox_cells hb1
      have hne : ∀ {t : TypeId} {B : Nat} {u : Value}, Boxed W B t u → some B ≠ some (w.heap.size + 1 + 1) := fun h e => by cases e; rw [show W.heap[_]? = _ from h] at hmap; cases hmap
      have hneB : some Bx ≠ some (w.heap.size + 1 + 1) := fun e => by cases e; rw [hb] at hmap; cases hmap
      gi_wp2_with (first
        | (gi_at_lookup; refine wpListIn_lookup_own_unit _ rfl _ _ 62 rfl 2 66 keyed64 Try.underlying62 (zeroUnit _) (w.heap.size + 1 + 1) V.length _ rfl hown _ _ rfl hkey ?_)
        | (gi_at_mapUpdate; refine wpListIn_mapUpdate_own _ rfl _ _ _ 62 rfl 2 66 keyed64 Try.underlying62 (unitElem (H := Unit)) (w.heap.size + 1 + 1) V.length _ rfl (hown.alloc _) hmx _ _ _ rfl rfl hkey _ [] unitElem_mk ?_; intro w1 hown1 hgrow1; have hv1 := (hv.alloc (.cells #[] 66)).kept hgrow1 (hne hv); have hcV1 := hv1.cell; have hM2 := hM1.kept hgrow1 (hne hM); have hb2 := (hgrow1.block Bx (Array.getElem?_eq_some_iff.1 hb1).1 hneB).trans hb1; have hrow1 := (hrow.alloc (.cells #[] 66)).kept hgrow1 (Or.inr (row_not_map hrow hown)); obtain ⟨f0, f1, f2, f3⟩ := tbox_cells hb2)
        | (gi_at_builtin; refine wpListIn_append_own _ rfl _ _ 34 rfl w.heap.size 3 i0 (.int .i64 0) 1 8 Try.underlying34 hi hz0 hz1 hz2 rfl (by decide) _ _ _ rfl (hrow1.alloc _) ⟨w1.heap.size, 0, none⟩ 1 1 [.int .i64 n] rfl rfl (cell_one_new _ _ _) (by simp [Value.oneCell']) (by omega) (by omega) (by have := hgrow1.size; simp at this ⊢; omega) ?_; intro v' w2 hown' hgrow2 _; obtain ⟨g', cap', rfl⟩ := ownsRow_succ hown'; obtain ⟨hv2, hv3, hr3, hk3, hb3⟩ := hv1.appended (by decide) hrow1 (by have := hgrow1.size; simp at this; omega) (by omega) hown' hgrow2; have hcv2 := hv2.cell; have hfv2 := hv2.frozen))
      · have hc : V.contains n = true := by rw [← has_setV]; assumption
        have e := (congrArg varsL HN.out.1).trans (HN.out.2.1.trans (show addV V (d, .mk 1 n s ks) = V by simp only [addV, addNew, Tm.kind, Tm.num, if_true, hc]))
        exact ⟨(KeepsOthers.alloc _ _).from _, (Keeps.refl _ _).alloc hBs _, ⟨⟨vv, hv.alloc _, by rw [e]; exact hrow.alloc _, by rw [e]; exact hnil⟩, hM1, by rw [e]; exact hown.alloc _⟩, hB.alloc hBs _⟩
      · have hc : V.contains n = false := by rw [← has_setV]; assumption
        have e := (congrArg varsL HN.out.1).trans (HN.out.2.1.trans (show addV V (d, .mk 1 n s ks) = V ++ [n] by simp only [addV, addNew, Tm.kind, Tm.num, if_true, hc]; rfl))
        have hk1 : Keeps w.heap.size W w1 := ((Keeps.refl _ _).alloc hBs _).trans (keeps_grown hgrow1 (by simp; omega) (fun k e => by cases e; omega) (fun b c z h e => by
          cases e
          rw [Below.heap_alloc W _ _ (Array.getElem?_eq_some_iff.1 hmap).1, hmap] at h
          cases h))
        have s1 := hk1.below.size
        have hk2 : Keeps w.heap.size w1 (w2.setCell ⟨w.heap.size + 1, 0, none⟩ (.slice (some ⟨g', 0, none⟩) (V.length + 1) cap')) := ⟨hb3, fun b c z h => by
          have hlt := (Array.getElem?_eq_some_iff.1 h).1
          have h1 : w2.heap[b]? = some (.cells c 24 z) := (hgrow2.block b (by simp; omega) (row_not_term hrow1 (by decide) h)).trans ((Below.heap_alloc w1 _ b hlt).trans h)
          refine (Below.heap_setCell w2 ⟨w.heap.size + 1, 0, none⟩ _ b (fun e => ?_)).trans h1
          subst e
          rw [show w1.heap[_]? = _ from hv1] at h; cases h⟩
        have hM3 : Boxed w2 (w.heap.size + 1 + 1 + 1) 62 (.map (some (w.heap.size + 1 + 1))) := (hM2.alloc _).kept hgrow2 (hM2.not_row (by decide) hrow1)
        have hown2 := ((hown1.alloc (.cells #[.int .i64 n] 3)).kept hgrow2 (row_not_map hrow1 hown1).symm).setCell (a := ⟨w.heap.size + 1, 0, none⟩) (by simp) (.slice (some ⟨g', 0, none⟩) (V.length + 1) cap')
        refine ⟨((KeepsOthers.alloc _ _).from _).trans ((KeepsFrom.of_grownBy hgrow1 (fun j e => by cases e; simp)).trans (hk3.from _)), hk1.trans hk2, ⟨⟨_, hv3, by rw [e]; simpa using hr3, by rw [e]; simp⟩, hM3.other (by omega) _, ?_⟩, hB.trans (hk1.below.trans hk2.below)⟩
        rw [e, setV_snoc, List.length_append]
        exact hown2
    · have e := (congrArg varsL HN.out.1).trans (HN.out.2.1.trans (show addV V (d, .mk k n s ks) = V by unfold addV; exact if_neg hk))
      gi_wp2
      exact ⟨KeepsFrom.refl _ _, Keeps.refl _ _, ⟨⟨vv, hv, by rw [e]; exact hrow, by rw [e]; exact hnil⟩, hM, by rw [e]; exact hown⟩, hB⟩
  case done =>
    rintro D ys W hD hy ⟨⟨⟨vv, hv, hrow, hnil⟩, hM, hown⟩, hB⟩ hK
    have hcV := hv.cell
    rw [hy] at hrow
    gi_wp2
    refine ⟨by simp, .inl ⟨_, _, rfl, run_takeDeferred hK, ?_⟩⟩
    exact ⟨_, results_tmp rfl _ _ _, vv, rfl, ints_of_row (ownsRow_putObj hrow _ hK rfl), hB.trans (belowK_b (w := w) (Nat.le_refl _) W D _ _ (by simp at hD; omega) hK rfl rfl)⟩
  case stop =>
    rintro D c pre W _ _ h _
    exact h.elim

end Go.Proofs.Ytlnggaepmclbkaa

namespace Go.Proofs.Ytlnggaepmclbkaa
open Go.RowKit Go.Shelf
set_option linter.unusedVariables false

theorem below_draws {B : Nat} {a w : World} (h : Below B a w) : ∀ n, Below B a (w.drewN n)
  | 0 => h
  | n + 1 => (below_draws h n).drew

set_option maxRecDepth 100000 in
set_option maxHeartbeats 1000000 in
theorem rsize_at (T : Tm) : ∀ (v : Value) (w : World), Has w v T → T.size ≤ 1000000000000 → Calls Try.prog 28 #[v] w (Gets w (.int .i64 (T.size : Int))) := by
  induction T using Tm.ind with
  | h k n s ks ih =>
    intro v w hv hs
    obtain ⟨k_, n_, s_, a, len, cap, ks_, rfl, e, rfl, hk, hn, hs', hc, hm, ha⟩ := hv.form
    injection e with e1 e2 e3 e4
    subst e1 e2 e3 e4
    rw [Tm.size_mk] at hs ⊢
    have hlen : ks.length ≤ 1000000000000 := by have := Tm.length_le_sizes ks; omega
    obtain ⟨w1, hw1⟩ : ∃ w1, w1 = w.alloc (.cells #[.int .i64 k, .int .i64 n, .string s, .slice a ks.length cap] 24) := ⟨_, rfl⟩
    have hB1 : Below w.heap.size w w1 := by rw [hw1]; exact (Below.refl _ w).alloc (Nat.le_refl _) _
    have hbox : w1.heap[w.heap.size]? = some (.cells #[.int .i64 k, .int .i64 n, .string s, .slice a ks.length cap] 24 (0, 0)) := by rw [hw1]; exact World.alloc_heap_new _ _
    go_enter Try.func28, Try.ntmps28
    have HH := Lib.hid (And.intro hs (And.intro hB1 hbox))
    have HW := Lib.hid hw1
    clear hs hB1 hbox hw1
    go_wp2_with fail
    rw [← HW.out]
    go_loopw [3, 4] (fun x i wr => ∃ c : Nat, x = .int .i64 ((1 + Tm.sizes (ks.take c) : Nat) : Int) ∧ i = .int .i64 c ∧ c ≤ ks.length ∧ Below w1.heap.size w1 wr) (fun _ i _ => ks.length - (intOf i).toNat)
    case atStart => exact ⟨0, by simp [Tm.sizes_nil], rfl, Nat.zero_le _, Below.refl _ _⟩
    case round =>
      obtain ⟨c, rfl, rfl, hcl, hB⟩ := hrel
      have hbr := tbox_below HH.out.2.2 hB
      obtain ⟨b0, b1, b2, b3⟩ := tbox_cells hbr
      have hwr : Below w.heap.size w wr := HH.out.2.1.trans (hB.mono HH.out.2.1.size)
      by_cases hlt : c < ks.length
      · obtain ⟨b, o, k1, n1, s1, a1, l1, c1, T1, rfl, hbn, e0, e1, e2, e3, hT1, ht1⟩ := IsTm.kid hv c hlt
        have q0 := (hwr.cell (p := ⟨b, o + c * 4, none⟩) hbn).trans e0
        have q1 := (hwr.cell (p := ⟨b, o + c * 4 + 1, none⟩) hbn).trans e1
        have q2 := (hwr.cell (p := ⟨b, o + c * 4 + 2, none⟩) hbn).trans e2
        have q3 := (hwr.cell (p := ⟨b, o + c * 4 + 3, none⟩) hbn).trans e3
        have hts := Tm.take_succ_sizes ks c T1 hT1
        have htl := Tm.sizes_take_le ks (c + 1)
        have hs0 := HH.out.1
        obtain ⟨m, hm'⟩ : ∃ m, Tm.sizes (ks.take c) = m := ⟨_, rfl⟩
        obtain ⟨m1, hm1⟩ : ∃ m1, T1.size = m1 := ⟨_, rfl⟩
        have hih := (ih T1 (List.mem_of_getElem? hT1) _ wr (IsTm.later hwr hwr.size ht1) (by omega)).mono (R' := fun e w2 => e = .returned (.int .i64 (m1 : Int)) ∧ Below w1.heap.size w1 w2) (fun e w2 h => ⟨by rw [← hm1]; exact h.1, hB.trans (h.2.mono hB.size)⟩)
        have hmb : m + m1 ≤ 1000000000000 := by omega
        have HR := Lib.hid (And.intro hts (And.intro hm' hm1))
        clear ih hv e0 e1 e2 e3 ht1 hts htl hs0 hT1
        rw [hm']
        clear hm' hm1
        have hmi : ((1 + m : Nat) : Int) + (m1 : Int) ≤ 1000000000001 := by omega
        go_wp2_with (go_at_call 28; refine hih.mono ?_; rintro e w2 ⟨rfl, hB2⟩)
        go_roundw
        case rel =>
          refine ⟨c + 1, ?_, by simp, hlt, hB2⟩
          rw [HR.out.1, HR.out.2.1, HR.out.2.2]
          exact congrArg (Value.int .i64) (by omega)
        case measure => simp [intOf]; omega
      · have hce : c = ks.length := by omega
        subst hce
        clear ih hv
        rw [List.take_length]
        go_wp2_with fail
        go_ret
        exact ⟨rfl, hwr⟩

end Go.Proofs.Ytlnggaepmclbkaa

namespace Go.Proofs.Ytlnggaepmclbkaa
open Go.RowKit Go.Shelf
set_option linter.unusedVariables false

theorem two_terms {w : World} {k1 n1 k2 n2 : Int} {s1 s2 : ByteArray} {a1 a2 : Option Addr} {l1 c1 l2 c2 : Nat} {T1 T2 : Tm} (h1 : Has w (.agg #[.int .i64 k1, .int .i64 n1, .string s1, .slice a1 l1 c1]) T1) (h2 : Has w (.agg #[.int .i64 k2, .int .i64 n2, .string s2, .slice a2 l2 c2]) T2) :
    HasTs (w.alloc (.cells #[.int .i64 k1, .int .i64 n1, .string s1, .slice a1 l1 c1, .int .i64 k2, .int .i64 n2, .string s2, .slice a2 l2 c2] 24)) (.slice (some ⟨w.heap.size, 0, none⟩) 2 2) [T1, T2] := by
  have hb : Below w.heap.size w (w.alloc (.cells #[.int .i64 k1, .int .i64 n1, .string s1, .slice a1 l1 c1, .int .i64 k2, .int .i64 n2, .string s2, .slice a2 l2 c2] 24)) := (Below.refl _ w).alloc (Nat.le_refl _) _
  refine ⟨some ⟨w.heap.size, 0, none⟩, 2, rfl, by simp, by unfold maxLen; omega, (fun h => by cases h), fun i hi => ?_⟩
  have hi' : i = 0 ∨ i = 1 := by simp at hi; omega
  rcases hi' with rfl | rfl
  · exact ⟨w.heap.size, 0, k1, n1, s1, a1, l1, c1, rfl, by simp, (World.cell?_alloc_new w _ _ _).trans rfl, (World.cell?_alloc_new w _ _ _).trans rfl, (World.cell?_alloc_new w _ _ _).trans rfl, (World.cell?_alloc_new w _ _ _).trans rfl, Has.below h1 hb⟩
  · exact ⟨w.heap.size, 0, k2, n2, s2, a2, l2, c2, rfl, by simp, (World.cell?_alloc_new w _ _ _).trans rfl, (World.cell?_alloc_new w _ _ _).trans rfl, (World.cell?_alloc_new w _ _ _).trans rfl, (World.cell?_alloc_new w _ _ _).trans rfl, Has.below h2 hb⟩

theorem one_term {w : World} {k1 n1 : Int} {s1 : ByteArray} {a1 : Option Addr} {l1 c1 : Nat} {T1 : Tm} (h1 : Has w (.agg #[.int .i64 k1, .int .i64 n1, .string s1, .slice a1 l1 c1]) T1) :
    HasTs (w.alloc (.cells #[.int .i64 k1, .int .i64 n1, .string s1, .slice a1 l1 c1] 24)) (.slice (some ⟨w.heap.size, 0, none⟩) 1 1) [T1] := by
  have hb : Below w.heap.size w (w.alloc (.cells #[.int .i64 k1, .int .i64 n1, .string s1, .slice a1 l1 c1] 24)) := (Below.refl _ w).alloc (Nat.le_refl _) _
  refine ⟨some ⟨w.heap.size, 0, none⟩, 1, rfl, by simp, by unfold maxLen; omega, (fun h => by cases h), fun i hi => ?_⟩
  have hi' : i = 0 := by simp at hi; omega
  subst hi'
  exact ⟨w.heap.size, 0, k1, n1, s1, a1, l1, c1, rfl, by simp, (World.cell?_alloc_new w _ _ _).trans rfl, (World.cell?_alloc_new w _ _ _).trans rfl, (World.cell?_alloc_new w _ _ _).trans rfl, (World.cell?_alloc_new w _ _ _).trans rfl, Has.below h1 hb⟩

def exG : Tm := .mk 3 0 (ByteArray.mk #[103]) [.mk 1 2 (ByteArray.mk #[]) [], .mk 1 4 (ByteArray.mk #[]) []]
def exF : Tm := .mk 3 0 (ByteArray.mk #[102]) [.mk 1 4 (ByteArray.mk #[]) [], exG]
theorem exF_size : exF.size = 5 := by decide
theorem exF_deep : exF.deep = 3 := by decide
theorem exF_vars : exF.vars = [4, 2] := by decide
theorem empty_toList : (ByteArray.mk #[]).toList = [] := by
  unfold ByteArray.toList
  rw [ByteArray.toList.loop]
  rfl
theorem exF_valid : exF.valid 1 = true := by
  have h1 : (ByteArray.mk #[102]).size = 1 := rfl
  have h2 : (ByteArray.mk #[103]).size = 1 := rfl
  simp [Tm.valid, validL, exF, exG, Tm.parts_mk, Tm.partss_cons, Tm.partss_nil, Tm.formed, Tm.kind, Tm.num, Tm.name, Tm.kids, h1, h2]
theorem exF_check : exF.check 1 = 0 := by
  rw [Tm.check, exF_size, exF_deep, exF_valid]; decide

theorem two_ints (w : World) (x y : Int) : IntsAt (w.alloc (.cells #[.int .i64 x, .int .i64 y] 3)) (.slice (some ⟨w.heap.size, 0, none⟩) 2 2) [x, y] := by
  refine ⟨some ⟨w.heap.size, 0, none⟩, 2, rfl, by simp, by unfold maxLen; omega, (fun h => by cases h), fun i hi => ?_⟩
  have hi' : i = 0 ∨ i = 1 := by simp at hi; omega
  rcases hi' with rfl | rfl
  · exact ⟨w.heap.size, 0, rfl, by simp, (World.cell?_alloc_new w _ _ _).trans rfl⟩
  · exact ⟨w.heap.size, 0, rfl, by simp, (World.cell?_alloc_new w _ _ _).trans rfl⟩
theorem one_int (w : World) (x : Int) : IntsAt (w.alloc (.cells #[.int .i64 x] 3)) (.slice (some ⟨w.heap.size, 0, none⟩) 1 1) [x] := by
  refine ⟨some ⟨w.heap.size, 0, none⟩, 1, rfl, by simp, by unfold maxLen; omega, (fun h => by cases h), fun i hi => ?_⟩
  have hi' : i = 0 := by simp at hi; omega
  subst hi'
  exact ⟨w.heap.size, 0, rfl, by simp, (World.cell?_alloc_new w _ _ _).trans rfl⟩

end Go.Proofs.Ytlnggaepmclbkaa
