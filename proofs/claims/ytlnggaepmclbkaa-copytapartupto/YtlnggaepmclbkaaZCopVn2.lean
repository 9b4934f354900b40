/-
  term.Vars: the row that it answers is a new one.
-/
import Derived.Test.YtlnggaepmclbkaaZVarsn3
import Derived.Maps.OwnSet
import Derived.Test.YtlnggaepmclbkaaZCopDn2
namespace Go.Proofs.Ytlnggaepmclbkaa
open Go.RowKit Go.Shelf
set_option linter.unusedVariables false
attribute [local go_sem] Oper.semAt_some
set_option maxRecDepth 100000 in
set_option maxHeartbeats 4000000 in
theorem vars_own_at (v : Value) (T : Tm) (w : World) (ht : Has w v T) (hs : T.size ≤ 1000000000000) :
    Calls Try.prog 15 #[v] w fun e w' => ∃ r, e = .returned r ∧ w'.ownsRow w.heap.size 3 1 r T.vars.length (T.vars.map (Value.int .i64)) ∧ Below w.heap.size w w' := by
  refine (callsIn_wide (n := 3)).1 ?_
  have hs4 : T.size ≤ 4000000000000000000 := by omega
  have hmm := @run_makeMap Try.prog
  obtain ⟨i0, hi, hz0, hz1, hz2⟩ := info_parts infoInt
  obtain ⟨k_, n_, s_, a, len, cap, ks_, rfl, e, -⟩ := ht.form
  clear e
  refine callsIn_of_wp_marks Try.func15 rfl trivial ?_ rfl
  simp only [Try.ntmps15, List.size_toArray, List.length_cons, List.length_nil, Nat.reduceAdd, Nat.reduceSub, Array.replicate_succ, Array.replicate_zero, List.push_toArray, List.append_toArray, List.nil_append, List.cons_append]
  gi_wp2_with (refine ⟨trivial, ?_⟩; gi_at_call 34; refine (parts_in Fence.wide _ trivial rfl _ _ _ _ _).mono ?_; rintro e w' ⟨rfl, rfl⟩)
  have bV := Boxed.new (w.alloc (.cells #[.int .i64 k_, .int .i64 n_, .string s_, .slice a len cap] 24)) 34 (.slice none 0 0)
  have hm0 := World.ownsMap_made ((w.alloc (.cells #[.int .i64 k_, .int .i64 n_, .string s_, .slice a len cap] 24)).alloc (.cells #[.slice none 0 0] 34)) Try.prog 2 (unitElem (H := Unit))
  have bM := Boxed.new (((w.alloc (.cells #[.int .i64 k_, .int .i64 n_, .string s_, .slice a len cap] 24)).alloc (.cells #[.slice none 0 0] 34)).alloc (.map #[] 0)) 62 (.map (some (w.heap.size + 1 + 1)))
  have hT := World.alloc_heap_new ((((w.alloc (.cells #[.int .i64 k_, .int .i64 n_, .string s_, .slice a len cap] 24)).alloc (.cells #[.slice none 0 0] 34)).alloc (.map #[] 0)).alloc (.cells #[.map (some (w.heap.size + 1 + 1))] 62)) (.cells #[.int .i64 k_, .int .i64 n_, .string s_, .slice a len cap] 24)
  simp only [World.size_alloc] at bV hm0 bM hT
  have hB0 : Below w.heap.size w (((((w.alloc (.cells #[.int .i64 k_, .int .i64 n_, .string s_, .slice a len cap] 24)).alloc (.cells #[.slice none 0 0] 34)).alloc (.map #[] 0)).alloc (.cells #[.map (some (w.heap.size + 1 + 1))] 62)).alloc (.cells #[.int .i64 k_, .int .i64 n_, .string s_, .slice a len cap] 24)) :=
    (((((Below.refl _ w).alloc (Nat.le_refl _) _).alloc (by simp) _).alloc (by simp; omega) _).alloc (by simp; omega) _).alloc (by simp; omega) _
  refine wpIn_rangeFunc_ownH rfl (by decide) (gf := 41) (lb := #[.pointer (some ⟨w.heap.size + 1 + 1 + 1 + 1, 0, none⟩)]) rfl trivial (enters_of Try.func41 (by kernel_rfl) rfl)
    (parts_stops Fence.wide rfl _ trivial trivial rfl (w.heap.size + 1 + 1 + 1 + 1) w.heap.size T (.agg #[.int .i64 k_, .int .i64 n_, .string s_, .slice a len cap]) _ w (by simp; omega) hB0 hT ht hs4) keeps_t (keeps_b (by simp; omega)) (Below.refl _ _) (fun _ => rfl)
    (fun pre W => ((∃ v, Boxed W (w.heap.size + 1) 34 v ∧ W.ownsRow w.heap.size 3 1 v (varsL (pre.map Part.key)).length ((varsL (pre.map Part.key)).map (Value.int .i64)) ∧ (v = .slice none 0 0 ↔ varsL (pre.map Part.key) = [])) ∧ Boxed W (w.heap.size + 1 + 1 + 1) 62 (.map (some (w.heap.size + 1 + 1))) ∧ W.ownsMap Try.prog 2 (unitElem (H := Unit)) (w.heap.size + 1 + 1) (varsL (pre.map Part.key)).length (setV (varsL (pre.map Part.key)))) ∧ Below w.heap.size w W)
    (fun _ _ _ => False)
    (OwnFrom.and (OwnFrom.and (Own.from (holdsRow_own w.heap.size _ _ _ 1 (fun pre : List (Part w.heap.size w) => (varsL (pre.map Part.key)).length) (fun pre => (varsL (pre.map Part.key)).map (Value.int .i64)) (fun pre v => v = .slice none 0 0 ↔ varsL (pre.map Part.key) = [])) _) (OwnFrom.and (Own.from (boxed_own _ _ _) _) (fun s A B row hs hg hr => hs.kept hg (fun e => by have := (hr _ e.symm).1; simp at this; omega)))) (ownFrom_below (Nat.le_refl _) (by simp; omega)))
    (fun _ _ _ _ _ hs _ _ => hs)
    ⟨⟨⟨_, (((bV.alloc _).alloc _).alloc _), World.ownsRow_nil _ _ _ _, by simp [varsL]⟩, bM.alloc _, (hm0.alloc _).alloc _⟩, hB0⟩
    (fun x a' W => ∃ Bx, PBox x (w.heap.size + 1 + 1 + 1 + 1) Bx W ∧ a' = { tmps := #[.agg #[.int .i64 k_, .int .i64 n_, .string s_, .slice a len cap], .pointer (some ⟨w.heap.size, 0, none⟩), .slice none 0 0, .pointer (some ⟨w.heap.size + 1, 0, none⟩), .pointer (some ⟨w.heap.size + 1 + 1 + 1, 0, none⟩), undef, .pointer (some ⟨Bx, 0, none⟩), undef, undef, .map (some (w.heap.size + 1 + 1)), .agg #[.int .i64 k_, .int .i64 n_, .string s_, .slice a len cap], .func (.func 41) #[] #[.pointer (some ⟨w.heap.size + 1 + 1 + 1 + 1, 0, none⟩)], .int .i64 (x.1.1 : Int), x.1.2.1, undef, undef, undef, undef, undef, undef, undef, undef, undef, undef, undef, undef, undef, undef, undef, undef, undef, undef, undef, undef, undef], defers := [] })
    (fun x a' s A B row hs hg hr => by obtain ⟨Bx, hb, e⟩ := hs; exact ⟨Bx, hb.own hg hr, e⟩) ?assign ?body ?done ?stop
  case assign =>
    rintro l pre ⟨⟨d, u, X⟩, hx, hd, hX⟩ W K ⟨⟨⟨vv, hv, hrow, hnil⟩, hM, hown⟩, hB⟩ hK
    obtain ⟨k, n, s, a', len', cap', ks, rfl, rfl, -⟩ := hx.form
    gi_wp2
    refine hK _ _ ((KeepsOthers.alloc _ _).from _) ((Keeps.refl _ _).alloc hB.size _) ⟨⟨⟨vv, hv.alloc _, hrow.alloc _, hnil⟩, hM.alloc _, hown.alloc _⟩, hB.alloc hB.size _⟩ ⟨W.heap.size, ⟨k, n, s, a', len', cap', ks, rfl, World.alloc_heap_new _ _, hM.lt⟩, by first | rfl | simp⟩
  case body =>
    rintro l pre ⟨⟨d, u, X⟩, hx, hd, hX⟩ a' W hl hr ⟨⟨⟨vv, hv, hrow, hnil⟩, hM, hown⟩, hB⟩ ⟨Bx, ⟨k, n, s, a1, len', cap', ks, e, hb, hS⟩, rfl⟩ hlt
    simp only [Prod.mk.injEq] at e
    obtain ⟨rfl, rfl⟩ := e
    obtain ⟨c0, c1, c2, c3⟩ := tbox_cells hb
    have hn : i64ok n := by
      obtain ⟨_, _, _, _, _, _, _, e1, e2, _, _, hn, _⟩ := hx.form
      cases e2; exact hn
    have hsnoc := varsL_snoc (pre.map Part.key) (d, .mk k n s ks)
    have hvl := varsL_length (pre.map Part.key)
    rw [List.length_map] at hvl
    have hmap : (pre ++ [(⟨(d, .agg #[.int .i64 k, .int .i64 n, .string s, .slice a1 len' cap'], .mk k n s ks), hx, hd, hX⟩ : Part w.heap.size w)]).map Part.key = pre.map Part.key ++ [(d, .mk k n s ks)] := by simp [Part.key]
    generalize hV : varsL (pre.map Part.key) = V at *
    have HN := Lib.hid (And.intro hmap (And.intro hsnoc hV))
    clear hmap hsnoc hV
    have hBs := hB.size
    have hcM := hM.cell
    have hcV := hv.cell
    have hkey : keyOf Try.prog 2 (.int .i64 n) = some (.int .i64 n) := Maps.keyOf_int_mk Try.underlying2 (WalkArith.wf_i64 hn)
    have hmx : V.length < maxLen := by unfold maxLen; omega
    by_cases hk : k = 1
    · subst hk
      obtain ⟨es, ck, hmap⟩ := map_obj hown
      have hM1 := hM.alloc (.cells #[] 66)
      have hcM1 := hM1.cell
      have hb1 : (W.alloc (.cells #[] 66)).heap[Bx]? = _ := (Below.heap_alloc W _ Bx (Array.getElem?_eq_some_iff.1 hb).1).trans hb
      obtain ⟨d0, d1, d2, d3⟩ := tbox_cells hb1
      have hne : ∀ {t : TypeId} {B : Nat} {u : Value}, Boxed W B t u → some B ≠ some (w.heap.size + 1 + 1) := fun h e => by cases e; rw [show W.heap[_]? = _ from h] at hmap; cases hmap
      have hneB : some Bx ≠ some (w.heap.size + 1 + 1) := fun e => by cases e; rw [hb] at hmap; cases hmap
      gi_wp2_with (first
        | (gi_at_lookup; refine wpListIn_lookup_own_unit _ rfl _ _ 62 rfl 2 66 keyed64 Try.underlying62 (zeroUnit _) (w.heap.size + 1 + 1) V.length _ rfl hown _ _ rfl hkey ?_)
        | (gi_at_mapUpdate; refine wpListIn_mapUpdate_own _ rfl _ _ _ 62 rfl 2 66 keyed64 Try.underlying62 (unitElem (H := Unit)) (w.heap.size + 1 + 1) V.length _ rfl (hown.alloc _) hmx _ _ _ rfl rfl hkey _ [] unitElem_mk ?_; intro w1 hown1 hgrow1; have hv1 := (hv.alloc (.cells #[] 66)).kept hgrow1 (hne hv); have hcV1 := hv1.cell; have hM2 := hM1.kept hgrow1 (hne hM); have hb2 := (hgrow1.block Bx (Array.getElem?_eq_some_iff.1 hb1).1 hneB).trans hb1; have hrow1 := (hrow.alloc (.cells #[] 66)).kept hgrow1 (Or.inr (row_not_map hrow hown)); obtain ⟨f0, f1, f2, f3⟩ := tbox_cells hb2)
        | (gi_at_builtin; refine wpListIn_append_own _ rfl _ _ 34 rfl w.heap.size 3 i0 (.int .i64 0) 1 8 Try.underlying34 hi hz0 hz1 hz2 rfl (by decide) _ _ _ rfl (hrow1.alloc _) ⟨w1.heap.size, 0, none⟩ 1 1 [.int .i64 n] rfl rfl (cell_one_new _ _ _) (by simp [Value.oneCell']) (by omega) (by omega) (by have := hgrow1.size; simp at this ⊢; omega) ?_; intro v' w2 hown' hgrow2 _; obtain ⟨g', cap', rfl⟩ := ownsRow_succ hown'; obtain ⟨hv2, hv3, hr3, hk3, hb3⟩ := hv1.appended (by decide) hrow1 (by have := hgrow1.size; simp at this; omega) (by omega) hown' hgrow2; have hcv2 := hv2.cell; have hfv2 := hv2.frozen))
      · have hc : V.contains n = true := by rw [← has_setV]; assumption
        have e := (congrArg varsL HN.out.1).trans (HN.out.2.1.trans (show addV V (d, .mk 1 n s ks) = V by simp only [addV, addNew, Tm.kind, Tm.num, if_true, hc]))
        exact ⟨(KeepsOthers.alloc _ _).from _, (Keeps.refl _ _).alloc hBs _, ⟨⟨vv, hv.alloc _, by rw [e]; exact hrow.alloc _, by rw [e]; exact hnil⟩, hM1, by rw [e]; exact hown.alloc _⟩, hB.alloc hBs _⟩
      · have hc : V.contains n = false := by rw [← has_setV]; assumption
        have e := (congrArg varsL HN.out.1).trans (HN.out.2.1.trans (show addV V (d, .mk 1 n s ks) = V ++ [n] by simp only [addV, addNew, Tm.kind, Tm.num, if_true, hc]; rfl))
        have hk1 : Keeps w.heap.size W w1 := ((Keeps.refl _ _).alloc hBs _).trans (keeps_grown hgrow1 (by simp; omega) (fun k e => by cases e; omega) (fun b c z h e => by
          cases e
          rw [Below.heap_alloc W _ _ (Array.getElem?_eq_some_iff.1 hmap).1, hmap] at h
          cases h))
        have s1 := hk1.below.size
        have hk2 : Keeps w.heap.size w1 (w2.setCell ⟨w.heap.size + 1, 0, none⟩ (.slice (some ⟨g', 0, none⟩) (V.length + 1) cap')) := ⟨hb3, fun b c z h => by
          have hlt := (Array.getElem?_eq_some_iff.1 h).1
          have h1 : w2.heap[b]? = some (.cells c 24 z) := (hgrow2.block b (by simp; omega) (row_not_term hrow1 (by decide) h)).trans ((Below.heap_alloc w1 _ b hlt).trans h)
          refine (Below.heap_setCell w2 ⟨w.heap.size + 1, 0, none⟩ _ b (fun e => ?_)).trans h1
          subst e
          rw [show w1.heap[_]? = _ from hv1] at h; cases h⟩
        have hM3 : Boxed w2 (w.heap.size + 1 + 1 + 1) 62 (.map (some (w.heap.size + 1 + 1))) := (hM2.alloc _).kept hgrow2 (hM2.not_row (by decide) hrow1)
        have hown2 := ((hown1.alloc (.cells #[.int .i64 n] 3)).kept hgrow2 (row_not_map hrow1 hown1).symm).setCell (a := ⟨w.heap.size + 1, 0, none⟩) (by simp) (.slice (some ⟨g', 0, none⟩) (V.length + 1) cap')
        refine ⟨((KeepsOthers.alloc _ _).from _).trans ((KeepsFrom.of_grownBy hgrow1 (fun j e => by cases e; simp)).trans (hk3.from _)), hk1.trans hk2, ⟨⟨_, hv3, by rw [e]; simpa using hr3, by rw [e]; simp⟩, hM3.other (by omega) _, ?_⟩, hB.trans (hk1.below.trans hk2.below)⟩
        rw [e, setV_snoc, List.length_append]
        exact hown2
    · have e := (congrArg varsL HN.out.1).trans (HN.out.2.1.trans (show addV V (d, .mk k n s ks) = V by unfold addV; exact if_neg hk))
      gi_wp2
      exact ⟨KeepsFrom.refl _ _, Keeps.refl _ _, ⟨⟨vv, hv, by rw [e]; exact hrow, by rw [e]; exact hnil⟩, hM, by rw [e]; exact hown⟩, hB⟩
  case done =>
    rintro D ys W hD hy ⟨⟨⟨vv, hv, hrow, hnil⟩, hM, hown⟩, hB⟩ hK
    have hcV := hv.cell
    rw [hy] at hrow
    gi_wp2
    refine ⟨by simp, .inl ⟨_, _, rfl, run_takeDeferred hK, ?_⟩⟩
    exact ⟨_, results_tmp rfl _ _ _, vv, rfl, ownsRow_putObj hrow _ hK rfl, hB.trans (belowK_b (w := w) (Nat.le_refl _) W D _ _ (by simp at hD; omega) hK rfl rfl)⟩
  case stop =>
    rintro D c pre W _ _ h _
    exact h.elim

end Go.Proofs.Ytlnggaepmclbkaa

namespace Go.Proofs.Ytlnggaepmclbkaa
open Go.RowKit Go.Shelf
set_option linter.unusedVariables false
set_option linter.unusedSimpArgs false

/-- What variables are bound to has variables below 12 alone. -/
def Ld (σ : St) : Prop := ∀ (x : Nat) (U : Tm), σ.vs[x]? = some (some U) → ∀ y, Occ y U → y < 12
theorem ld_zero (n : Nat) : Ld ((St.mk [] []).fresh n) := by
  intro x U hx
  have hx : ([] ++ List.replicate n none)[x]? = some (some U) := hx
  rw [List.nil_append, List.getElem?_replicate] at hx
  split at hx <;> cases hx
theorem Bound1.ld {σ σ' : St} {v : Int} {T : Tm} (h : Bound1 σ v T σ') (hV : Ld σ) (hT : ∀ y, Occ y T → y < 12) : Ld σ' := by
  rcases h with rfl | ⟨n, -, -, -, rfl⟩
  · exact hV
  · intro x U hx
    have hx : (σ.vs.set n (some T))[x]? = some (some U) := hx
    rw [List.getElem?_set] at hx
    split at hx
    · split at hx
      · cases hx; exact hT
      · cases hx
    · exact hV x U hx

theorem far_look {σ τ : St} (h : ∀ x : Nat, x < 12 → τ.vs[x]? = σ.vs[x]?) {n : Int} (hn : n < 12) : τ.look n = σ.look n := by
  unfold St.look
  by_cases h0 : 0 ≤ n
  · rw [if_pos h0, if_pos h0, h n.toNat (by omega)]
  · rw [if_neg h0, if_neg h0]
theorem far_val {σ τ : St} (h : ∀ x : Nat, x < 12 → τ.vs[x]? = σ.vs[x]?) {T : Tm} (hT : ∀ y, Occ y T → y < 12) : τ.val T = σ.val T := by
  obtain ⟨k, n, s, ks⟩ := T
  show (if k = 1 then τ.look n else none) = if k = 1 then σ.look n else none
  by_cases hk : k = 1
  · subst hk
    rw [if_pos rfl, if_pos rfl, far_look h (hT n (.here rfl))]
  · rw [if_neg hk, if_neg hk]
theorem far_ends {σ τ : St} (h : ∀ x : Nat, x < 12 → τ.vs[x]? = σ.vs[x]?) (hl : Ld σ) {n : Nat} {T X : Tm} (e : EndsN σ n T X) : (∀ y, Occ y T → y < 12) → EndsN τ n T X ∧ ∀ y, Occ y X → y < 12 := by
  induction e with
  | stop hv => exact fun hT => ⟨.stop ((far_val h hT).trans hv), hT⟩
  | step hv _ ih =>
    intro hT
    obtain ⟨_, x, _, hx⟩ := St.val_some hv
    obtain ⟨h1, h2⟩ := ih (hl x _ hx)
    exact ⟨.step ((far_val h hT).trans hv) h1, h2⟩
theorem far_fin {σ τ : St} (h : ∀ x : Nat, x < 12 → τ.vs[x]? = σ.vs[x]?) (hl : Ld σ) (hr : σ.Ranked) {T : Tm} (hT : ∀ y, Occ y T → y < 12) : τ.fin T = σ.fin T ∧ ∀ y, Occ y (σ.fin T) → y < 12 := by
  obtain ⟨n, hn⟩ := hr.fin T
  obtain ⟨h1, h2⟩ := far_ends h hl hn hT
  exact ⟨h1.fin, h2⟩
theorem fillL_congr {g g' : Nat → Tm → FR} (left : Nat) (ks : List Tm) : (∀ t ∈ ks, ∀ l, g l t = g' l t) → fillL g left ks = fillL g' left ks := by
  induction ks using snoc_ind with
  | h0 => intro _; rfl
  | h1 ks t ih =>
    intro h
    rw [fillL_snoc, fillL_snoc, ih fun u hu => h u (List.mem_append_left _ hu)]
    cases fillL g' left ks with
    | bad e => rfl
    | ok us l => simp only; rw [h t (by simp)]
theorem far_fill {σ τ : St} (h : ∀ x : Nat, x < 12 → τ.vs[x]? = σ.vs[x]?) (hl : Ld σ) (hr : σ.Ranked) : ∀ f left (T : Tm), (∀ y, Occ y T → y < 12) → τ.fill f left T = σ.fill f left T
  | 0, left, T, _ => by rw [St.fill, St.fill]
  | f + 1, left, T, hT => by
    obtain ⟨e, hX⟩ := far_fin h hl hr hT
    rw [St.fill, St.fill, e]
    generalize σ.fin T = X at hX
    obtain ⟨k, n, s, ks⟩ := X
    have := fillL_congr (g := τ.fill f) (g' := σ.fill f) (left - 1) ks fun t ht l => far_fill h hl hr f l t fun y hy => hX y (.kid ht hy)
    show (if left = 0 then FR.bad 3 else match fillL (τ.fill f) (left - 1) ks with | .bad e => FR.bad e | .ok us l => .ok (.mk k n s us) l) = (if left = 0 then FR.bad 3 else match fillL (σ.fill f) (left - 1) ks with | .bad e => FR.bad e | .ok us l => .ok (.mk k n s us) l)
    rw [this]

/-- Behind twelve variables there are m more, of which those from the c-th on are free. -/
structure Nx (σ τ : St) (m c : Nat) : Prop where
  len : τ.vs.length = 12 + m
  far : ∀ x : Nat, x < 12 → τ.vs[x]? = σ.vs[x]?
  free : ∀ x, c ≤ x → x < m → τ.vs[12 + x]? = some none
theorem Nx.start {σ : St} (h : σ.vs.length = 12) (m : Nat) : Nx σ (σ.fresh m) m 0 := by
  refine ⟨by rw [fresh_len13, h], fun x hx => ?_, fun x _ hx => ?_⟩
  · show (σ.vs ++ List.replicate m none)[x]? = _
    rw [List.getElem?_append_left (by omega)]
  · show (σ.vs ++ List.replicate m none)[12 + x]? = _
    rw [List.getElem?_append_right (by omega), List.getElem?_replicate, if_pos (by omega)]
theorem Nx.next {σ τ : St} {m c : Nat} (h : Nx σ τ m c) (hc : c < m) (N : Tm) : Nx σ (τ.bind (12 + c) N) m (c + 1) := by
  refine ⟨by show (τ.vs.set (12 + c) (some N)).length = _; rw [List.length_set, h.len], fun x hx => ?_, fun x hx hx2 => ?_⟩
  · show (τ.vs.set (12 + c) (some N))[x]? = _
    rw [List.getElem?_set, if_neg (by omega)]
    exact h.far x hx
  · show (τ.vs.set (12 + c) (some N))[12 + x]? = _
    rw [List.getElem?_set, if_neg (by omega)]
    exact h.free x (by omega) hx2

/-- The atom a. -/
def atomA : Tm := .mk 3 0 (ByteArray.mk #[97]) []
theorem atomA_met (σ : St) (v : Int) : ¬ Met σ v atomA := by
  rintro ⟨m, h⟩
  cases h with
  | var _ h1 _ => cases h1
  | bound h _ => have := (St.val_some h).1; cases this
  | kid _ _ hU g => cases hU
theorem atomA_size : atomA.size = 1 := by rw [atomA, Tm.size_mk, Tm.sizes_nil]

/-- A copy, above twelve variables. -/
structure CopyOf (U C : Tm) : Prop where
  len : C.vars.length = U.vars.length
  get : ∀ i (h : i < C.vars.length), C.vars[i] = 12 + (i : Int)
  norm : C.norm = U.norm
  size : C.size = U.size
theorem copy_of {U : Tm} (h : U.size ≤ 1000) : CopyOf U (U.norm.shift ((12 : Nat) : Int)) :=
  ⟨copy_vars_len U _ (by omega), fun i hi => (copy_vars_get U 12 (by omega) (by omega) i hi).trans (by omega), copy_norm U _ (by omega), by rw [Tm.size_shift, norm_size]⟩

/-- Numbers in a row of another's. -/
def VarsRow (w : World) (b : Nat) (V L : Value) (a : Option Addr) (l : List Int) : Prop := ∀ i (h : i < l.length), ∃ b' o, a = some ⟨b', o, none⟩ ∧ Oth w b V L b' ∧ w.cell? ⟨b', o + i, none⟩ = some (.int .i64 l[i])
theorem VarsRow.mut {w w' : World} {b : Nat} {V L V' L' : Value} {a : Option Addr} {l : List Int} (h : VarsRow w b V L a l) (m : Mut w b V L w' V' L') : VarsRow w' b V' L' a l := fun i hi => by
  obtain ⟨b', o, e, ho, hc⟩ := h i hi
  exact ⟨b', o, e, (m.keep b' ho).2, (World.cell?_of_block (a := ⟨b', o + i, none⟩) (m.keep b' ho).1).trans hc⟩
theorem VarsRow.new {n₀ : Nat} {w w' : World} {b : Nat} {V L : Value} {σ : St} (h : StAt (Oth w b V L) n₀ w b V L σ) {r : Value} {l : List Int} (hr : w'.ownsRow w.heap.size 3 1 r l.length (l.map (Value.int .i64))) : ∃ a cap, r = .slice a l.length cap ∧ VarsRow w' b V L a l := by
  obtain ⟨a, cap, rfl, h1, h2, h3, h4⟩ := ints_of_row hr
  refine ⟨a, cap, rfl, fun i hi => ?_⟩
  obtain ⟨b', o, rfl, hb, hc⟩ := h4 i hi
  exact ⟨b', o, rfl, h.fresh (World.ownsRow.lt hr b' rfl), hc⟩

/-- Bounds that came in: a number, and a term. -/
def BoundsAt (n₀ : Nat) (w : World) (a : Option Addr) (len : Nat) : Prop := ∀ i, i < len → ∃ (b o : Nat) (N k n : Int) (s : ByteArray) (a' : Option Addr) (l' c' : Nat) (T : Tm), a = some ⟨b, o, none⟩ ∧ b < n₀ ∧ i64ok N ∧ w.cell? ⟨b, o + i * 5, none⟩ = some (.int .i64 N) ∧
  w.cell? ⟨b, o + i * 5 + 1, none⟩ = some (.int .i64 k) ∧ w.cell? ⟨b, o + i * 5 + 2, none⟩ = some (.int .i64 n) ∧ w.cell? ⟨b, o + i * 5 + 3, none⟩ = some (.string s) ∧ w.cell? ⟨b, o + i * 5 + 4, none⟩ = some (.slice a' l' c') ∧ IsTm n₀ w (.agg #[.int .i64 k, .int .i64 n, .string s, .slice a' l' c']) T ∧ T.size ≤ 1048576
end Go.Proofs.Ytlnggaepmclbkaa
