/-
  store.Undo.
-/
import Derived.Test.YtnaopkkdidngoaaStoJ
namespace Go.Proofs.Ytnaopkkdidngoaa
open Go.RowKit Go.Shelf
set_option linter.unusedVariables false
set_option linter.unusedSimpArgs false

def frees (vs : List (Option Tm)) (l : List Nat) : List (Option Tm) := l.foldl (fun vs v => vs.set v none) vs
def St.undo (σ : St) (m : Nat) : St := ⟨frees σ.vs (σ.tr.drop m), σ.tr.take m⟩
theorem frees_snoc (vs : List (Option Tm)) (l : List Nat) (v : Nat) : frees vs (l ++ [v]) = (frees vs l).set v none := by
  unfold frees; rw [List.foldl_append]; rfl
theorem frees_len (vs : List (Option Tm)) : ∀ l, (frees vs l).length = vs.length := by
  intro l
  unfold frees
  induction l generalizing vs with
  | nil => rfl
  | cons v r ih => rw [List.foldl_cons, ih, List.length_set]
theorem frees_get : ∀ (l : List Nat) (vs : List (Option Tm)) (x : Nat), (frees vs l)[x]? = if x ∈ l ∧ x < vs.length then some none else vs[x]?
  | [], vs, x => by simp [frees]
  | v :: r, vs, x => by
    show (frees (vs.set v none) r)[x]? = _
    rw [frees_get r, List.length_set, List.getElem?_set]
    by_cases h1 : x ∈ r ∧ x < vs.length
    · rw [if_pos h1, if_pos ⟨List.mem_cons_of_mem _ h1.1, h1.2⟩]
    · rw [if_neg h1]
      by_cases e : v = x
      · subst e
        by_cases hl : v < vs.length
        · rw [if_pos rfl, if_pos hl, if_pos ⟨by simp, hl⟩]
        · rw [if_pos rfl, if_neg hl, if_neg (by omega), List.getElem?_eq_none (by omega)]
      · rw [if_neg e]
        by_cases hx : x ∈ v :: r ∧ x < vs.length
        · exfalso
          rcases List.mem_cons.1 hx.1 with h | h
          · exact e h.symm
          · exact h1 ⟨h, hx.2⟩
        · rw [if_neg hx]
theorem St.Ok.undo {σ : St} (h : σ.Ok) (m : Nat) : (σ.undo m).Ok := by
  have hg : ∀ (x : Nat) (T : Tm), (σ.undo m).vs[x]? = some (some T) → σ.vs[x]? = some (some T) ∧ ¬ (x ∈ σ.tr.drop m) := by
    intro x T hx
    have hx : (frees σ.vs (σ.tr.drop m))[x]? = some (some T) := hx
    rw [frees_get] at hx
    split at hx
    · cases hx
    · rename_i hn
      exact ⟨hx, fun hm => hn ⟨hm, (List.getElem?_eq_some_iff.1 hx).1⟩⟩
  refine ⟨h.ranked.less fun x T hx => (hg x T hx).1, by show (frees _ _).length ≤ _; rw [frees_len]; exact h.len, fun o ho U hU => ?_, h.nd.sublist (List.take_sublist _ _), fun v => ?_⟩
  · subst hU
    obtain ⟨x, hx⟩ := List.getElem?_of_mem ho
    exact h.small _ (List.mem_of_getElem? (hg x U hx).1) U rfl
  · have hsplit : σ.tr = σ.tr.take m ++ σ.tr.drop m := (List.take_append_drop _ _).symm
    constructor
    · intro hv
      have hv : v ∈ σ.tr.take m := hv
      obtain ⟨U, hU⟩ := (h.mem v).1 (List.mem_of_mem_take hv)
      refine ⟨U, ?_⟩
      show (frees _ _)[v]? = _
      rw [frees_get, if_neg]
      · exact hU
      · rintro ⟨hd, -⟩
        have := h.nd
        rw [hsplit, List.nodup_append] at this
        exact this.2.2 v hv v hd rfl
    · rintro ⟨U, hU⟩
      obtain ⟨h1, h2⟩ := hg v U hU
      have h3 := (h.mem v).2 ⟨U, h1⟩
      rw [hsplit] at h3
      rcases List.mem_append.1 h3 with h3 | h3
      · exact h3
      · exact absurd h3 h2

/-- All lies as it lay, but one block, which is as great. -/
structure OnlyRow (g : Nat) (w w' : World) : Prop where
  os : w'.os = w.os
  tape : w'.tape = w.tape
  output : w'.output = w.output
  size : w'.heap.size = w.heap.size
  heap : ∀ k, k ≠ g → w'.heap[k]? = w.heap[k]?
theorem OnlyRow.refl (g : Nat) (w : World) : OnlyRow g w w := ⟨rfl, rfl, rfl, rfl, fun _ _ => rfl⟩
theorem OnlyRow.trans {g : Nat} {w w1 w2 : World} (h : OnlyRow g w w1) (k : OnlyRow g w1 w2) : OnlyRow g w w2 :=
  ⟨k.os.trans h.os, k.tape.trans h.tape, k.output.trans h.output, k.size.trans h.size, fun c hc => (k.heap c hc).trans (h.heap c hc)⟩
theorem OnlyRow.cell {g : Nat} {w w' : World} (h : OnlyRow g w w') {k o : Nat} (hk : k ≠ g) : w'.cell? ⟨k, o, none⟩ = w.cell? ⟨k, o, none⟩ :=
  World.cell?_of_block (a := ⟨k, o, none⟩) (h.heap k hk)

theorem undo_end {n₀ : Nat} {w wr : World} {b g g2 m tl xl cp cap2 : Nat} {σ : St} {xs xs' : List V5} {cur2 : Array Value} {mark : Int}
    (h : StAt (Oth w b (.slice (some ⟨g, 0, none⟩) xs.length cp) (.slice (some ⟨g2, 0, none⟩) σ.tr.length cap2)) n₀ w b (.slice (some ⟨g, 0, none⟩) xs.length cp) (.slice (some ⟨g2, 0, none⟩) σ.tr.length cap2) σ)
    (hl : tl = σ.tr.length ∧ xl = xs.length ∧ m = mark.toNat) (hgb : g ≠ b) (hgg : g ≠ g2)
    (hT : cur2.toList.take σ.tr.length = σ.tr.map (fun n : Nat => Value.int .i64 (n : Int)) ∧ n₀ ≤ g2 ∧ σ.tr.length ≤ cap2 ∧ cap2 ≤ cur2.size ∧ cap2 ≤ maxLen) (hh2 : w.heap[g2]? = some (.cells cur2 3 (0, 0))) (hm : m < tl)
    (hR : RowV wr n₀ (.slice (some ⟨g, 0, none⟩) xl cp) xs' ∧ xs'.length = xl ∧ VOk (Oth w b (.slice (some ⟨g, 0, none⟩) xl cp) (.slice (some ⟨g2, 0, none⟩) tl cap2)) w xs' (frees σ.vs ((σ.tr.drop m).take (tl - m))) ∧ OnlyRow g w wr)
    (hbox : wr.heap[b]? = some (.cells #[.slice (some ⟨g, 0, none⟩) xl cp, .slice (some ⟨g2, 0, none⟩) tl cap2] 59 (0, 0))) :
    StAt (Oth (wr.setCell ⟨b, 1, none⟩ (.slice (some ⟨g2, 0, none⟩) m m)) b (.slice (some ⟨g, 0, none⟩) xs.length cp) (.slice (some ⟨g2, 0, none⟩) m m)) n₀ (wr.setCell ⟨b, 1, none⟩ (.slice (some ⟨g2, 0, none⟩) m m)) b (.slice (some ⟨g, 0, none⟩) xs.length cp) (.slice (some ⟨g2, 0, none⟩) m m) (σ.undo m) ∧
      Mut w b (.slice (some ⟨g, 0, none⟩) xs.length cp) (.slice (some ⟨g2, 0, none⟩) σ.tr.length cap2) (wr.setCell ⟨b, 1, none⟩ (.slice (some ⟨g2, 0, none⟩) m m)) (.slice (some ⟨g, 0, none⟩) xs.length cp) (.slice (some ⟨g2, 0, none⟩) m m) := by
  obtain ⟨rfl, rfl, -⟩ := hl
  obtain ⟨hr, hlen, hok, ho⟩ := hR
  obtain ⟨htk, hg2, hn2, hcs2, hcm2⟩ := hT
  rw [List.take_of_length_le (by rw [List.length_drop]; exact Nat.le_refl _)] at hok
  have hg2b : g2 ≠ b := fun e => by rw [← e, ho.heap g2 (fun e => hgg e.symm), hh2] at hbox; cases hbox
  have hother : ∀ k, k ≠ b → (wr.setCell ⟨b, 1, none⟩ (.slice (some ⟨g2, 0, none⟩) m m)).heap[k]? = wr.heap[k]? := fun k hk => Below.heap_setCell wr ⟨b, 1, none⟩ _ k hk
  have hsz : (wr.setCell ⟨b, 1, none⟩ (.slice (some ⟨g2, 0, none⟩) m m)).heap.size = w.heap.size := by rw [World.size_setCell]; exact ho.size
  have keep : ∀ k, Oth w b (.slice (some ⟨g, 0, none⟩) xs.length cp) (.slice (some ⟨g2, 0, none⟩) σ.tr.length cap2) k → (wr.setCell ⟨b, 1, none⟩ (.slice (some ⟨g2, 0, none⟩) m m)).heap[k]? = w.heap[k]? ∧ Oth (wr.setCell ⟨b, 1, none⟩ (.slice (some ⟨g2, 0, none⟩) m m)) b (.slice (some ⟨g, 0, none⟩) xs.length cp) (.slice (some ⟨g2, 0, none⟩) m m) k := fun k hk =>
    ⟨(hother k hk.2.1).trans (ho.heap k (fun e => hk.2.2.1 (by rw [e]; rfl))), by rw [hsz]; exact hk.1, hk.2.1, hk.2.2.1, fun e => hk.2.2.2 e⟩
  have hB := (Below.refl 0 wr).setCell (p := ⟨b, 1, none⟩) (Nat.zero_le _) (.slice (some ⟨g2, 0, none⟩) m m)
  refine ⟨⟨set_block (o := 1) hbox _, h.lo, fun k hk => hk, ⟨xs', ?_, hok.carry (fun k hk => (keep k hk).1) fun k hk => (keep k hk).2⟩, ?_, h.ok.undo m⟩, ⟨hB.os.trans ho.os, hB.tape.trans ho.tape, hB.output.trans ho.output, by rw [hsz]; exact Nat.le_refl _, keep⟩⟩
  · refine RowV.later hr fun k hk => ?_
    have hk : some g = some k := hk
    injection hk with hk
    rw [← hk, hother g hgb]
  · refine .inr ⟨g2, m, cur2, ?_, hg2, (hother g2 hg2b).trans ((ho.heap g2 (fun e => hgg e.symm)).trans hh2), ?_, by omega, by omega, ?_⟩
    · show _ = Value.slice _ (σ.tr.take m).length _
      rw [List.length_take, Nat.min_eq_left (by omega)]
    · show (σ.tr.take m).length ≤ m
      rw [List.length_take]; omega
    · show cur2.toList.take (σ.tr.take m).length = (σ.tr.take m).map _
      rw [List.length_take, Nat.min_eq_left (by omega), List.map_take, ← htk, List.take_take, Nat.min_eq_left (by omega)]

set_option maxRecDepth 100000 in
set_option maxHeartbeats 4000000 in
theorem undo_at {n₀ : Nat} {w : World} {b : Nat} {V L : Value} {σ : St} (h : StAt (Oth w b V L) n₀ w b V L σ) (mark : Int) (hmk : i64ok mark) :
    Calls Try.prog 17 #[.pointer (some ⟨b, 0, none⟩), .int .i64 mark] w fun e w' => e = .returned (.tuple #[]) ∧ ∃ L', StAt (Oth w' b V L') n₀ w' b V L' (σ.undo mark.toNat) ∧ Mut w b V L w' V L' := by
  obtain ⟨m, hm⟩ : ∃ m, m = mark.toNat := ⟨_, rfl⟩
  rw [← hm]
  have hmax : max mark 0 = (m : Int) := by omega
  have hmi : m ≤ 9223372036854775807 := by have := hmk.2; omega
  by_cases hge : σ.tr.length ≤ m
  · have hun : σ.undo m = σ := by
      unfold St.undo
      rw [List.drop_eq_nil_of_le hge, List.take_of_length_le hge]; rfl
    have HUN := Lib.hid (show ∃ L', StAt (Oth w b V L') n₀ w b V L' (σ.undo m) ∧ Mut w b V L w V L' from ⟨L, by rw [hun]; exact h, Mut.refl _ _ _ _⟩)
    have hmark := mark_at h
    have hgei : ((m : Int) ≥ (σ.tr.length : Int)) := by omega
    obtain ⟨tl, htl⟩ : ∃ tl, tl = σ.tr.length := ⟨_, rfl⟩
    rw [← htl] at hmark hgei hge
    clear h hun hm htl
    by_cases h0 : mark < 0
    · have e0 : (m : Int) = 0 := by omega
      have e1 : tl = 0 := by omega
      subst e1
      clear hmax e0 hgei hge
      go_enter Try.func17, Try.ntmps17
      go_wp2_with (go_at_call 13; refine hmark.mono ?_; rintro e w2 ⟨rfl, rfl⟩)
      all_goals exact bodyPost_ret (results_none rfl _ _ _) rfl ⟨rfl, HUN.out⟩
    · have e0 : (m : Int) = mark := by omega
      rw [e0] at hgei
      clear hmax e0 hge
      go_enter Try.func17, Try.ntmps17
      go_wp2_with (go_at_call 13; refine hmark.mono ?_; rintro e w2 ⟨rfl, rfl⟩)
      all_goals exact bodyPost_ret (results_none rfl _ _ _) rfl ⟨rfl, HUN.out⟩
  · have hlt : m < σ.tr.length := by omega
    obtain ⟨xs, hr, hok⟩ := h.rV
    obtain ⟨e1, e2⟩ | ⟨g2, cap2, cur2, rfl, hg2, hh2, hn2, hcm2, hcs2, htk2⟩ := id h.rL
    · rw [e2] at hlt; exact absurd hlt (Nat.not_lt_zero _)
    have hv0 : ∃ v, v ∈ σ.tr := ⟨σ.tr[m], List.getElem_mem _⟩
    have hxs0 : 0 < xs.length := by
      obtain ⟨v, hv⟩ := hv0
      obtain ⟨U, hU⟩ := (h.ok.mem v).1 hv
      have := (List.getElem?_eq_some_iff.1 hU).1
      rw [hok.len]; omega
    obtain ⟨h1_, ⟨_, h0⟩ | ⟨g, cp, cur, rfl, hg, hh, hn, hcap, hsz, htake⟩⟩ := id hr
    · omega
    have htl := h.ok.tr_len
    have hcells : ∀ j, j < σ.tr.length → ∃ x : Nat, σ.tr[j]? = some x ∧ x < xs.length ∧ w.cell? ⟨g2, j, none⟩ = some (.int .i64 (x : Int)) := fun j hj => by
      refine ⟨σ.tr[j], List.getElem?_eq_getElem hj, ?_, ?_⟩
      · obtain ⟨U, hU⟩ := (h.ok.mem σ.tr[j]).1 (List.getElem_mem _)
        have := (List.getElem?_eq_some_iff.1 hU).1
        rw [hok.len]; exact this
      · have h3 : (cur2.toList.take σ.tr.length)[j]? = some (.int .i64 (σ.tr[j] : Int)) := by rw [htk2, List.getElem?_map, List.getElem?_eq_getElem hj]; rfl
        rw [List.getElem?_take_of_lt hj] at h3
        simp only [World.cell?, hh2]
        simpa using h3
    obtain ⟨c0, c1⟩ := two_cells h.box
    have hgb : g ≠ b := fun e => hr.ne_box h.box (by rw [e]; rfl)
    have hgg : g ≠ g2 := fun e => rows_ne hr h.rL g rfl (by rw [e]; rfl)
    have hmark := mark_at h
    have HH := Lib.hid (And.intro h (And.intro hr (And.intro hok (And.intro hcells (And.intro hgb (And.intro hgg (And.intro hlt hh2)))))))
    have HT2 := Lib.hid (And.intro htk2 (And.intro hg2 (And.intro hn2 (And.intro hcs2 hcm2))))
    obtain ⟨tl, htl'⟩ : ∃ tl, tl = σ.tr.length := ⟨_, rfl⟩
    rw [← htl'] at htl hlt hge hn2 hmark c1
    obtain ⟨xl, hxl⟩ : ∃ xl, xl = xs.length := ⟨_, rfl⟩
    rw [← hxl] at c0
    have hnge : ¬ ((m : Int) ≥ (tl : Int)) := by omega
    have hxl4 : xl ≤ 4096 := by rw [hxl, hok.len]; exact h.ok.len
    have HL := Lib.hid (And.intro htl' (And.intro hxl hm))
    clear h hr hok h1_ hh hn hcap hsz htake hg hh2 hcs2 htk2 hg2 hcells hgb hgg hv0 hxs0 htl' hxl hm hge
    rcases (show mark < 0 ∧ (m : Int) = 0 ∨ ¬ (mark < 0) ∧ (m : Int) = mark by omega) with ⟨h0, e0⟩ | ⟨h0, e0⟩
    · have em : m = 0 := by omega
      subst em
      clear e0
      go_enter Try.func17, Try.ntmps17
      go_wp2_with (go_at_call 13; refine hmark.mono ?_; rintro e w2 ⟨rfl, rfl⟩)
      clear hmark hmax
      go_loopw [19] (fun i wr => ∃ (c : Nat) (xs' : List V5), i = .int .i64 c ∧ c ≤ tl ∧ Hid (RowV wr n₀ (.slice (some ⟨g, 0, none⟩) xl cp) xs' ∧ xs'.length = xl ∧ VOk (Oth w2 b (.slice (some ⟨g, 0, none⟩) xl cp) (.slice (some ⟨g2, 0, none⟩) tl cap2)) w2 xs' (frees σ.vs ((σ.tr.drop 0).take c)) ∧ OnlyRow g w2 wr)) (fun i _ => tl - (intOf i).toNat)
      case atStart => exact ⟨0, xs, rfl, Nat.zero_le _, by rw [HL.out.2.1]; exact HH.out.2.1, HL.out.2.1.symm, by rw [HL.out.2.1, HL.out.1]; exact HH.out.2.2.1, OnlyRow.refl _ _⟩
      case round =>
        obtain ⟨c, xs', rfl, hc, HR⟩ := hrel
        have hgb := HH.out.2.2.2.2.1
        have hgg := HH.out.2.2.2.2.2.1
        have d0 : wr.cell? ⟨b, 0, none⟩ = some (.slice (some ⟨g, 0, none⟩) xl cp) := (HR.out.2.2.2.cell (fun e => hgb e.symm)).trans c0
        have d1 : wr.cell? ⟨b, 1, none⟩ = some (.slice (some ⟨g2, 0, none⟩) tl cap2) := (HR.out.2.2.2.cell (fun e => hgb e.symm)).trans c1
        by_cases hcd : c < tl
        · have hci : (c : Int) < ((tl : Nat) : Int) := by omega
          have hmc : 0 + c < σ.tr.length := by rw [← HL.out.1]; omega
          obtain ⟨x, hx, hxl, hxc⟩ := HH.out.2.2.2.1 (0 + c) hmc
          have dx : wr.cell? ⟨g2, c, none⟩ = some (.int .i64 (x : Int)) := (HR.out.2.2.2.cell (fun e => hgg e.symm)).trans (by simpa using hxc)
          rw [← HL.out.2.1] at hxl
          have hxli : (x : Int) < (xl : Int) := by omega
          obtain ⟨w5, hw5, hr5, ho5, hs5, e1, e2, e3⟩ := row_set5 z5 x (by rw [HR.out.2.1]; exact hxl) (by rw [HR.out.2.1]; exact HR.out.1) (m := xl) HR.out.2.1.symm
          have hv4 : ∀ j, j < 5 → ∃ u, wr.cell? ⟨g, x * 5 + j, none⟩ = some u := by
            have hr' := HR.out.1
            have hl' := HR.out.2.1
            obtain ⟨_, ⟨hq, _⟩ | ⟨g', cap', cur', e, _, hh', hn', _, hsz', _⟩⟩ := hr'
            · cases hq
            · injection e with e1 e2 e3
              injection e1 with e1
              injection e1 with e1
              subst e1
              intro j hj
              have hlt : x * 5 + j < cur'.size := by
                have : xs'.length * 5 ≤ cap' * 5 := Nat.mul_le_mul_right _ hn'
                omega
              exact ⟨cur'[x * 5 + j], by simp [World.cell?, hh', hlt]⟩
          have hf4 : ∀ j, wr.frozen? ⟨g, j, none⟩ = false := by
            have hr' := HR.out.1
            obtain ⟨_, ⟨hq, _⟩ | ⟨g', cap', cur', e, _, hh', _⟩⟩ := hr'
            · cases hq
            · injection e with e1 e2 e3
              injection e1 with e1
              injection e1 with e1
              subst e1
              intro j
              simp [World.frozen?, hh']
          obtain ⟨u0, v0⟩ := hv4 0 (by omega)
          obtain ⟨u1, v1⟩ := hv4 1 (by omega)
          obtain ⟨u2, v2⟩ := hv4 2 (by omega)
          obtain ⟨u3, v3⟩ := hv4 3 (by omega)
          obtain ⟨u4, v4⟩ := hv4 4 (by omega)
          rw [Nat.add_zero] at v0
          have hzv := zeroVar
          have HX := Lib.hid (show (σ.tr.drop 0).take (c + 1) = (σ.tr.drop 0).take c ++ [x] from by
            rw [List.take_add_one, List.getElem?_drop, hx]; rfl)
          have H5 := Lib.hid (And.intro hr5 (And.intro ho5 (And.intro hs5 (And.intro e1 (And.intro e2 e3)))))
          have HW5 := Lib.hid hw5
          have HXL := Lib.hid hxl
          clear hr5 ho5 hs5 e1 e2 e3 hw5 hv4 hx hxc hmc hgb hgg hcd
          go_upto_region 6 with fail
          simp only [z5] at HW5
          rw [← HW5.out]
          clear v0 v1 v2 v3 v4 hf4 HW5 d0 d1 dx
          go_wp2_with fail
          go_roundw
          case rel =>
            refine ⟨c + 1, xs'.set x z5, by simp, by omega, H5.out.1, by rw [List.length_set]; exact HR.out.2.1, ?_, ?_⟩
            · rw [HX.out, frees_snoc]
              exact HR.out.2.2.1.set x z5 none rfl (fun U hU => by cases hU)
            · exact HR.out.2.2.2.trans ⟨H5.out.2.2.2.1, H5.out.2.2.2.2.1, H5.out.2.2.2.2.2, H5.out.2.2.1, H5.out.2.1⟩
          case measure => simp [intOf]; omega
        · have hcD : tl = c := by omega
          subst hcD
          have hbox : wr.heap[b]? = some (.cells #[.slice (some ⟨g, 0, none⟩) xl cp, .slice (some ⟨g2, 0, none⟩) tl cap2] 59 (0, 0)) := by
            rw [HR.out.2.2.2.heap b (fun e => hgb e.symm), HH.out.1.box, HL.out.2.1, HL.out.1]
          have df : ∀ j, wr.frozen? ⟨b, j, none⟩ = false := fun j => by simp [World.frozen?, hbox]
          have HB := Lib.hid hbox
          have hnlt : ¬ (((tl : Nat) : Int) < ((tl : Nat) : Int)) := by omega
          clear hbox hcd hc
          go_wp2_with fail
          refine bodyPost_end (results_none rfl _ _ _) rfl ⟨rfl, .slice (some ⟨g2, 0, none⟩) 0 0, ?_⟩
          exact undo_end (m := 0) HH.out.1 HL.out HH.out.2.2.2.2.1 HH.out.2.2.2.2.2.1 HT2.out HH.out.2.2.2.2.2.2.2 (by omega) HR.out HB.out
    · subst e0
      have hmx : m ≤ cap2 := by omega
      go_enter Try.func17, Try.ntmps17
      go_wp2_with (go_at_call 13; refine hmark.mono ?_; rintro e w2 ⟨rfl, rfl⟩)
      clear hmark hmax
      go_loopw [19] (fun i wr => ∃ (c : Nat) (xs' : List V5), i = .int .i64 c ∧ c ≤ (tl - m) ∧ Hid (RowV wr n₀ (.slice (some ⟨g, 0, none⟩) xl cp) xs' ∧ xs'.length = xl ∧ VOk (Oth w2 b (.slice (some ⟨g, 0, none⟩) xl cp) (.slice (some ⟨g2, 0, none⟩) tl cap2)) w2 xs' (frees σ.vs ((σ.tr.drop m).take c)) ∧ OnlyRow g w2 wr)) (fun i _ => (tl - m) - (intOf i).toNat)
      case atStart => exact ⟨0, xs, rfl, Nat.zero_le _, by rw [HL.out.2.1]; exact HH.out.2.1, HL.out.2.1.symm, by rw [HL.out.2.1, HL.out.1]; exact HH.out.2.2.1, OnlyRow.refl _ _⟩
      case round =>
        obtain ⟨c, xs', rfl, hc, HR⟩ := hrel
        have hgb := HH.out.2.2.2.2.1
        have hgg := HH.out.2.2.2.2.2.1
        have d0 : wr.cell? ⟨b, 0, none⟩ = some (.slice (some ⟨g, 0, none⟩) xl cp) := (HR.out.2.2.2.cell (fun e => hgb e.symm)).trans c0
        have d1 : wr.cell? ⟨b, 1, none⟩ = some (.slice (some ⟨g2, 0, none⟩) tl cap2) := (HR.out.2.2.2.cell (fun e => hgb e.symm)).trans c1
        by_cases hcd : c < (tl - m)
        · have hci : (c : Int) < (((tl - m) : Nat) : Int) := by omega
          have hmc : m + c < σ.tr.length := by rw [← HL.out.1]; omega
          obtain ⟨x, hx, hxl, hxc⟩ := HH.out.2.2.2.1 (m + c) hmc
          have dx : wr.cell? ⟨g2, m + c, none⟩ = some (.int .i64 (x : Int)) := (HR.out.2.2.2.cell (fun e => hgg e.symm)).trans (by simpa using hxc)
          rw [← HL.out.2.1] at hxl
          have hxli : (x : Int) < (xl : Int) := by omega
          obtain ⟨w5, hw5, hr5, ho5, hs5, e1, e2, e3⟩ := row_set5 z5 x (by rw [HR.out.2.1]; exact hxl) (by rw [HR.out.2.1]; exact HR.out.1) (m := xl) HR.out.2.1.symm
          have hv4 : ∀ j, j < 5 → ∃ u, wr.cell? ⟨g, x * 5 + j, none⟩ = some u := by
            have hr' := HR.out.1
            have hl' := HR.out.2.1
            obtain ⟨_, ⟨hq, _⟩ | ⟨g', cap', cur', e, _, hh', hn', _, hsz', _⟩⟩ := hr'
            · cases hq
            · injection e with e1 e2 e3
              injection e1 with e1
              injection e1 with e1
              subst e1
              intro j hj
              have hlt : x * 5 + j < cur'.size := by
                have : xs'.length * 5 ≤ cap' * 5 := Nat.mul_le_mul_right _ hn'
                omega
              exact ⟨cur'[x * 5 + j], by simp [World.cell?, hh', hlt]⟩
          have hf4 : ∀ j, wr.frozen? ⟨g, j, none⟩ = false := by
            have hr' := HR.out.1
            obtain ⟨_, ⟨hq, _⟩ | ⟨g', cap', cur', e, _, hh', _⟩⟩ := hr'
            · cases hq
            · injection e with e1 e2 e3
              injection e1 with e1
              injection e1 with e1
              subst e1
              intro j
              simp [World.frozen?, hh']
          obtain ⟨u0, v0⟩ := hv4 0 (by omega)
          obtain ⟨u1, v1⟩ := hv4 1 (by omega)
          obtain ⟨u2, v2⟩ := hv4 2 (by omega)
          obtain ⟨u3, v3⟩ := hv4 3 (by omega)
          obtain ⟨u4, v4⟩ := hv4 4 (by omega)
          rw [Nat.add_zero] at v0
          have hzv := zeroVar
          have HX := Lib.hid (show (σ.tr.drop m).take (c + 1) = (σ.tr.drop m).take c ++ [x] from by
            rw [List.take_add_one, List.getElem?_drop, hx]; rfl)
          have H5 := Lib.hid (And.intro hr5 (And.intro ho5 (And.intro hs5 (And.intro e1 (And.intro e2 e3)))))
          have HW5 := Lib.hid hw5
          have HXL := Lib.hid hxl
          clear hr5 ho5 hs5 e1 e2 e3 hw5 hv4 hx hxc hmc hgb hgg hcd
          go_upto_region 6 with fail
          simp only [z5] at HW5
          rw [← HW5.out]
          clear v0 v1 v2 v3 v4 hf4 HW5 d0 d1 dx
          go_wp2_with fail
          go_roundw
          case rel =>
            refine ⟨c + 1, xs'.set x z5, by simp, by omega, H5.out.1, by rw [List.length_set]; exact HR.out.2.1, ?_, ?_⟩
            · rw [HX.out, frees_snoc]
              exact HR.out.2.2.1.set x z5 none rfl (fun U hU => by cases hU)
            · exact HR.out.2.2.2.trans ⟨H5.out.2.2.2.1, H5.out.2.2.2.2.1, H5.out.2.2.2.2.2, H5.out.2.2.1, H5.out.2.1⟩
          case measure => simp [intOf]; omega
        · have hcD : (tl - m) = c := by omega
          subst hcD
          have hbox : wr.heap[b]? = some (.cells #[.slice (some ⟨g, 0, none⟩) xl cp, .slice (some ⟨g2, 0, none⟩) tl cap2] 59 (0, 0)) := by
            rw [HR.out.2.2.2.heap b (fun e => hgb e.symm), HH.out.1.box, HL.out.2.1, HL.out.1]
          have df : ∀ j, wr.frozen? ⟨b, j, none⟩ = false := fun j => by simp [World.frozen?, hbox]
          have HB := Lib.hid hbox
          have hnlt : ¬ ((((tl - m) : Nat) : Int) < (((tl - m) : Nat) : Int)) := by omega
          clear hbox hcd hc
          go_wp2_with fail
          refine bodyPost_end (results_none rfl _ _ _) rfl ⟨rfl, .slice (some ⟨g2, 0, none⟩) m m, ?_⟩
          exact undo_end HH.out.1 HL.out HH.out.2.2.2.2.1 HH.out.2.2.2.2.2.1 HT2.out HH.out.2.2.2.2.2.2.2 (by omega) HR.out HB.out
end Go.Proofs.Ytnaopkkdidngoaa
