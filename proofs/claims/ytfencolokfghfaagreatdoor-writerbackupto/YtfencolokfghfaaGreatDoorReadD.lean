/-
  variable: the number of a variable, by its name.
-/
import Derived.Test.YtfencolokfghfaaGreatDoorReadB
import Derived.Maps.OwnOps
import Derived.OwnWalk
import Derived.StringKeys
import Derived.Maps.AppendAt
namespace Go.Proofs.YtfencolokfghfaaGreatDoor
open Go.RowKit Go.Maps
set_option linter.unusedVariables false
set_option linter.unusedSectionVars false

theorem keyedS : Maps.Keyed Tryz.prog 9 := Maps.string_keyed Tryz.underlying9
theorem zeroI (w : World) : (zeroValue 3).run Tryz.prog w = .ok (.int .i64 0) w := by kernel_rfl
theorem infoStr : (Tryz.prog.info? 9).map (fun i => (i.zero, i.size, i.bytes)) = some (some (.string (ByteArray.mk #[])), 1, 16) := by kernel_rfl
theorem strV_len (l : List UInt8) : (strV l).size = l.length := by
  rw [show (strV l).size = (strV l).data.toList.length from rfl, strV_list]
theorem keyS (l : List UInt8) (h : l.length ≤ 4096) : keyOf Tryz.prog 9 (.string (strV l)) = some (.string l) := by
  rw [WideMaps.keyOf_string_mk Tryz.underlying9 (by rw [strV_len]; unfold maxLen; omega), strV_list]
theorem NamesIn.snoc {D : DataW Unit} {ns : Nms} (hD : Maps.IsMap D) (h : NamesIn D ns) {s : List UInt8} (hs : ¬ (s ∈ ns ∧ s ≠ [95])) : NamesIn (D.put (.string s) (.lit (.int .i64 ns.length))) (ns ++ [s]) := by
  intro t
  by_cases e : t = s
  · subst e
    refine ⟨by rw [Maps.has_put_same hD (show WideAt.IsKeyLit (.string t) from trivial)]; simp, fun _ hne => ?_⟩
    rw [Maps.atKey_put_same hD (show WideAt.IsKeyLit (.string t) from trivial)]
    have hn : t ∉ ns := fun hm => hs ⟨hm, hne⟩
    rw [List.idxOf_append, if_neg hn]
    simp
  · have hne : (Lit.string t) ≠ .string s := fun hh => e (by injection hh)
    obtain ⟨h1, h2⟩ := h t
    refine ⟨by rw [Maps.has_put_other hne, h1]; simp [e], fun hm h9 => ?_⟩
    have hm' : t ∈ ns := by simpa [e] using hm
    rw [Maps.atKey_put_other hne, h2 hm' h9, List.idxOf_append, if_pos hm']

section
variable (c : Cx) (hc : c.Ok) {W : World} {na : Option Addr} {nc i d : Nat} {ns : Nms} (h : PAt c W na nc i d ns)
include hc h
set_option maxRecDepth 100000 in
set_option maxHeartbeats 2000000 in
theorem variable_old (hk : (ahd c.L i).kind = 2) (hm : (ahd c.L i).s ∈ ns ∧ (ahd c.L i).s ≠ [95]) : Calls Tryz.prog 102 #[.pointer (some ⟨c.b, 0, none⟩)] W (TPost c W na d (.mk 1 (ns.idxOf (ahd c.L i).s) empB []) (i + 1) ns) := by
  have hi : i < c.L.length := ahd_lt (by rw [hk]; decide)
  clear hk
  have hlen := hc.len
  have hnl := h.nle
  have hii : (i : Int) < 4096 := by omega
  have hsl : (ahd c.L i).s.length ≤ 4096 := (hc.tok _ (by unfold ahd; rw [List.getD_eq_getElem?_getD, List.getElem?_eq_getElem hi]; exact List.getElem_mem hi)).2
  have hix : ns.idxOf (ahd c.L i).s < ns.length := List.idxOf_lt_length_of_mem hm.1
  obtain ⟨W1, hW1⟩ : ∃ W1, W1 = W.alloc (.cells #[.int .i64 0, .int .i64 0, .string (ByteArray.mk #[]), .slice none 0 0] 24) := ⟨_, rfl⟩
  obtain ⟨h1, s1, x1, f1⟩ := h.fresh hc #[.int .i64 0, .int .i64 0, .string (ByteArray.mk #[]), .slice none 0 0] 24
  rw [← hW1] at h1 s1 x1 f1
  have ha := ahead_at c hc h1 0 (by omega)
  rw [Nat.add_zero] at ha
  have hz := zeroTerm
  have hf1 := field1
  have hlet := fun w => let_at (ns.idxOf (ahd c.L i).s : Nat) w ⟨by omega, by omega⟩
  have hE : ((strV (ahd c.L i).s).toList == [95]) = false := by rw [ByteArray.toList_eq, strV_list]; simpa using hm.2
  have hnot : ∀ (x : Bool) (w : World), (Op.unary .not (.bool x)).run Tryz.prog w = .ok (.bool (!x)) w := fun _ _ => rfl
  go_enter Tryz.func102, Tryz.ntmps102
  go_wp2_with (first
    | (rw [← hW1]; go_at_call 67; refine ha.mono ?_; rintro e W2 ⟨rfl, hb2⟩; have h2 := h1.later hc hb2; have h3 := step_at c hc h2 hi; obtain ⟨c0, c1, c2, c3, c4, c5, cf⟩ := h2.cells; obtain ⟨b0, b1, b2, b3, b4, b5, bf⟩ := h3.1.cells; obtain ⟨D, hown, hD, hnm⟩ := h3.1.map)
    | (at_lookup; refine wpList_lookup_own_ok_int _ rfl _ _ 92 rfl 9 3 .i64 keyedS Tryz.underlying92 Tryz.underlying3 (zeroI _) c.m ns.length D rfl hown _ _ rfl (keyS _ hsl) ?_; intro c' hat hwc; rw [(hnm _).2 hm.1 hm.2] at hat; injection hat with hat; injection hat with _ hat; subst hat; rw [(hnm _).1, decide_eq_true hm.1])
    | (go_at_call 15; refine (hlet _).mono ?_; rintro e W4 h4; obtain ⟨k, n, s, a, l, cp, rfl, hT, hb4⟩ := h4.form4; have h5 := h3.1.later hc hb4; have f5 := ((Fr.below (c := c) (na := na) hb2).trans h3.2).trans (Fr.below hb4); obtain ⟨s5, x5, z0, z1, z2, z3, zf⟩ := f5.box s1 x1))
  obtain ⟨Z, hZ, hzb, hP, hF, hkp, hsz⟩ := h5.box4 hc h (f1.trans f5) (Nat.le_refl _) s5 x5 (.int .i64 k) (.int .i64 n) (.string s) (.slice a l cp)
  obtain ⟨y0, y1, y2, y3⟩ := tbox_cells hzb
  rw [← hZ]
  refine bodyPost_ret (v := .agg #[.int .i64 k, .int .i64 n, .string s, .slice a l cp]) (by simp [results, Tryz.f102, go_sem, y0, y1, y2, y3]) rfl ?_
  have e3 : W.heap.size < (W2.setCell ⟨c.b, 1, none⟩ (.int .i64 ((i : Int) + 1))).heap.size := Nat.lt_of_lt_of_le s1.1 (Nat.le_trans hb2.size h3.2.size)
  exact ⟨na, nc, k, n, s, a, l, cp, rfl, hP, hF, tm_box (new_tm c hc h3.1 hb4.size hT) e3 (Nat.le_of_lt e3) hkp hsz⟩
omit hc h in
theorem owns_grown {w w' : World} {base : Nat} {e : TypeId} {size : Nat} {v : Value} {n : Nat} {xs : List Value} {row : Option Nat} (h : w.ownsRow base e size v n xs) (k : w.grownBy w' row) (hne : ∀ g, v.ownBlock = some g → some g ≠ row) : w'.ownsRow base e size v n xs := by
  obtain ⟨hl, ⟨h0, h1⟩ | ⟨g, cap, cur, h0, hg, h3, r⟩⟩ := h
  · exact ⟨hl, Or.inl ⟨h0, h1⟩⟩
  · exact ⟨hl, Or.inr ⟨g, cap, cur, h0, hg, (k.block g (Array.getElem?_eq_some_iff.1 h3).1 (hne g (by rw [h0]; rfl))).trans h3, r⟩⟩
/-- A name more: the map, the list of names, the parser's field. -/
theorem names_more {W3 W5 : World} {D : DataW Unit} {s : List UInt8} {cs : Array Value} {t : TypeId} {v' : Value} {xs' : List Value} (hs : ¬ (s ∈ ns ∧ s ≠ [95])) (hi : ns.length < i)
    (hD : Maps.IsMap D) (hnm : NamesIn D ns)
    (hmap : W3.ownsMap Tryz.prog 9 (plainElem Tryz.prog 3) c.m (ns.length + 1) (D.put (.string s) (.lit (.int .i64 ns.length)))) (hg3 : W.grownBy W3 (some c.m))
    (how : W5.ownsRow c.w0.heap.size 9 1 v' (ns.length + 1) xs') (hg5 : (W3.alloc (.cells cs t)).grownBy W5 (Value.slice na ns.length nc).ownBlock) (hloc : v'.ownBlock = (Value.slice na ns.length nc).ownBlock ∨ v'.ownBlock = some (W3.alloc (.cells cs t)).heap.size) :
    ∃ na' nc', v' = .slice na' (ns.length + 1) nc' ∧ PAt c (W5.setCell ⟨c.b, 5, none⟩ v') na' nc' i d (ns ++ [s]) ∧ Fr c W na (W5.setCell ⟨c.b, 5, none⟩ v') na' ∧ W5.cell? ⟨c.b, 5, none⟩ = some (.slice na ns.length nc) ∧ (∀ j, W5.frozen? ⟨c.b, j, none⟩ = false) := by
  obtain ⟨g1, g2, g3⟩ := h.form hc
  have key : ∀ k, k < W.heap.size → k ≠ c.m → (∀ a, na = some a → a.block ≠ k) → W5.heap[k]? = W.heap[k]? := fun k hk hm ha => by
    have e1 := hg3.block k hk (fun e => hm (by injection e))
    have e2 : (W3.alloc (.cells cs t)).heap[k]? = W3.heap[k]? := Below.heap_alloc _ _ _ (Nat.lt_of_lt_of_le hk hg3.size)
    have e3 := hg5.block k (by have := hg3.size; simp; omega) (fun e => by
      cases na with
      | none => simp [Value.ownBlock] at e
      | some a => simp [Value.ownBlock] at e; exact ha a rfl e.symm)
    rw [e3, e2, e1]
  have hbox := (key c.b g2 hc.ne (fun a ha => (g1 a ha).1)).trans h.box
  have hsz : W.heap.size ≤ W5.heap.size := by have := hg3.size; have := hg5.size; simp at this; omega
  have hmm : W5.heap[c.m]? = W3.heap[c.m]? := by
    have h3 : c.m < W3.heap.size := Nat.lt_of_lt_of_le g3 hg3.size
    refine (hg5.block c.m (by simp; omega) (fun e => ?_)).trans (Below.heap_alloc _ _ _ h3)
    cases na with
    | none => simp [Value.ownBlock] at e
    | some a => simp [Value.ownBlock] at e; exact (g1 a rfl).2.1 e.symm
  have hform : ∃ na' nc', v' = .slice na' (ns.length + 1) nc' := by
    obtain ⟨-, ⟨e, e2⟩ | ⟨g, cap, cur, e, -⟩⟩ := how
    · omega
    · exact ⟨_, _, e⟩
  obtain ⟨na', nc', rfl⟩ := hform
  have hb5 : ∀ k, k ≠ c.b → (W5.setCell ⟨c.b, 5, none⟩ (.slice na' (ns.length + 1) nc')).heap[k]? = W5.heap[k]? := fun k hk => Below.heap_setCell _ ⟨c.b, 5, none⟩ _ _ (fun e => hk e)
  have hna : ∀ a, na' = some a → (∃ a0, na = some a0 ∧ a.block = a0.block) ∨ W.heap.size < a.block := fun a ha => by
    subst ha
    rcases hloc with e | e
    · cases na with
      | none => simp [Value.ownBlock] at e
      | some a0 => exact .inl ⟨a0, rfl, by simpa [Value.ownBlock] using e⟩
    · right
      simp [Value.ownBlock] at e
      have := hg3.size; omega
  have hneb : ∀ a, na' = some a → a.block ≠ c.b := fun a ha => by
    rcases hna a ha with ⟨a0, e1, e2⟩ | e
    · rw [e2]; exact (g1 a0 e1).1
    · omega
  refine ⟨na', nc', rfl, ⟨?_, ?_, ?_, ?_, h.le, by simp; omega, h.dle⟩, ⟨by simpa using hsz, fun j hj => ?_⟩, by simp [World.cell?, hbox], fun j => by simp [World.frozen?, hbox]⟩
  · have hl : Below c.w0.heap.size c.w0 W5 := by
      have hw0 := h.bel.size
      refine ⟨hg5.os.trans (hg3.os.trans h.bel.os), hg5.tape.trans (hg3.tape.trans h.bel.tape), hg5.output.trans (hg3.output.trans h.bel.output), Nat.le_trans h.bel.size hsz, fun k hk => ?_⟩
      have h9 := hc.hm
      exact (key k (by omega) (by omega) (fun a ha => by have := (g1 a ha).2.2.1; omega)).trans (h.bel.block k hk)
    exact hl.setCell (p := ⟨c.b, 5, none⟩) hc.hb _
  · rw [heap_setCell_same _ _ _ _ _ _ hbox]; simp
  · obtain ⟨es, ck, q1, q2, q3, q4⟩ := hmap
    exact ⟨_, ⟨es, ck, (hb5 _ (Ne.symm hc.ne)).trans (hmm.trans q1), q2, by simpa using q3, q4⟩, hD.put _ _, hnm.snoc hD hs⟩
  · refine ⟨xs', ?_⟩
    obtain ⟨p1, ⟨e, e2⟩ | ⟨g, cap, cur, e, p2, p3, p4⟩⟩ := how
    · omega
    · cases e
      exact ⟨by simpa using p1, .inr ⟨g, nc', cur, by simp, p2, (hb5 _ (hneb _ rfl)).trans p3, by simpa using p4⟩⟩
  · obtain ⟨j1, j2, j3, j4⟩ := hj
    refine ⟨(hb5 j j2).trans (key j j1 j3 j4), by simp; omega, j2, j3, fun a ha => ?_⟩
    rcases hna a ha with ⟨a0, e1, e2⟩ | e
    · rw [e2]; exact j4 a0 e1
    · omega
set_option maxRecDepth 100000 in
set_option maxHeartbeats 4000000 in
theorem variable_new (hk : (ahd c.L i).kind = 2) (hm : ¬ ((ahd c.L i).s ∈ ns ∧ (ahd c.L i).s ≠ [95])) : Calls Tryz.prog 102 #[.pointer (some ⟨c.b, 0, none⟩)] W (TPost c W na d (.mk 1 ns.length empB []) (i + 1) (ns ++ [(ahd c.L i).s])) := by
  have hi : i < c.L.length := ahd_lt (by rw [hk]; decide)
  clear hk
  have hlen := hc.len
  have hnl := h.nle
  have hii : (i : Int) < 4096 := by omega
  have hsl : (ahd c.L i).s.length ≤ 4096 := (hc.tok _ (by unfold ahd; rw [List.getD_eq_getElem?_getD, List.getElem?_eq_getElem hi]; exact List.getElem_mem hi)).2
  obtain ⟨W1, hW1⟩ : ∃ W1, W1 = W.alloc (.cells #[.int .i64 0, .int .i64 0, .string (ByteArray.mk #[]), .slice none 0 0] 24) := ⟨_, rfl⟩
  obtain ⟨h1, s1, x1, f1⟩ := h.fresh hc #[.int .i64 0, .int .i64 0, .string (ByteArray.mk #[]), .slice none 0 0] 24
  rw [← hW1] at h1 s1 x1 f1
  have ha := ahead_at c hc h1 0 (by omega)
  rw [Nat.add_zero] at ha
  have hz := zeroTerm
  have hf1 := field1
  have hlet := fun w => let_at (ns.length : Nat) w ⟨by omega, by omega⟩
  have hnot : ∀ (x : Bool) (w : World), (Op.unary .not (.bool x)).run Tryz.prog w = .ok (.bool (!x)) w := fun _ _ => rfl
  generalize (ahd c.L i).s = sn at *
  obtain ⟨i0, hi0, hz0, hz1, hz2⟩ := info_parts infoStr
  have hnn : (Lit.int .i64 (ns.length : Nat)).wf = true := WalkArith.wf_i64 (by omega)
  go_enter Tryz.func102, Tryz.ntmps102
  by_cases hin : sn ∈ ns
  · obtain rfl : sn = [95] := Decidable.byContradiction fun e => hm ⟨hin, e⟩
    have hE : ((strV [95]).toList == [95]) = true := by rw [ByteArray.toList_eq, strV_list]; rfl
    go_wp2_with (first
      | (rw [← hW1]; go_at_call 67; refine ha.mono ?_; rintro e W2 ⟨rfl, hb2⟩; have h2 := h1.later hc hb2; have h3 := step_at c hc h2 hi; obtain ⟨c0, c1, c2, c3, c4, c5, cf⟩ := h2.cells; obtain ⟨b0, b1, b2, b3, b4, b5, bf⟩ := h3.1.cells; obtain ⟨D, hown, hD, hnm⟩ := h3.1.map; obtain ⟨xs, hox⟩ := h3.1.own; obtain ⟨g1, g2, g3⟩ := h3.1.form hc)
      | (at_lookup; refine wpList_lookup_own_ok_int _ rfl _ _ 92 rfl 9 3 .i64 keyedS Tryz.underlying92 Tryz.underlying3 (zeroI _) c.m ns.length D rfl hown _ _ rfl (keyS _ hsl) ?_; intro c' hat hwc; rw [(hnm _).1, decide_eq_true hin])
      | (at_mapUpdate; refine wpList_mapUpdate_own _ rfl _ _ _ 92 rfl 9 3 keyedS Tryz.underlying92 _ c.m ns.length _ rfl hown (by unfold maxLen; omega) _ _ _ rfl rfl (keyS _ hsl) _ [] (plainElem_int Tryz.underlying3 hnn) ?_; intro W4 hown4 hg4; have q4 := (hg4.block c.b g2 (fun e => hc.ne (by injection e))).trans h3.1.box; have q5 : W4.cell? ⟨c.b, 5, none⟩ = some (.slice na ns.length nc) := (by simp [World.cell?, q4]); have hox4 := owns_grown hox hg4 (fun g hg e => by cases na with | none => simp [Value.ownBlock] at hg | some a => (simp [Value.ownBlock] at hg; injection e with e; exact (g1 a rfl).2.1 (hg.trans e))))
      | (at_builtin; refine wpList_append_own_at _ rfl _ _ 41 rfl c.w0.heap.size 9 i0 (.string (ByteArray.mk #[])) 1 16 Tryz.underlying41 hi0 hz0 hz1 hz2 rfl (by decide) _ _ _ rfl (hox4.alloc _) ⟨W4.heap.size, 0, none⟩ 1 1 [.string (strV _)] rfl rfl (cell_one_new _ _ _) (by simp [Value.oneCell']) (by unfold maxLen; omega) (by omega) (by have := h3.1.bel.size; have := hg4.size; simp; omega) ?_; intro v5 W5 how5 hg5 hnil5 hloc5; obtain ⟨na', nc', rfl, h6, f6, q6, q7⟩ := names_more c hc h3.1 hm (by omega) hD hnm hown4 hg4 how5 hg5 hloc5)
      | (go_at_call 15; refine (hlet _).mono ?_; rintro e W7 h7; obtain ⟨k, n, s, a, l, cp, rfl, hT, hb7⟩ := h7.form4; have h8 := h6.later hc hb7; have f8 := (((Fr.below (c := c) (na := na) hb2).trans h3.2).trans f6).trans (Fr.below hb7); obtain ⟨s8, x8, z0, z1, z2, z3, zf⟩ := f8.box s1 x1))
    obtain ⟨Z, hZ, hzb, hP, hF, hkp, hsz⟩ := h8.box4 hc h (f1.trans f8) (Nat.le_refl _) s8 x8 (.int .i64 k) (.int .i64 n) (.string s) (.slice a l cp)
    obtain ⟨y0, y1, y2, y3⟩ := tbox_cells hzb
    rw [← hZ]
    refine bodyPost_ret (v := .agg #[.int .i64 k, .int .i64 n, .string s, .slice a l cp]) (by simp [results, Tryz.f102, go_sem, y0, y1, y2, y3]) rfl ?_
    have e3 := Nat.lt_of_lt_of_le s1.1 (Nat.le_trans hb2.size (Nat.le_trans h3.2.size f6.size))
    exact ⟨na', nc', k, n, s, a, l, cp, rfl, hP, hF, tm_box (new_tm c hc h6 hb7.size hT) e3 (Nat.le_of_lt e3) hkp hsz⟩
  · go_wp2_with (first
      | (rw [← hW1]; go_at_call 67; refine ha.mono ?_; rintro e W2 ⟨rfl, hb2⟩; have h2 := h1.later hc hb2; have h3 := step_at c hc h2 hi; obtain ⟨c0, c1, c2, c3, c4, c5, cf⟩ := h2.cells; obtain ⟨b0, b1, b2, b3, b4, b5, bf⟩ := h3.1.cells; obtain ⟨D, hown, hD, hnm⟩ := h3.1.map; obtain ⟨xs, hox⟩ := h3.1.own; obtain ⟨g1, g2, g3⟩ := h3.1.form hc)
      | (at_lookup; refine wpList_lookup_own_ok_int _ rfl _ _ 92 rfl 9 3 .i64 keyedS Tryz.underlying92 Tryz.underlying3 (zeroI _) c.m ns.length D rfl hown _ _ rfl (keyS _ hsl) ?_; intro c' hat hwc; rw [(hnm _).1, decide_eq_false hin])
      | (at_mapUpdate; refine wpList_mapUpdate_own _ rfl _ _ _ 92 rfl 9 3 keyedS Tryz.underlying92 _ c.m ns.length _ rfl hown (by unfold maxLen; omega) _ _ _ rfl rfl (keyS _ hsl) _ [] (plainElem_int Tryz.underlying3 hnn) ?_; intro W4 hown4 hg4; have q4 := (hg4.block c.b g2 (fun e => hc.ne (by injection e))).trans h3.1.box; have q5 : W4.cell? ⟨c.b, 5, none⟩ = some (.slice na ns.length nc) := (by simp [World.cell?, q4]); have hox4 := owns_grown hox hg4 (fun g hg e => by cases na with | none => simp [Value.ownBlock] at hg | some a => (simp [Value.ownBlock] at hg; injection e with e; exact (g1 a rfl).2.1 (hg.trans e))))
      | (at_builtin; refine wpList_append_own_at _ rfl _ _ 41 rfl c.w0.heap.size 9 i0 (.string (ByteArray.mk #[])) 1 16 Tryz.underlying41 hi0 hz0 hz1 hz2 rfl (by decide) _ _ _ rfl (hox4.alloc _) ⟨W4.heap.size, 0, none⟩ 1 1 [.string (strV _)] rfl rfl (cell_one_new _ _ _) (by simp [Value.oneCell']) (by unfold maxLen; omega) (by omega) (by have := h3.1.bel.size; have := hg4.size; simp; omega) ?_; intro v5 W5 how5 hg5 hnil5 hloc5; obtain ⟨na', nc', rfl, h6, f6, q6, q7⟩ := names_more c hc h3.1 hm (by omega) hD hnm hown4 hg4 how5 hg5 hloc5)
      | (go_at_call 15; refine (hlet _).mono ?_; rintro e W7 h7; obtain ⟨k, n, s, a, l, cp, rfl, hT, hb7⟩ := h7.form4; have h8 := h6.later hc hb7; have f8 := (((Fr.below (c := c) (na := na) hb2).trans h3.2).trans f6).trans (Fr.below hb7); obtain ⟨s8, x8, z0, z1, z2, z3, zf⟩ := f8.box s1 x1))
    obtain ⟨Z, hZ, hzb, hP, hF, hkp, hsz⟩ := h8.box4 hc h (f1.trans f8) (Nat.le_refl _) s8 x8 (.int .i64 k) (.int .i64 n) (.string s) (.slice a l cp)
    obtain ⟨y0, y1, y2, y3⟩ := tbox_cells hzb
    rw [← hZ]
    refine bodyPost_ret (v := .agg #[.int .i64 k, .int .i64 n, .string s, .slice a l cp]) (by simp [results, Tryz.f102, go_sem, y0, y1, y2, y3]) rfl ?_
    have e3 := Nat.lt_of_lt_of_le s1.1 (Nat.le_trans hb2.size (Nat.le_trans h3.2.size f6.size))
    exact ⟨na', nc', k, n, s, a, l, cp, rfl, hP, hF, tm_box (new_tm c hc h6 hb7.size hT) e3 (Nat.le_of_lt e3) hkp hsz⟩
theorem variable_at (hk : (ahd c.L i).kind = 2) : Calls Tryz.prog 102 #[.pointer (some ⟨c.b, 0, none⟩)] W (OPost c W na d (varG c.L i ns)) := by
  unfold varG
  by_cases hm : (ahd c.L i).s ∈ ns ∧ (ahd c.L i).s ≠ [95]
  · rw [if_pos hm]; exact variable_old c hc h hk hm
  · rw [if_neg hm]; exact variable_new c hc h hk hm
end
end Go.Proofs.YtfencolokfghfaaGreatDoor
