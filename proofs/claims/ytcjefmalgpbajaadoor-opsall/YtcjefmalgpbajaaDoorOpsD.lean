/-
  The walks of All and of the document's Names.
-/
import Derived.Test.YtcjefmalgpbajaaDoorOpsC
import Derived.OwnWalk
import Derived.Laws.AppendOwnNone
import Derived.Maps.AppendAt
import Derived.Laws.MakeOwn
import Derived.Deep.Heap
namespace Go.Proofs.YtcjefmalgpbajaaDoor
open Go.RowKit Go.Lib
set_option linter.unusedVariables false

theorem op_add_off (b o j : Nat) : (Addr.add ⟨b, o, none⟩ j) = ⟨b, o + j, none⟩ := by
  by_cases e : j = 0
  · subst e; simp [Addr.add]
  · simp [Addr.add, e]
/-- The first rows of the table, flat. -/
def flatO : Nat → List Value
  | 0 => []
  | j + 1 => flatO j ++ [.int .i64 (priN j), .string (tyN j), .string (nmN j)]
theorem flatO_length : ∀ j, (flatO j).length = j * 3
  | 0 => rfl
  | j + 1 => by simp [flatO, flatO_length j]; omega
theorem flatO_get : ∀ (j i : Nat), i < j → (flatO j)[i * 3]? = some (.int .i64 (priN i)) ∧ (flatO j)[i * 3 + 1]? = some (.string (tyN i)) ∧ (flatO j)[i * 3 + 2]? = some (.string (nmN i))
  | 0, i, h => by omega
  | j + 1, i, h => by
    have hl := flatO_length j
    by_cases e : i = j
    · subst e
      simp only [flatO]
      refine ⟨?_, ?_, ?_⟩ <;> rw [List.getElem?_append_right (by omega)] <;> simp [hl]
    · have := flatO_get j i (by omega)
      simp only [flatO]
      refine ⟨?_, ?_, ?_⟩ <;> rw [List.getElem?_append_left (by omega)]
      · exact this.1
      · exact this.2.1
      · exact this.2.2
/-- The first rows of the table in memory, in a slice of one's own. -/
def OwnO (w : World) (base : Nat) (v : Value) (j : Nat) : Prop := w.ownsRow base 33 3 v j (flatO j)
theorem infoOp : (Tryd.prog.info? 33).map (fun i => (i.zero, i.size, i.bytes)) = some (some (.agg #[.int .i64 0, .string (ByteArray.mk #[]), .string (ByteArray.mk #[])]), 3, 40) := by kernel_rfl
theorem OwnO.below {w w' : World} {base : Nat} {v : Value} {j : Nat} (h : OwnO w base v j) (k : Below w.heap.size w w') : OwnO w' base v j := by
  obtain ⟨hl, ⟨h0, h1⟩ | ⟨g, cap, cur, h0, hg, hh, r⟩⟩ := h
  · exact ⟨hl, Or.inl ⟨h0, h1⟩⟩
  · exact ⟨hl, Or.inr ⟨g, cap, cur, h0, hg, by rw [k.block g (Array.getElem?_eq_some_iff.1 hh).1]; exact hh, r⟩⟩
theorem wpList_append_op {w : World} {ops : Array Oper} {rest : List Oper} {o : Oper} {a : Act} {Q : Exit → Act → World → Prop} (hgd : o.guard = none) (s x : Operand)
    (ho : o.op = .call { callee := .builtin .append, args := #[s, x], argTypes := #[28, 28] })
    (base : Nat) (v : Value) (j : Nat) (hs : a.eval s = v) (hown : OwnO w base v j) (B : Nat) (hx : a.eval x = .slice (some ⟨B, 0, none⟩) 1 1)
    (h0 : w.cell? ⟨B, 0, none⟩ = some (.int .i64 (priN j))) (h1 : w.cell? ⟨B, 1, none⟩ = some (.string (tyN j))) (h2 : w.cell? ⟨B, 2, none⟩ = some (.string (nmN j)))
    (hl : j ≤ 100) (hbase : base ≤ w.heap.size)
    (h : ∀ v' w', OwnO w' base v' (j + 1) → w.grownBy w' v.ownBlock → wpList Tryd.prog ops Q rest (a.put o.dst v') w') : wpList Tryd.prog ops Q (o :: rest) a w := by
  obtain ⟨i0, hi, hz0, hz1, hz2⟩ := info_parts infoOp
  refine wpList_append_own _ hgd s x 28 ho base 33 i0 _ 3 40 Tryd.underlying28 hi hz0 hz1 hz2 rfl (by decide) v j (flatO j) hs hown ⟨B, 0, none⟩ 1 1 [.int .i64 (priN j), .string (tyN j), .string (nmN j)] hx rfl (fun k u hk => ?_) ?_ (by unfold maxLen; omega) (by omega) hbase ?_
  · rw [op_add_off, Nat.zero_add]
    match k, hk with
    | 0, hk => cases hk; exact h0
    | 1, hk => cases hk; exact h1
    | 2, hk => cases hk; exact h2
  · intro u hu
    simp only [List.mem_cons, List.not_mem_nil, or_false] at hu
    rcases hu with rfl | rfl | rfl <;> rfl
  · intro v' w' h1 h2 _
    exact h v' w' h1 h2

theorem OwnO.alloc {w : World} {base : Nat} {v : Value} {j : Nat} (h : OwnO w base v j) (o : Obj) : OwnO (w.alloc o) base v j := World.ownsRow.alloc h o
theorem OwnO.lt {w : World} {base : Nat} {v : Value} {j : Nat} (h : OwnO w base v j) : ∀ k, v.ownBlock = some k → base ≤ k := fun k hk => (World.ownsRow.lt h k hk).1
theorem OwnO.form {w : World} {base : Nat} {v : Value} {j : Nat} (h : OwnO w base v j) : ∃ a c, v = .slice a j c := by
  obtain ⟨hl, ⟨rfl, h1⟩ | ⟨g, cap, cur, rfl, hg, hh, h4, h5, h6, h7⟩⟩ := h
  · exact ⟨none, 0, by rw [h1]⟩
  · exact ⟨_, _, rfl⟩
set_option maxRecDepth 100000 in
set_option maxHeartbeats 4000000 in
theorem all_at (w : World) (T : Tab w) : Calls Tryd.prog 13 #[] w fun e w' => ∃ v, e = .returned v ∧ OwnO w' w.heap.size v 26 ∧ Below w.heap.size w w' := by
  obtain ⟨i0, hi, hz0, hz1, hz2⟩ := info_parts infoOp
  obtain ⟨w1, hm, ho1, hg1⟩ := run_make_own (P := Tryd.prog) w w.heap.size 28 33 i0 _ 3 Tryd.underlying28 hi hz0 hz1 .i64 .i64 26 (by rw [hz2]; decide) (by decide) (Nat.le_refl _)
  have hm' : (Instr.makeSlice 28 (.int .i64 0) (.int .i64 26)).run Tryd.prog w = .ok (.slice (some ⟨w.heap.size, 0, none⟩) 0 26) w1 := hm
  have HO1 : Hid (OwnO w1 w.heap.size (.slice (some ⟨w.heap.size, 0, none⟩) 0 26) 0) := Lib.hid ho1
  have hb1 : Below w.heap.size w w1 := (Below.refl w.heap.size w).grown hg1 (Nat.le_refl _) (fun k e => by cases e)
  have HB1 := Lib.hid hb1
  obtain ⟨t, fr, hT⟩ := T.later hb1
  clear hm ho1 hg1 hb1 T hi hz0 hz1 hz2
  go_enter Tryd.func13, Tryd.ntmps13
  go_wp2
  refine wp_load_row 40 (.global 0) rfl 0 rfl t tabCells fr _ hT Tryd.underlying40 rfl (by kernel_rfl) ?_
  clear hT hm'
  go_wp2
  go_loopw [1, 6] (fun v i wr => ∃ (j : Nat) (a : Option Addr) (c : Nat), v = .slice a j c ∧ i = .int .i64 j ∧ j ≤ 26 ∧ OwnO wr w.heap.size (.slice a j c) j ∧ Below w.heap.size w wr) (fun _ i _ => 26 - (intOf i).toNat)
  case atStart => exact ⟨0, _, _, rfl, rfl, by decide, HO1.out, HB1.out⟩
  case round =>
    obtain ⟨j, a, c, rfl, rfl, hj, ho, hb⟩ := hrel
    have HO := Lib.hid ho
    have HB := Lib.hid hb
    clear ho hb HO1 HB1
    by_cases hlt : j < 26
    · have hi := tab_index hlt
      have hlt' : (j : Int) < 26 := by omega
      have HB2 := Lib.hid ((HB.out.alloc HB.out.size (.cells #[.int .i64 (priN j), .string (tyN j), .string (nmN j)] 33)).alloc (Nat.le_trans HB.out.size (by simp)) (.cells #[.int .i64 (priN j), .string (tyN j), .string (nmN j)] 33))
      have HO2 := Lib.hid ((HO.out.alloc (.cells #[.int .i64 (priN j), .string (tyN j), .string (nmN j)] 33)).alloc (.cells #[.int .i64 (priN j), .string (tyN j), .string (nmN j)] 33))
      go_wp2_with (at_builtin; refine wpList_append_op rfl _ _ rfl w.heap.size _ j rfl HO2.out (wr.heap.size + 1) rfl (by rw [World.cell?_alloc_at _ _ _ _ (by simp)]; rfl) (by rw [World.cell?_alloc_at _ _ _ _ (by simp)]; rfl) (by rw [World.cell?_alloc_at _ _ _ _ (by simp)]; rfl) (by omega) (HB2.out.size) ?_; intro v' w' ho' hg'; obtain ⟨a', c', rfl⟩ := ho'.form; have HO3 := Lib.hid ho'; have HB3 := Lib.hid (HB2.out.grown hg' HB2.out.size HO2.out.lt); clear ho' hg')
      go_roundw
      case rel => exact ⟨j + 1, _, _, rfl, by go_num, hlt, HO3.out, HB3.out⟩
      case measure => simp [intOf]; omega
    · obtain rfl : j = 26 := by omega
      go_wp2
      go_ret
      exact ⟨_, rfl, HO.out, HB.out⟩

/-- The cells of a row in the list of all. -/
theorem OwnO.cells {w : World} {base : Nat} {v : Value} {n : Nat} (h : OwnO w base v n) (hn : 0 < n) : ∃ g cap, v = .slice (some ⟨g, 0, none⟩) n cap ∧ g < w.heap.size ∧ n ≤ cap ∧
    ∀ i, i < n → w.cell? ⟨g, i * 3, none⟩ = some (.int .i64 (priN i)) ∧ w.cell? ⟨g, i * 3 + 1, none⟩ = some (.string (tyN i)) ∧ w.cell? ⟨g, i * 3 + 2, none⟩ = some (.string (nmN i)) := by
  obtain ⟨hl, ⟨rfl, h1⟩ | ⟨g, cap, cur, rfl, hg, hh, h4, h5, h6, h7⟩⟩ := h
  · omega
  · refine ⟨g, cap, rfl, (Array.getElem?_eq_some_iff.1 hh).1, h4, fun i hi => ?_⟩
    obtain ⟨g0, g1, g2⟩ := flatO_get n i hi
    have cell : ∀ k, k < n * 3 → w.cell? ⟨g, k, none⟩ = (flatO n)[k]? := fun k hk => by
      have : w.cell? ⟨g, k, none⟩ = cur[k]? := by simp [World.cell?, hh]
      rw [this, ← h7, List.getElem?_take_of_lt hk]
      simp
    exact ⟨by rw [cell _ (by omega)]; exact g0, by rw [cell _ (by omega)]; exact g1, by rw [cell _ (by omega)]; exact g2⟩
def nameCells : Array Value := (table.map fun o => Value.string ⟨o.nm.toArray⟩).toArray
theorem name_cell : ∀ i, i < 26 → nameCells[i]? = some (.string (nmN i)) := by
  intro i hi
  rcases lt26 hi with rfl | rfl | rfl | rfl | rfl | rfl | rfl | rfl | rfl | rfl | rfl | rfl | rfl | rfl | rfl | rfl | rfl | rfl | rfl | rfl | rfl | rfl | rfl | rfl | rfl | rfl <;> rfl
set_option maxRecDepth 100000 in
set_option maxHeartbeats 4000000 in
theorem names_at (w : World) : Calls Tryd.prog 14 #[] w fun e w' => ∃ g, e = .returned (.slice (some ⟨g, 0, none⟩) 26 26) ∧ g < w'.heap.size ∧ (∀ i, i < 26 → w'.cell? ⟨g, i, none⟩ = some (.string (nmN i))) ∧ Below w.heap.size w w' := by
  go_enter Tryd.func14, Tryd.ntmps14
  go_wp2
  go_ret
  refine ⟨w.heap.size, rfl, by simp, fun i hi => ?_, (Below.refl _ w).alloc (Nat.le_refl _) _⟩
  have := name_cell i hi
  rw [World.cell?_alloc_new]
  exact this
/-- .. the row at a place, in whatever later world. -/
structure RowsAt (w : World) (g : Nat) : Prop where
  lt : g < w.heap.size
  row : ∀ i, i < 26 → w.cell? ⟨g, i * 3, none⟩ = some (.int .i64 (priN i)) ∧ w.cell? ⟨g, i * 3 + 1, none⟩ = some (.string (tyN i)) ∧ w.cell? ⟨g, i * 3 + 2, none⟩ = some (.string (nmN i))
theorem RowsAt.later {w W : World} {g : Nat} (h : RowsAt w g) (hb : Below w.heap.size w W) : RowsAt W g :=
  ⟨Nat.lt_of_lt_of_le h.lt hb.size, fun i hi => by
    obtain ⟨a, b, c⟩ := h.row i hi
    exact ⟨(hb.cell (p := ⟨g, i * 3, none⟩) h.lt).trans a, (hb.cell (p := ⟨g, i * 3 + 1, none⟩) h.lt).trans b, (hb.cell (p := ⟨g, i * 3 + 2, none⟩) h.lt).trans c⟩⟩
theorem all_rows (w : World) (T : Tab w) : Calls Tryd.prog 13 #[] w fun e w' => ∃ g cap, e = .returned (.slice (some ⟨g, 0, none⟩) 26 cap) ∧ 26 ≤ cap ∧ RowsAt w' g ∧ Below w.heap.size w w' :=
  (all_at w T).mono fun e w' ⟨v, he, ho, hb⟩ => by
    obtain ⟨g, cap, rfl, hg, hc, hr⟩ := ho.cells (by decide)
    exact ⟨g, cap, he, hc, ⟨hg, hr⟩, hb⟩
end Go.Proofs.YtcjefmalgpbajaaDoor
