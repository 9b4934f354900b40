/-
  The walks of find and greatest.
-/
import Derived.Test.YtfencolokfghfaaGreatDoorOpsG
import Derived.Test.YtfencolokfghfaaGreatDoorProg
import Derived.Laws.Rows
import Derived.WalkKit
import Derived.WalkSpells
import Derived.WalkLawsBesides
import Derived.Deep.QuietTactic
import Derived.BigQuiet
import Derived.Lib.Hide
import Derived.LaidLaws
namespace Go.Proofs.YtfencolokfghfaaGreatDoor
open Go.RowKit Go.Lib
set_option linter.unusedVariables false

/-- The table lies in the package-level variable. -/
def Tab (w : World) : Prop := ∃ t fr, w.heap[5]? = some (.cells tabCells t fr)
theorem Tab.later {w W : World} (h : Tab w) (hb : Below w.heap.size w W) : Tab W := by
  obtain ⟨t, fr, h⟩ := h
  have hlt : 5 < w.heap.size := by
    rcases Nat.lt_or_ge 5 w.heap.size with h' | h'
    · exact h'
    · simp [Array.getElem?_eq_none h'] at h
  exact ⟨t, fr, (hb.block 5 hlt).trans h⟩
theorem tab_load {w : World} (h : Tab w) : (Instr.loadAt 194 (.pointer (some ⟨5, 0, none⟩))).run Tryz.prog w = .ok (.agg tabCells) w := by
  obtain ⟨t, fr, h⟩ := h
  simp only [Instr.loadAt, Instr.sureAddr, Sem.run_bind, Sem.run_pure, Result.andThen_ok]
  exact run_loadVar_row w 5 t 194 tabCells fr _ h Tryz.underlying194 rfl (by kernel_rfl)
theorem tab_index {j : Nat} (h : j < 26) (w : World) : (Instr.index 194 (.agg tabCells) (.int .i64 j)).run Tryz.prog w = .ok (.agg #[.int .i64 (priN j), .string (tyN j), .string (nmN j)]) w := by
  rcases lt26 h with rfl | rfl | rfl | rfl | rfl | rfl | rfl | rfl | rfl | rfl | rfl | rfl | rfl | rfl | rfl | rfl | rfl | rfl | rfl | rfl | rfl | rfl | rfl | rfl | rfl | rfl <;> kernel_rfl

theorem op_alloc_new (w : World) (o : Obj) : (w.alloc o).heap[w.heap.size]? = some o := by
  show (w.heap.push o)[w.heap.size]? = some o
  exact Array.getElem?_push_size
theorem op_set_block {W : World} {B o : Nat} {cur : Array Value} {t : TypeId} {z : Nat × Nat} (h : W.heap[B]? = some (.cells cur t z)) (v : Value) : (W.setCell ⟨B, o, none⟩ v).heap[B]? = some (.cells (cur.setIfInBounds o v) t z) := by
  obtain ⟨hlt, hk⟩ := Array.getElem?_eq_some_iff.1 h
  show (W.heap.modify B _)[B]? = _
  rw [Array.getElem?_eq_getElem (by rw [Array.size_modify]; exact hlt), Array.getElem_modify_self, hk]
  rfl
theorem box3 {w : World} {B : Nat} {a0 a1 a2 : Value} {t : TypeId} (h : w.heap[B]? = some (.cells #[a0, a1, a2] t (0, 0))) :
    w.cell? ⟨B, 0, none⟩ = some a0 ∧ w.cell? ⟨B, 1, none⟩ = some a1 ∧ w.cell? ⟨B, 2, none⟩ = some a2 ∧ ∀ j, w.frozen? ⟨B, j, none⟩ = false := by
  refine ⟨?_, ?_, ?_, fun j => ?_⟩ <;> simp [World.cell?, World.frozen?, h]
/-- A struct of three cells, stored whole. -/
theorem set3 {w w9 : World} {m B : Nat} {a0 a1 a2 : Value} {t : TypeId} (h : w9.heap[B]? = some (.cells #[a0, a1, a2] t (0, 0))) (v0 v1 v2 : Value) (hb : Below m w w9) (hm : m ≤ B) :
    ∃ W, W = ((w9.setCell ⟨B, 0, none⟩ v0).setCell ⟨B, 1, none⟩ v1).setCell ⟨B, 2, none⟩ v2 ∧ W.heap[B]? = some (.cells #[v0, v1, v2] t (0, 0)) ∧ (∀ b, b ≠ B → W.heap[b]? = w9.heap[b]?) ∧ Below m w W :=
  ⟨_, rfl, (op_set_block (o := 2) (op_set_block (o := 1) (op_set_block (o := 0) h v0) v1) v2).trans (by simp), fun b hb => by
    rw [Below.heap_setCell _ ⟨B, 2, none⟩ _ b hb, Below.heap_setCell _ ⟨B, 1, none⟩ _ b hb, Below.heap_setCell _ ⟨B, 0, none⟩ _ b hb],
    Below.setCell (Below.setCell (Below.setCell hb (p := ⟨B, 0, none⟩) hm v0) (p := ⟨B, 1, none⟩) hm v1) (p := ⟨B, 2, none⟩) hm v2⟩

theorem op_beq (a b : ByteArray) : (a.toList == b.toList) = decide (a.data.toList = b.data.toList) := by
  rw [ByteArray.toList_eq, ByteArray.toList_eq, Bool.eq_iff_iff]; simp
theorem ty_size (j : Nat) : (tyN j).size = (rowAt j).ty.length := by simp [tyN, ByteArray.size]
theorem ty_get {j p : Nat} (h : p < (tyN j).size) : (tyN j)[p] = tyC j p := by
  have h' : p < (rowAt j).ty.length := by rw [← ty_size]; exact h
  show ((rowAt j).ty.toArray)[p]'(by simpa using h') = (rowAt j).ty.getD p 0
  simp [List.getD, List.getElem?_eq_getElem h']
theorem ne_int' {c d : UInt8} (h : ¬ c = d) : ((c.toNat : Int) == (d.toNat : Int)) = false := by
  simp only [beq_eq_false_iff_ne, ne_eq]
  intro e
  exact h (UInt8.toNat_inj.1 (by omega))

set_option maxRecDepth 100000 in
set_option maxHeartbeats 4000000 in
theorem find_at (s : ByteArray) (l : List UInt8) (hs : s.data.toList = l) (p : Nat) (hp : p < 2) (w : World) (T : Tab w) :
    Calls Tryz.prog 127 #[.string s, .int .i64 p] w fun e w' => Below w.heap.size w w' ∧
      ((∃ j, j < 26 ∧ hit p l j = true ∧ e = .returned (.tuple #[.agg #[.int .i64 (priN j), .string (tyN j), .string (nmN j)], .bool true])) ∨
       ((∀ i, i < 26 → hit p l i = false) ∧ e = .returned (.tuple #[.agg #[.int .i64 0, .string ⟨#[]⟩, .string ⟨#[]⟩], .bool false]))) := by
  have hb2 : Below w.heap.size w ((w.alloc (.cells #[.int .i64 0, .string ⟨#[]⟩, .string ⟨#[]⟩] 186)).alloc (.cells #[.int .i64 0, .string ⟨#[]⟩, .string ⟨#[]⟩] 186)) := ((Below.refl _ w).alloc (Nat.le_refl _) _).alloc (by simp) _
  have HB2 := Lib.hid hb2
  obtain ⟨t, fr, hT⟩ := T.later hb2
  clear hb2 T
  go_enter Tryz.func127, Tryz.ntmps127
  go_wp2
  go_step3
  go_wp2
  go_step3
  go_wp2
  refine wp_load_row 194 (.global 5) rfl 5 rfl t tabCells fr _ hT Tryz.underlying194 rfl (by kernel_rfl) ?_
  clear hT
  go_wp2
  go_loopw [7, 11] (fun f i wr => ∃ j : Nat, f = .bool false ∧ i = .int .i64 j ∧ j ≤ 26 ∧ (∀ i, i < j → hit p l i = false) ∧ Below w.heap.size w wr ∧ wr.heap[w.heap.size]? = some (.cells #[.int .i64 0, .string ⟨#[]⟩, .string ⟨#[]⟩] 186 (0, 0)) ∧ wr.heap[w.heap.size + 1]? = some (.cells #[.int .i64 0, .string ⟨#[]⟩, .string ⟨#[]⟩] 186 (0, 0))) (fun _ i _ => 26 - (intOf i).toNat)
  case atStart => exact ⟨0, rfl, rfl, by decide, fun i h => absurd h (Nat.not_lt_zero _), HB2.out, (Below.heap_alloc _ _ _ (by simp)).trans (op_alloc_new _ _), by simpa using op_alloc_new (w.alloc (.cells #[.int .i64 0, .string ⟨#[]⟩, .string ⟨#[]⟩] 186)) _⟩
  case round =>
    obtain ⟨j, rfl, rfl, hj, hh, hb, hx, hy⟩ := hrel
    have HH := Lib.hid hh
    have HB := Lib.hid hb
    have HX := Lib.hid hx
    have HY := Lib.hid hy
    clear hh hb HB2
    by_cases hlt : j < 26
    · have hi := tab_index hlt
      have hlt' : (j : Int) < 26 := by omega
      have hsz : p < (tyN j).size := by rw [ty_size]; have := row_facts j hlt; omega
      have hwlt : w.heap.size + 1 < wr.heap.size := (Array.getElem?_eq_some_iff.1 hy).1
      by_cases hn : (rowAt j).nm = l
      · have hq : ((nmN j).toList == s.toList) = true := by rw [op_beq]; simpa [nmN, hs] using hn
        have hg := ty_get hsz
        by_cases hc : tyC j p = 102
        · have hc' : (((tyC j p).toNat : Int) == 102) = true := by rw [hc]; rfl
          have hy' : (wr.alloc (.cells #[.int .i64 (priN j), .string (tyN j), .string (nmN j)] 186)).heap[w.heap.size + 1]? = some (.cells #[.int .i64 0, .string ⟨#[]⟩, .string ⟨#[]⟩] 186 (0, 0)) := (Below.heap_alloc _ _ _ hwlt).trans hy
          have hx' : (wr.alloc (.cells #[.int .i64 (priN j), .string (tyN j), .string (nmN j)] 186)).heap[w.heap.size]? = some (.cells #[.int .i64 0, .string ⟨#[]⟩, .string ⟨#[]⟩] 186 (0, 0)) := (Below.heap_alloc _ _ _ (by omega)).trans hx
          have HX' := Lib.hid hx'
          have HY' := Lib.hid hy'
          obtain ⟨y0, y1, y2, yf⟩ := box3 hy'
          obtain ⟨x0, x1, x2, xf⟩ := box3 hx'
          have HW := Lib.hid hwlt
          clear hx hy hx' hy' hwlt
          go_wp2
          obtain ⟨W1, hW1, hy1, hk1, hB1⟩ := set3 HY'.out (.int .i64 (priN j)) (.string (tyN j)) (.string (nmN j)) (HB.out.alloc HB.out.size _) (Nat.le_succ _)
          rw [← hW1]
          obtain ⟨W2, hW2, hx2, -, hB2⟩ := set3 ((hk1 w.heap.size (by omega)).trans HX'.out) (.int .i64 (priN j)) (.string (tyN j)) (.string (nmN j)) hB1 (Nat.le_refl _)
          rw [← hW2]
          obtain ⟨f0, f1, f2, -⟩ := box3 hx2
          rw [Exit.noGoto_ret]
          exact bodyPost_ret (v := .tuple #[.agg #[.int .i64 (priN j), .string (tyN j), .string (nmN j)], .bool true]) (by simp [results, Tryz.f127, go_sem, f0, f1, f2]) rfl ⟨hB2, Or.inl ⟨j, hlt, by simp [hit, hn, hc], rfl⟩⟩
        · have hc' : (((tyC j p).toNat : Int) == 102) = false := ne_int' hc
          clear hx hy
          go_wp2
          go_roundw
          case rel => exact ⟨j + 1, by trivial, by go_num, hlt, fun i hi => by
            rcases Nat.lt_succ_iff_lt_or_eq.1 hi with h | rfl
            · exact HH.out i h
            · simp [hit, hc], HB.out.alloc HB.out.size _, (Below.heap_alloc _ _ _ (by omega)).trans HX.out, (Below.heap_alloc _ _ _ (by omega)).trans HY.out⟩
          case measure => simp [intOf]; omega
      · have hq : ((nmN j).toList == s.toList) = false := by rw [op_beq]; simpa [nmN, hs] using hn
        clear hx hy
        go_wp2
        go_roundw
        case rel => exact ⟨j + 1, by trivial, by go_num, hlt, fun i hi => by
            rcases Nat.lt_succ_iff_lt_or_eq.1 hi with h | rfl
            · exact HH.out i h
            · simp [hit, hn], HB.out.alloc HB.out.size _, (Below.heap_alloc _ _ _ (by omega)).trans HX.out, (Below.heap_alloc _ _ _ (by omega)).trans HY.out⟩
        case measure => simp [intOf]; omega
    · obtain ⟨y0, y1, y2, yf⟩ := box3 hy
      obtain ⟨x0, x1, x2, xf⟩ := box3 hx
      clear hx hy
      have hlt' : ¬ (j : Int) < 26 := by omega
      go_wp2
      obtain ⟨W2, hW2, hx2, -, hB2⟩ := set3 HX.out (.int .i64 0) (.string ⟨#[]⟩) (.string ⟨#[]⟩) HB.out (Nat.le_refl _)
      rw [← hW2]
      obtain ⟨f0, f1, f2, -⟩ := box3 hx2
      exact bodyPost_ret (v := .tuple #[.agg #[.int .i64 0, .string ⟨#[]⟩, .string ⟨#[]⟩], .bool false]) (by simp [results, Tryz.f127, go_sem, f0, f1, f2]) rfl ⟨hB2, Or.inr ⟨fun i hi => HH.out i (by omega), rfl⟩⟩

theorem pri_le {j : Nat} (h : j < 26) : 1 ≤ priN j ∧ priN j ≤ 1200 := by have := row_facts j h; unfold priN; omega
/-- A call that answers v, and makes memory at most. -/
def Gives (w : World) (v : Value) (e : Ending) (w' : World) : Prop := e = .returned v ∧ Below w.heap.size w w'

set_option maxHeartbeats 1000000 in
theorem greatest_at (j p : Nat) (hj : j < 26) (hp : p < (tyN j).size) (w : World) :
    Calls Tryz.prog 128 #[.agg #[.int .i64 (priN j), .string (tyN j), .string (nmN j)], .int .i64 p] w (Gives w (.int .i64 (grt j p))) := by
  have hg := ty_get hp
  obtain ⟨h1, h2⟩ := pri_le hj
  have hbl : Below w.heap.size w (w.alloc (.cells #[.int .i64 (priN j), .string (tyN j), .string (nmN j)] 186)) := (Below.refl _ w).alloc (Nat.le_refl _) _
  by_cases hc : tyC j p = 120
  · have hc' : (((tyC j p).toNat : Int) == 120) = true := by rw [hc]; rfl
    have hv : grt j p = priN j - 1 := if_pos hc
    rw [hv]
    generalize priN j = z at *
    go_enter Tryz.func128, Tryz.ntmps128
    go_wp2
    go_ret
    exact ⟨rfl, hbl⟩
  · have hc' : (((tyC j p).toNat : Int) == 120) = false := ne_int' hc
    have hv : grt j p = priN j := if_neg hc
    rw [hv]
    generalize priN j = z at *
    go_enter Tryz.func128, Tryz.ntmps128
    go_wp2
    go_ret
    exact ⟨rfl, hbl⟩
end Go.Proofs.YtfencolokfghfaaGreatDoor
