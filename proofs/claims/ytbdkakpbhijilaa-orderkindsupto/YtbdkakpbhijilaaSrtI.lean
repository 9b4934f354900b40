/-
  A row of entries that is filled; order.Sort of a list.
-/
import Derived.Test.YtbdkakpbhijilaaSrtH
namespace Go.Proofs.Ytbdkakpbhijilaa
open Go.Shelf Go.RowKit Go.Lib Go.Sort
set_option linter.unusedVariables false

theorem infoEntry : (Try.prog.info? 59).map (fun i => (i.zero, i.size, i.bytes)) = some (some (.agg #[.int .i64 0, .int .i64 0, .string (ByteArray.mk #[]), .slice none 0 0, .int .i64 0, .int .i64 0, .string (ByteArray.mk #[]), .slice none 0 0]), 8, 112) := by kernel_rfl
abbrev zero8 : Array Value := #[.int .i64 0, .int .i64 0, .string (ByteArray.mk #[]), .slice none 0 0, .int .i64 0, .int .i64 0, .string (ByteArray.mk #[]), .slice none 0 0]
theorem make_entries (n : Nat) (h : n ≤ 1000000000000) (w : World) :
    (Instr.makeSlice 57 (.int .i64 (n : Int)) (.int .i64 (n : Int))).run Try.prog w = .ok (.slice (some ⟨w.heap.size, 0, none⟩) n n) (w.alloc (.cells (madeCells #[.int .i64 0, .int .i64 0, .string (ByteArray.mk #[]), .slice none 0 0, .int .i64 0, .int .i64 0, .string (ByteArray.mk #[]), .slice none 0 0] (n * 8)) 59)) := by
  obtain ⟨i, hi, hz, hs, hb⟩ := info_parts infoEntry
  have hr := run_make (P := Try.prog) w 57 59 i _ Try.underlying57 hi hz .i64 .i64 n n (by omega) (Int.le_refl _) (by rw [hb]; omega) (by omega)
  simp only [Int.toNat_natCast, hs] at hr
  exact hr

/-- The row, its first places filled. -/
structure FillE (w W : World) (B c len : Nat) (ks : List Tm) : Prop where
  row : ∃ cur : Array Value, W.heap[B]? = some (.cells cur 59 (0, 0)) ∧ cur.size = len * 8
  ents : ∀ i t, i < c → ks[i]? = some t → ∃ x : Q8, (∀ j u, x.cells[j]? = some u → W.cell? ⟨B, i * 8 + j, none⟩ = some u) ∧ TmIn (fun b => b < w.heap.size) w x.p.val t ∧ TmIn (fun b => B < b ∧ b < W.heap.size) W x.r.val t.er

theorem FillE.spot {w W : World} {B c len : Nat} {ks : List Tm} (h : FillE w W B c len ks) (i : Nat) (hi : i < len) :
    ∃ u0 u1 u2 u3 u4 u5 u6 u7, W.cell? ⟨B, i * 8, none⟩ = some u0 ∧ W.cell? ⟨B, i * 8 + 1, none⟩ = some u1 ∧ W.cell? ⟨B, i * 8 + 2, none⟩ = some u2 ∧ W.cell? ⟨B, i * 8 + 3, none⟩ = some u3 ∧ W.cell? ⟨B, i * 8 + 4, none⟩ = some u4 ∧ W.cell? ⟨B, i * 8 + 5, none⟩ = some u5 ∧ W.cell? ⟨B, i * 8 + 6, none⟩ = some u6 ∧ W.cell? ⟨B, i * 8 + 7, none⟩ = some u7 ∧ ∀ j, W.frozen? ⟨B, j, none⟩ = false := by
  obtain ⟨cur, h1, h2⟩ := h.row
  have e : ∀ j, j < len * 8 → ∃ u, W.cell? ⟨B, j, none⟩ = some u := fun j hj => ⟨cur[j], by simp [World.cell?, h1, Array.getElem?_eq_getElem (show j < cur.size by omega)]⟩
  obtain ⟨u0, e0⟩ := e (i * 8) (by omega)
  obtain ⟨u1, e1⟩ := e (i * 8 + 1) (by omega)
  obtain ⟨u2, e2⟩ := e (i * 8 + 2) (by omega)
  obtain ⟨u3, e3⟩ := e (i * 8 + 3) (by omega)
  obtain ⟨u4, e4⟩ := e (i * 8 + 4) (by omega)
  obtain ⟨u5, e5⟩ := e (i * 8 + 5) (by omega)
  obtain ⟨u6, e6⟩ := e (i * 8 + 6) (by omega)
  obtain ⟨u7, e7⟩ := e (i * 8 + 7) (by omega)
  exact ⟨u0, u1, u2, u3, u4, u5, u6, u7, e0, e1, e2, e3, e4, e5, e6, e7, fun j => by simp [World.frozen?, h1]⟩
theorem FillE.below {w W W' : World} {B c len : Nat} {ks : List Tm} (h : FillE w W B c len ks) (hb : Below W.heap.size W W') : FillE w W' B c len ks := by
  obtain ⟨cur, h1, h2⟩ := h.row
  have hlt : B < W.heap.size := (Array.getElem?_eq_some_iff.1 h1).1
  refine ⟨⟨cur, (hb.block B hlt).trans h1, h2⟩, fun i t hi ht => ?_⟩
  obtain ⟨x, hc, hT, hE⟩ := h.ents i t hi ht
  exact ⟨x, fun j u hj => (hb.cell (p := ⟨B, _, none⟩) hlt).trans (hc j u hj), hT, hE.carry (fun b hp => hb.block b hp.2) (fun b hp => ⟨hp.1, Nat.lt_of_lt_of_le hp.2 hb.size⟩)⟩

theorem FillE.set {w W : World} {B c len : Nat} {ks : List Tm} (h : FillE w W B c len ks) (hc : c < len) {t : Tm} (ht : ks[c]? = some t) (x : Q8) (hT : TmIn (fun b => b < w.heap.size) w x.p.val t) (hE : TmIn (fun b => B < b ∧ b < W.heap.size) W x.r.val t.er) :
    FillE w ((((((((W.setCell ⟨B, c * 8, none⟩ (.int .i64 x.p.k)).setCell ⟨B, c * 8 + 1, none⟩ (.int .i64 x.p.n)).setCell ⟨B, c * 8 + 2, none⟩ (.string x.p.s)).setCell ⟨B, c * 8 + 3, none⟩ (.slice x.p.a x.p.l x.p.c)).setCell ⟨B, c * 8 + 4, none⟩ (.int .i64 x.r.k)).setCell ⟨B, c * 8 + 5, none⟩ (.int .i64 x.r.n)).setCell ⟨B, c * 8 + 6, none⟩ (.string x.r.s)).setCell ⟨B, c * 8 + 7, none⟩ (.slice x.r.a x.r.l x.r.c)) B (c + 1) len ks := by
  obtain ⟨cur, h1, h2⟩ := h.row
  have e1 := set_block (o := c * 8 + 7) (set_block (o := c * 8 + 6) (set_block (o := c * 8 + 5) (set_block (o := c * 8 + 4) (set_block (o := c * 8 + 3) (set_block (o := c * 8 + 2) (set_block (o := c * 8 + 1) (set_block (o := c * 8) h1 (.int .i64 x.p.k)) (.int .i64 x.p.n)) (.string x.p.s)) (.slice x.p.a x.p.l x.p.c)) (.int .i64 x.r.k)) (.int .i64 x.r.n)) (.string x.r.s)) (.slice x.r.a x.r.l x.r.c)
  have eo : ∀ b, b ≠ B → ((((((((W.setCell ⟨B, c * 8, none⟩ (.int .i64 x.p.k)).setCell ⟨B, c * 8 + 1, none⟩ (.int .i64 x.p.n)).setCell ⟨B, c * 8 + 2, none⟩ (.string x.p.s)).setCell ⟨B, c * 8 + 3, none⟩ (.slice x.p.a x.p.l x.p.c)).setCell ⟨B, c * 8 + 4, none⟩ (.int .i64 x.r.k)).setCell ⟨B, c * 8 + 5, none⟩ (.int .i64 x.r.n)).setCell ⟨B, c * 8 + 6, none⟩ (.string x.r.s)).setCell ⟨B, c * 8 + 7, none⟩ (.slice x.r.a x.r.l x.r.c)).heap[b]? = W.heap[b]? := fun b hb => by
    rw [Below.heap_setCell _ _ _ _ hb, Below.heap_setCell _ _ _ _ hb, Below.heap_setCell _ _ _ _ hb, Below.heap_setCell _ _ _ _ hb, Below.heap_setCell _ _ _ _ hb, Below.heap_setCell _ _ _ _ hb, Below.heap_setCell _ _ _ _ hb, Below.heap_setCell _ _ _ _ hb]
  have es : ((((((((W.setCell ⟨B, c * 8, none⟩ (.int .i64 x.p.k)).setCell ⟨B, c * 8 + 1, none⟩ (.int .i64 x.p.n)).setCell ⟨B, c * 8 + 2, none⟩ (.string x.p.s)).setCell ⟨B, c * 8 + 3, none⟩ (.slice x.p.a x.p.l x.p.c)).setCell ⟨B, c * 8 + 4, none⟩ (.int .i64 x.r.k)).setCell ⟨B, c * 8 + 5, none⟩ (.int .i64 x.r.n)).setCell ⟨B, c * 8 + 6, none⟩ (.string x.r.s)).setCell ⟨B, c * 8 + 7, none⟩ (.slice x.r.a x.r.l x.r.c)).heap.size = W.heap.size := by simp
  generalize ((((((((W.setCell ⟨B, c * 8, none⟩ (.int .i64 x.p.k)).setCell ⟨B, c * 8 + 1, none⟩ (.int .i64 x.p.n)).setCell ⟨B, c * 8 + 2, none⟩ (.string x.p.s)).setCell ⟨B, c * 8 + 3, none⟩ (.slice x.p.a x.p.l x.p.c)).setCell ⟨B, c * 8 + 4, none⟩ (.int .i64 x.r.k)).setCell ⟨B, c * 8 + 5, none⟩ (.int .i64 x.r.n)).setCell ⟨B, c * 8 + 6, none⟩ (.string x.r.s)).setCell ⟨B, c * 8 + 7, none⟩ (.slice x.r.a x.r.l x.r.c)) = W' at e1 eo es ⊢
  have hcarry : ∀ {v : Value} {T : Tm}, TmIn (fun b => B < b ∧ b < W.heap.size) W v T → TmIn (fun b => B < b ∧ b < W'.heap.size) W' v T := fun hh =>
    hh.carry (fun b hb => eo b (by omega)) (fun b hb => ⟨hb.1, by rw [es]; exact hb.2⟩)
  have cell' : ∀ j, W'.cell? ⟨B, j, none⟩ = ((((((((cur.setIfInBounds (c * 8) (.int .i64 x.p.k)).setIfInBounds (c * 8 + 1) (.int .i64 x.p.n)).setIfInBounds (c * 8 + 2) (.string x.p.s)).setIfInBounds (c * 8 + 3) (.slice x.p.a x.p.l x.p.c)).setIfInBounds (c * 8 + 4) (.int .i64 x.r.k)).setIfInBounds (c * 8 + 5) (.int .i64 x.r.n)).setIfInBounds (c * 8 + 6) (.string x.r.s)).setIfInBounds (c * 8 + 7) (.slice x.r.a x.r.l x.r.c))[j]? := fun j => by simp [World.cell?, e1]
  have cell0 : ∀ j, W.cell? ⟨B, j, none⟩ = cur[j]? := fun j => by simp [World.cell?, h1]
  refine ⟨⟨_, e1, by simp [h2]⟩, fun i u hi hu => ?_⟩
  by_cases hic : i = c
  · subst hic
    rw [ht] at hu
    cases hu
    refine ⟨x, fun j u hu => ?_, hT, hcarry hE⟩
    have hj8 : j < 8 := by have := (List.getElem?_eq_some_iff.1 hu).1; rw [Q8.cells_length] at this; exact this
    rcases (by omega : j = 0 ∨ j = 1 ∨ j = 2 ∨ j = 3 ∨ j = 4 ∨ j = 5 ∨ j = 6 ∨ j = 7) with rfl | rfl | rfl | rfl | rfl | rfl | rfl | rfl
    · cases hu; rw [Nat.add_zero, cell', Array.getElem?_setIfInBounds_ne (by omega), Array.getElem?_setIfInBounds_ne (by omega), Array.getElem?_setIfInBounds_ne (by omega), Array.getElem?_setIfInBounds_ne (by omega), Array.getElem?_setIfInBounds_ne (by omega), Array.getElem?_setIfInBounds_ne (by omega), Array.getElem?_setIfInBounds_ne (by omega), Array.getElem?_setIfInBounds_self_of_lt (by omega)]
    · cases hu; rw [cell', Array.getElem?_setIfInBounds_ne (by omega), Array.getElem?_setIfInBounds_ne (by omega), Array.getElem?_setIfInBounds_ne (by omega), Array.getElem?_setIfInBounds_ne (by omega), Array.getElem?_setIfInBounds_ne (by omega), Array.getElem?_setIfInBounds_ne (by omega), Array.getElem?_setIfInBounds_self_of_lt (by simp; omega)]
    · cases hu; rw [cell', Array.getElem?_setIfInBounds_ne (by omega), Array.getElem?_setIfInBounds_ne (by omega), Array.getElem?_setIfInBounds_ne (by omega), Array.getElem?_setIfInBounds_ne (by omega), Array.getElem?_setIfInBounds_ne (by omega), Array.getElem?_setIfInBounds_self_of_lt (by simp; omega)]
    · cases hu; rw [cell', Array.getElem?_setIfInBounds_ne (by omega), Array.getElem?_setIfInBounds_ne (by omega), Array.getElem?_setIfInBounds_ne (by omega), Array.getElem?_setIfInBounds_ne (by omega), Array.getElem?_setIfInBounds_self_of_lt (by simp; omega)]
    · cases hu; rw [cell', Array.getElem?_setIfInBounds_ne (by omega), Array.getElem?_setIfInBounds_ne (by omega), Array.getElem?_setIfInBounds_ne (by omega), Array.getElem?_setIfInBounds_self_of_lt (by simp; omega)]
    · cases hu; rw [cell', Array.getElem?_setIfInBounds_ne (by omega), Array.getElem?_setIfInBounds_ne (by omega), Array.getElem?_setIfInBounds_self_of_lt (by simp; omega)]
    · cases hu; rw [cell', Array.getElem?_setIfInBounds_ne (by omega), Array.getElem?_setIfInBounds_self_of_lt (by simp; omega)]
    · cases hu; rw [cell', Array.getElem?_setIfInBounds_self_of_lt (by simp; omega)]
  · obtain ⟨y, hc', hT', hE'⟩ := h.ents i u (by omega) hu
    have other : ∀ j, j < c * 8 → W'.cell? ⟨B, j, none⟩ = W.cell? ⟨B, j, none⟩ := fun j hj => by
      rw [cell', cell0, Array.getElem?_setIfInBounds_ne (by omega), Array.getElem?_setIfInBounds_ne (by omega), Array.getElem?_setIfInBounds_ne (by omega), Array.getElem?_setIfInBounds_ne (by omega), Array.getElem?_setIfInBounds_ne (by omega), Array.getElem?_setIfInBounds_ne (by omega), Array.getElem?_setIfInBounds_ne (by omega), Array.getElem?_setIfInBounds_ne (by omega)]
    refine ⟨y, fun j u hj => ?_, hT', hcarry hE'⟩
    have hj8 : j < 8 := by have := (List.getElem?_eq_some_iff.1 hj).1; rw [Q8.cells_length] at this; exact this
    rw [other _ (by omega)]; exact hc' j u hj
end Go.Proofs.Ytbdkakpbhijilaa
