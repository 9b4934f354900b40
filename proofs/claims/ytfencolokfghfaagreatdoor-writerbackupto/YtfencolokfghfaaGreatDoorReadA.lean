/-
  The parser in memory: what its blocks hold while tokens are read; the small functions: fail, enter, leave, ahead, isPunct, isBare, take, need.
-/
import Derived.Test.YtfencolokfghfaaGreatDoorReadG
import Derived.Test.YtfencolokfghfaaGreatDoorOpsB
import Derived.Test.YtfencolokfghfaaGreatDoorTokO
import Derived.Test.YtfencolokfghfaaGreatDoorOwnT
import Derived.Maps.OwnSet
import Derived.Maps.Own
namespace Go.Proofs.YtfencolokfghfaaGreatDoor
open Go.RowKit Go.Maps
set_option linter.unusedVariables false
set_option linter.unusedSectionVars false

/-- What doesn't turn while a sentence is read: the world ahead, the parser's block, the map's, the tokens, the levels. -/
structure Cx where
  w0 : World
  b : Nat
  m : Nat
  ta : Option Addr
  tc : Nat
  L : List Tok
  lv : Int
structure Cx.Ok (c : Cx) : Prop where
  tab : Tab c.w0
  toks : ∃ base, OwnTk c.w0 base (.slice c.ta c.L.length c.tc) c.L
  hb : c.w0.heap.size ≤ c.b
  hm : c.w0.heap.size ≤ c.m
  ne : c.b ≠ c.m
  len : c.L.length ≤ 4096
  tok : ∀ t ∈ c.L, i64ok t.n ∧ t.s.length ≤ 4096
/-- The blocks that stay. -/
def Cx.stays (c : Cx) (W : World) (na : Option Addr) (j : Nat) : Prop := j < W.heap.size ∧ j ≠ c.b ∧ j ≠ c.m ∧ ∀ a, na = some a → a.block ≠ j
def NamesIn (D : DataW Unit) (ns : Nms) : Prop := ∀ s : List UInt8, Maps.has D (.string s) = decide (s ∈ ns) ∧ (s ∈ ns → s ≠ [95] → D.atKey (.string s) (.lit (.int .i64 0)) = .lit (.int .i64 (ns.idxOf s)))
structure PAt (c : Cx) (W : World) (na : Option Addr) (nc : Nat) (i d : Nat) (ns : Nms) : Prop where
  bel : Below c.w0.heap.size c.w0 W
  box : W.heap[c.b]? = some (.cells #[.slice c.ta c.L.length c.tc, .int .i64 i, .int .i64 c.lv, .int .i64 d, .map (some c.m), .slice na ns.length nc] 94 (0, 0))
  map : ∃ D : DataW Unit, W.ownsMap Tryz.prog 9 (plainElem Tryz.prog 3) c.m ns.length D ∧ Maps.IsMap D ∧ NamesIn D ns
  own : ∃ xs, W.ownsRow c.w0.heap.size 9 1 (.slice na ns.length nc) ns.length xs
  le : i ≤ c.L.length
  nle : ns.length ≤ i
  dle : d ≤ 60

/-- What has turned: nothing of what stays. -/
structure Fr (c : Cx) (W : World) (na : Option Addr) (W' : World) (na' : Option Addr) : Prop where
  size : W.heap.size ≤ W'.heap.size
  keep : ∀ j, c.stays W na j → W'.heap[j]? = W.heap[j]? ∧ c.stays W' na' j
def Kp (c : Cx) (W : World) (na : Option Addr) (W' : World) : Prop := Below c.w0.heap.size c.w0 W' ∧ W.heap.size ≤ W'.heap.size ∧ ∀ j, c.stays W na j → W'.heap[j]? = W.heap[j]?

section
variable {c : Cx} {W W' W'' : World} {na na' na'' : Option Addr} {nc i d : Nat} {ns : Nms}
theorem Fr.refl (c : Cx) (W : World) (na : Option Addr) : Fr c W na W na := ⟨Nat.le_refl _, fun j h => ⟨rfl, h⟩⟩
theorem Fr.trans (h : Fr c W na W' na') (g : Fr c W' na' W'' na'') : Fr c W na W'' na'' :=
  ⟨Nat.le_trans h.size g.size, fun j hj => ⟨((g.keep j (h.keep j hj).2).1).trans (h.keep j hj).1, (g.keep j (h.keep j hj).2).2⟩⟩
theorem Fr.kp (h : Fr c W na W' na') (hb : Below c.w0.heap.size c.w0 W') : Kp c W na W' := ⟨hb, h.size, fun j hj => (h.keep j hj).1⟩
theorem Fr.kpt (h : Fr c W na W' na') (g : Kp c W' na' W'') : Kp c W na W'' := ⟨g.1, Nat.le_trans h.size g.2.1, fun j hj => (g.2.2 j (h.keep j hj).2).trans (h.keep j hj).1⟩
theorem Fr.below (h : Below W.heap.size W W') : Fr c W na W' na := ⟨h.size, fun j hj => ⟨h.block j hj.1, Nat.lt_of_lt_of_le hj.1 h.size, hj.2⟩⟩
theorem Fr.alloc (h : Fr c W na W' na') (o : Obj) : Fr c W na (W'.alloc o) na' := h.trans (Fr.below ((Below.refl _ _).alloc (Nat.le_refl _) _))
theorem Fr.put (h : Fr c W na W' na') {B : Nat} (hB : W.heap.size ≤ B) (j : Nat) (v : Value) : Fr c W na (W'.setCell ⟨B, j, none⟩ v) na' := by
  refine ⟨by simpa using h.size, fun k hk => ?_⟩
  have hne : k ≠ B := by have := hk.1; omega
  obtain ⟨e, h1, h2⟩ := h.keep k hk
  exact ⟨(Below.heap_setCell _ ⟨B, j, none⟩ _ _ (fun e => hne e)).trans e, by simpa using h1, h2⟩
theorem Fr.tm (h : Fr c W na W' na') {v : Value} {T : Tm} (t : TmIn (c.stays W na) W v T) : TmIn (c.stays W' na') W' v T := t.carry (fun j hj => (h.keep j hj).1) (fun j hj => (h.keep j hj).2)
theorem Fr.ts (h : Fr c W na W' na') {v : Value} {T : List Tm} (t : TsIn (c.stays W na) W v T) : TsIn (c.stays W' na') W' v T := t.carry (fun j hj => (h.keep j hj).1) (fun j hj => (h.keep j hj).2)

theorem PAt.form (h : PAt c W na nc i d ns) (hc : c.Ok) : (∀ a, na = some a → a.block ≠ c.b ∧ a.block ≠ c.m ∧ c.w0.heap.size ≤ a.block ∧ a.block < W.heap.size) ∧ c.b < W.heap.size ∧ c.m < W.heap.size := by
  have hb : c.b < W.heap.size := (Array.getElem?_eq_some_iff.1 h.box).1
  obtain ⟨D, hm, -⟩ := h.map
  refine ⟨?_, hb, hm.lt⟩
  obtain ⟨xs, -, ⟨e, -⟩ | ⟨g, cap, cur, e, hg, hh, -⟩⟩ := h.own
  · injection e with e1 e2 e3
    subst e1; intro a ha; cases ha
  · injection e with e1 e2 e3
    subst e1
    intro a ha
    cases ha
    refine ⟨?_, ?_, hg, (Array.getElem?_eq_some_iff.1 hh).1⟩
    · intro e
      dsimp only at e
      rw [e, h.box] at hh
      simp at hh
    · intro e
      obtain ⟨es, ck, hmm, -⟩ := hm
      dsimp only at e
      rw [e, hmm] at hh
      cases hh
/-- The parser stays what it is where its blocks do. -/
theorem PAt.carry (h : PAt c W na nc i d ns) (hc : c.Ok) (hb : W'.heap[c.b]? = W.heap[c.b]?) (hm : W'.heap[c.m]? = W.heap[c.m]?) (hn : ∀ a, na = some a → W'.heap[a.block]? = W.heap[a.block]?) (hl : Below c.w0.heap.size c.w0 W') : PAt c W' na nc i d ns := by
  refine ⟨hl, hb.trans h.box, ?_, ?_, h.le, h.nle, h.dle⟩
  · obtain ⟨D, ⟨es, ck, h1, h2⟩, h3⟩ := h.map
    exact ⟨D, ⟨es, ck, hm.trans h1, h2⟩, h3⟩
  · obtain ⟨xs, h1, ⟨e, h2⟩ | ⟨g, cap, cur, e, hg, hh, h2⟩⟩ := h.own
    · exact ⟨xs, h1, .inl ⟨e, h2⟩⟩
    · refine ⟨xs, h1, .inr ⟨g, cap, cur, e, hg, ?_, h2⟩⟩
      cases e
      exact (hn _ rfl).trans hh
theorem PAt.later (h : PAt c W na nc i d ns) (hc : c.Ok) (k : Below W.heap.size W W') : PAt c W' na nc i d ns := by
  obtain ⟨h1, h2, h3⟩ := h.form hc
  exact h.carry hc (k.block _ h2) (k.block _ h3) (fun a ha => k.block _ (h1 a ha).2.2.2) (h.bel.trans (k.mono h.bel.size))
theorem PAt.put (h : PAt c W na nc i d ns) (hc : c.Ok) {B : Nat} (hB : c.stays W na B) (h0 : c.w0.heap.size ≤ B) (j : Nat) (v : Value) : PAt c (W.setCell ⟨B, j, none⟩ v) na nc i d ns := by
  have key : ∀ k, k ≠ B → (W.setCell ⟨B, j, none⟩ v).heap[k]? = W.heap[k]? := fun k hk => Below.heap_setCell _ ⟨B, j, none⟩ _ _ (fun e => hk e)
  exact h.carry hc (key _ (Ne.symm hB.2.1)) (key _ (Ne.symm hB.2.2.1)) (fun a ha => key _ (hB.2.2.2 a ha)) (h.bel.setCell (p := ⟨B, j, none⟩) h0 v)
theorem PAt.set (h : PAt c W na nc i d ns) (hc : c.Ok) (j : Nat) (v : Value) {i' d' : Nat} (hcells : (#[.slice c.ta c.L.length c.tc, .int .i64 i, .int .i64 c.lv, .int .i64 d, .map (some c.m), .slice na ns.length nc] : Array Value).setIfInBounds j v = #[.slice c.ta c.L.length c.tc, .int .i64 (i' : Nat), .int .i64 c.lv, .int .i64 (d' : Nat), .map (some c.m), .slice na ns.length nc])
    (h1 : i' ≤ c.L.length) (h2 : ns.length ≤ i') (h3 : d' ≤ 60) : PAt c (W.setCell ⟨c.b, j, none⟩ v) na nc i' d' ns ∧ Fr c W na (W.setCell ⟨c.b, j, none⟩ v) na := by
  obtain ⟨f1, f2, f3⟩ := h.form hc
  have key : ∀ k, k ≠ c.b → (W.setCell ⟨c.b, j, none⟩ v).heap[k]? = W.heap[k]? := fun k hk => Below.heap_setCell _ ⟨c.b, j, none⟩ _ _ (fun e => hk e)
  refine ⟨⟨h.bel.setCell (p := ⟨c.b, j, none⟩) hc.hb v, ?_, ?_, ?_, h1, h2, h3⟩, by simp, fun k hk => ⟨key k hk.2.1, by simpa using hk.1, hk.2⟩⟩
  · rw [heap_setCell_same _ _ _ _ _ _ h.box, hcells]
  · obtain ⟨D, ⟨es, ck, h1, h2⟩, h3⟩ := h.map
    exact ⟨D, ⟨es, ck, (key _ (Ne.symm hc.ne)).trans h1, h2⟩, h3⟩
  · obtain ⟨xs, h1, ⟨e, h2⟩ | ⟨g, cap, cur, e, hg, hh, h2⟩⟩ := h.own
    · exact ⟨xs, h1, .inl ⟨e, h2⟩⟩
    · refine ⟨xs, h1, .inr ⟨g, cap, cur, e, hg, ?_, h2⟩⟩
      cases e
      exact (key _ (f1 _ rfl).1).trans hh
theorem PAt.cells (h : PAt c W na nc i d ns) : W.cell? ⟨c.b, 0, none⟩ = some (.slice c.ta c.L.length c.tc) ∧ W.cell? ⟨c.b, 1, none⟩ = some (.int .i64 i) ∧ W.cell? ⟨c.b, 2, none⟩ = some (.int .i64 c.lv) ∧ W.cell? ⟨c.b, 3, none⟩ = some (.int .i64 d) ∧
    W.cell? ⟨c.b, 4, none⟩ = some (.map (some c.m)) ∧ W.cell? ⟨c.b, 5, none⟩ = some (.slice na ns.length nc) ∧ ∀ j, W.frozen? ⟨c.b, j, none⟩ = false := by
  have := h.box
  refine ⟨?_, ?_, ?_, ?_, ?_, ?_, ?_⟩ <;> simp [World.cell?, World.frozen?, this]
end

def faultE (i : Nat) (code : Int) : Ending := .panicked [{ v := .iface 112 (.agg #[.int .i64 i, .int .i64 code]), recovered := false }]

section
variable (c : Cx) (hc : c.Ok) {W : World} {na : Option Addr} {nc i d : Nat} {ns : Nms} (h : PAt c W na nc i d ns)
include hc h
set_option maxRecDepth 100000 in
theorem fail_at (code : Int) : Calls Tryz.prog 68 #[.pointer (some ⟨c.b, 0, none⟩), .int .i64 code] W fun e W' => e = faultE i code ∧ W' = W := by
  obtain ⟨c0, c1, c2, c3, c4, c5, cf⟩ := h.cells
  clear hc h
  obtain ⟨w0, b, m, ta, tc, L, lv⟩ := c
  dsimp only at *
  go_enter Tryz.func68, Tryz.ntmps68
  go_wp2
  exact ⟨rfl, rfl, rfl⟩
set_option maxRecDepth 100000 in
theorem enter_at (hd : d < 60) : Calls Tryz.prog 85 #[.pointer (some ⟨c.b, 0, none⟩)] W fun e W' => e = .returned (.tuple #[]) ∧ PAt c W' na nc i (d + 1) ns ∧ Fr c W na W' na := by
  have hs := h.set hc 3 (.int .i64 ((d : Int) + 1)) (i' := i) (d' := d + 1) (by simp) h.le h.nle (by omega)
  obtain ⟨c0, c1, c2, c3, c4, c5, cf⟩ := h.cells
  have hd1 : (d : Int) < 60 := by omega
  have hd2 : ¬ (60 : Int) < (d : Int) + 1 := by omega
  have x3 : (W.setCell ⟨c.b, 3, none⟩ (.int .i64 ((d : Int) + 1))).cell? ⟨c.b, 3, none⟩ = some (.int .i64 ((d : Int) + 1)) := by simpa using hs.1.cells.2.2.2.1
  clear hc h
  obtain ⟨w0, b, m, ta, tc, L, lv⟩ := c
  dsimp only at *
  go_enter Tryz.func85, Tryz.ntmps85
  go_wp2
  go_end0
  exact ⟨rfl, by simpa using hs⟩
set_option maxRecDepth 100000 in
theorem enter_bad (hd : d = 60) : Calls Tryz.prog 85 #[.pointer (some ⟨c.b, 0, none⟩)] W fun e W' => e = faultE i 7 ∧ Kp c W na W' := by
  subst hd
  have hB : (W.setCell ⟨c.b, 3, none⟩ (.int .i64 61)).heap[c.b]? = some (.cells #[.slice c.ta c.L.length c.tc, .int .i64 i, .int .i64 c.lv, .int .i64 61, .map (some c.m), .slice na ns.length nc] 94 (0, 0)) := by
    rw [heap_setCell_same _ _ _ _ _ _ h.box]; simp
  have hK : Kp c W na (W.setCell ⟨c.b, 3, none⟩ (.int .i64 61)) := ⟨h.bel.setCell (p := ⟨c.b, 3, none⟩) hc.hb _, by simp, fun k hk => Below.heap_setCell _ ⟨c.b, 3, none⟩ _ _ (fun e => hk.2.1 e)⟩
  obtain ⟨c0, c1, c2, c3, c4, c5, cf⟩ := h.cells
  have x3 : (W.setCell ⟨c.b, 3, none⟩ (.int .i64 61)).cell? ⟨c.b, 3, none⟩ = some (.int .i64 61) := by simp [World.cell?, hB]
  have x1 : (W.setCell ⟨c.b, 3, none⟩ (.int .i64 61)).cell? ⟨c.b, 1, none⟩ = some (.int .i64 i) := by simp [World.cell?, hB]
  clear hc h hB
  obtain ⟨w0, b, m, ta, tc, L, lv⟩ := c
  dsimp only at *
  go_enter Tryz.func85, Tryz.ntmps85
  go_wp2
  exact ⟨rfl, rfl, rfl, hK⟩
set_option maxRecDepth 100000 in
theorem leave_at (hd : 0 < d) : Calls Tryz.prog 89 #[.pointer (some ⟨c.b, 0, none⟩)] W fun e W' => e = .returned (.tuple #[]) ∧ PAt c W' na nc i (d - 1) ns ∧ Fr c W na W' na := by
  have hd1 : (((d - 1 : Nat)) : Int) = (d : Int) - 1 := by omega
  have hs := h.set hc 3 (.int .i64 ((d : Int) - 1)) (i' := i) (d' := d - 1) (by simp [hd1]) h.le h.nle (by have := h.dle; omega)
  obtain ⟨c0, c1, c2, c3, c4, c5, cf⟩ := h.cells
  have hd2 := h.dle
  have hd3 : (d : Int) ≤ 60 := by omega
  have hd4 : 0 < (d : Int) := by omega
  clear hc h
  obtain ⟨w0, b, m, ta, tc, L, lv⟩ := c
  dsimp only at *
  go_enter Tryz.func89, Tryz.ntmps89
  go_wp2
  go_end0
  exact ⟨rfl, by simpa using hs⟩
end

set_option maxRecDepth 100000 in
theorem isPunct_at (t : Tok) (s : ByteArray) (l : List UInt8) (hs : s.data.toList = l) (W : World) : Calls Tryz.prog 106 #[.agg #[.int .i64 t.kind, .string (strV t.s), .int .i64 t.n, .bool t.q, .bool t.tight], .string s] W (Gets W (.bool (isP t l))) := by
  have hE : ((strV t.s).toList == s.toList) = decide (t.s = l) := by rw [op_beq]; subst hs; rfl
  go_enter Tryz.func106, Tryz.ntmps106
  by_cases hk : t.kind = 4
  · go_wp2
    go_ret
    exact ⟨by simp [isP, hk], (Below.refl _ _).alloc (Nat.le_refl _) _⟩
  · go_wp2
    go_ret
    exact ⟨by simp [isP, hk], (Below.refl _ _).alloc (Nat.le_refl _) _⟩
set_option maxRecDepth 100000 in
theorem isBare_at (t : Tok) (W : World) : Calls Tryz.prog 105 #[.agg #[.int .i64 t.kind, .string (strV t.s), .int .i64 t.n, .bool t.q, .bool t.tight]] W (Gets W (.bool (bare t))) := by
  have hnot : ∀ (x : Bool) (w : World), (Op.unary .not (.bool x)).run Tryz.prog w = .ok (.bool (!x)) w := fun _ _ => rfl
  go_enter Tryz.func105, Tryz.ntmps105
  by_cases hk : t.kind = 1
  · go_wp2
    go_ret
    exact ⟨by simp [bare, hk], (Below.refl _ _).alloc (Nat.le_refl _) _⟩
  · go_wp2
    go_ret
    exact ⟨by simp [bare, hk], (Below.refl _ _).alloc (Nat.le_refl _) _⟩

theorem ahd_cell {c : Cx} (hc : c.Ok) {W : World} (hb : Below c.w0.heap.size c.w0 W) {i : Nat} (hi : i < c.L.length) : ∃ g, c.ta = some ⟨g, 0, none⟩ ∧
    W.cell? ⟨g, i * 5, none⟩ = some (.int .i64 (ahd c.L i).kind) ∧ W.cell? ⟨g, i * 5 + 1, none⟩ = some (.string (strV (ahd c.L i).s)) ∧ W.cell? ⟨g, i * 5 + 2, none⟩ = some (.int .i64 (ahd c.L i).n) ∧ W.cell? ⟨g, i * 5 + 3, none⟩ = some (.bool (ahd c.L i).q) ∧ W.cell? ⟨g, i * 5 + 4, none⟩ = some (.bool (ahd c.L i).tight) := by
  obtain ⟨base, ho⟩ := hc.toks
  have e : c.L[i]? = some (ahd c.L i) := by unfold ahd; rw [List.getD_eq_getElem?_getD]; simp [hi]
  obtain ⟨g, cap, hv, -, -, x⟩ := (ho.below hb).cells e
  injection hv with e1
  exact ⟨g, e1, x⟩
section
variable (c : Cx) (hc : c.Ok) {W : World} {na : Option Addr} {nc i d : Nat} {ns : Nms} (h : PAt c W na nc i d ns)
include hc h
set_option maxRecDepth 100000 in
set_option maxHeartbeats 1000000 in
theorem ahead_at (k : Nat) (hk : k ≤ 1) : Calls Tryz.prog 67 #[.pointer (some ⟨c.b, 0, none⟩), .int .i64 k] W (Gets W (.agg #[.int .i64 (ahd c.L (i + k)).kind, .string (strV (ahd c.L (i + k)).s), .int .i64 (ahd c.L (i + k)).n, .bool (ahd c.L (i + k)).q, .bool (ahd c.L (i + k)).tight])) := by
  have h1 := (h.later hc (Below.refl _ _)).le
  have h2 := hc.len
  have hL : (c.L.length : Int) ≤ 4096 := by omega
  have hi : (i : Int) ≤ 4096 := by omega
  have hi0 : (0 : Int) ≤ (i : Int) := by omega
  obtain ⟨W1, hW1⟩ : ∃ W1, W1 = W.alloc (.cells #[.int .i64 0, .string ⟨#[]⟩, .int .i64 0, .bool false, .bool false] 87) := ⟨_, rfl⟩
  have hB : Below W.heap.size W W1 := by rw [hW1]; exact (Below.refl W.heap.size W).alloc (Nat.le_refl _) _
  have hx : W1.heap[W.heap.size]? = some (.cells #[.int .i64 0, .string ⟨#[]⟩, .int .i64 0, .bool false, .bool false] 87 (0, 0)) := by rw [hW1]; exact alloc_new _ _
  have h' := h.later hc hB
  obtain ⟨c0, c1, c2, c3, c4, c5, cf⟩ := h'.cells
  by_cases hlt : i + k < c.L.length
  · obtain ⟨g, hg, k0, k1, k2, k3, k4⟩ := ahd_cell hc h'.bel hlt
    have hge : ¬ ((c.L.length : Int) - (i : Int) ≤ (k : Int)) := by omega
    have hw : wrap64 ((c.L.length : Int) - (i : Int)) = (c.L.length : Int) - (i : Int) := by simp only [wrap64]; omega
    have hw2 : wrap64 ((i : Int) + (k : Int)) = ((i + k : Nat) : Int) := by simp only [wrap64]; omega
    have hik : ((i + k : Nat) : Int) < (c.L.length : Int) := by omega
    clear h h'
    obtain ⟨w0, b, m, ta, tc, L, lv⟩ := c
    dsimp only at *
    subst hg
    go_enter Tryz.func67, Tryz.ntmps67
    go_wp2
    rw [← hW1]
    clear hW1
    have hn : ((i : Int) + (k : Int)).toNat = i + k := by omega
    have hik0 : (0 : Int) ≤ (i : Int) + (k : Int) := by omega
    have hik1 : (i : Int) + (k : Int) < (L.length : Int) := by omega
    have f0 : ∀ j, W1.frozen? ⟨W.heap.size, j, none⟩ = false := fun j => by simp [World.frozen?, hx]
    obtain ⟨z0, z1, z2, z3, z4, -⟩ := box5 hx
    obtain ⟨Wz, hWz, hz, -, hbz⟩ := set5 hx (.int .i64 (ahd L (i + k)).kind) (.string (strV (ahd L (i + k)).s)) (.int .i64 (ahd L (i + k)).n) (.bool (ahd L (i + k)).q) (.bool (ahd L (i + k)).tight) hB (Nat.le_refl _)
    obtain ⟨y0, y1, y2, y3, y4, -⟩ := box5 hz
    go_region
    go_wp2
    go_region
    rw [← hWz]
    go_wp2
    refine bodyPost_ret (v := .agg #[.int .i64 (ahd L (i + k)).kind, .string (strV (ahd L (i + k)).s), .int .i64 (ahd L (i + k)).n, .bool (ahd L (i + k)).q, .bool (ahd L (i + k)).tight]) (by simp [results, Tryz.f67, go_sem, y0, y1, y2, y3, y4]) rfl ?_
    exact ⟨rfl, hbz.drew.drew⟩
  · have hz : ahd c.L (i + k) = zTok := by unfold ahd; rw [List.getD_eq_getElem?_getD, List.getElem?_eq_none (by omega)]; rfl
    have hge : (c.L.length : Int) - (i : Int) ≤ (k : Int) := by omega
    have hw : wrap64 ((c.L.length : Int) - (i : Int)) = (c.L.length : Int) - (i : Int) := by simp only [wrap64]; omega
    have hzv' : ∀ w, (zeroValue 87).run Tryz.prog w = .ok (.agg #[.int .i64 0, .string ⟨#[]⟩, .int .i64 0, .bool false, .bool false]) w := fun w => by kernel_rfl
    have f0 : ∀ j, W1.frozen? ⟨W.heap.size, j, none⟩ = false := fun j => by simp [World.frozen?, hx]
    obtain ⟨z0, z1, z2, z3, z4, -⟩ := box5 hx
    obtain ⟨Wz, hWz, hz', -, hbz⟩ := set5 hx (.int .i64 0) (.string ⟨#[]⟩) (.int .i64 0) (.bool false) (.bool false) hB (Nat.le_refl _)
    obtain ⟨y0, y1, y2, y3, y4, -⟩ := box5 hz'
    rw [hz]
    clear h h' hz
    obtain ⟨w0, b, m, ta, tc, L, lv⟩ := c
    dsimp only at *
    go_enter Tryz.func67, Tryz.ntmps67
    go_wp2
    rw [← hW1]
    clear hW1
    go_region
    go_wp2
    rw [← hWz]
    refine bodyPost_ret (v := .agg #[.int .i64 zTok.kind, .string (strV zTok.s), .int .i64 zTok.n, .bool zTok.q, .bool zTok.tight]) (by simp [results, Tryz.f67, go_sem, y0, y1, y2, y3, y4, zTok, strV]) rfl ?_
    exact ⟨rfl, hbz.drew⟩
end
end Go.Proofs.YtfencolokfghfaaGreatDoor
