/-
  Read: a sentence, from a place on.
-/
import Derived.Test.YtfencolokfghfaaGreatDoorReadQ
import Derived.Deep.Cut
namespace Go.Proofs.YtfencolokfghfaaGreatDoor
open Go.RowKit Go.Maps
set_option linter.unusedVariables false
set_option linter.unusedSectionVars false

/-- What Read answers. -/
def RPost (w : World) : Out Tm → Ending → World → Prop
  | .ok T i' _, e, W' => ∃ k n s a l cp na l' cap', e = .returned (.tuple #[.agg #[.int .i64 k, .int .i64 n, .string s, .slice a l cp], .slice na l' cap', .int .i64 i', .int .i64 0]) ∧ Below w.heap.size w W' ∧ TmIn (fun j => w.heap.size ≤ j ∧ j < W'.heap.size) W' (.agg #[.int .i64 k, .int .i64 n, .string s, .slice a l cp]) T
  | .bad i' code, e, W' => e = .returned (.tuple #[.agg #[.int .i64 0, .int .i64 0, .string (ByteArray.mk #[]), .slice none 0 0], .slice none 0 0, .int .i64 i', .int .i64 code]) ∧ Below w.heap.size w W'

theorem set4w {W : World} {B : Nat} {a0 a1 a2 a3 : Value} {t : TypeId} (hx : W.heap[B]? = some (.cells #[a0, a1, a2, a3] t (0, 0))) (v0 v1 v2 v3 : Value) :
    ∃ Z, Z = ((((W.setCell ⟨B, 0, none⟩ v0).setCell ⟨B, 1, none⟩ v1).setCell ⟨B, 2, none⟩ v2).setCell ⟨B, 3, none⟩ v3) ∧ Z.heap[B]? = some (.cells #[v0, v1, v2, v3] t (0, 0)) ∧ (∀ j, j ≠ B → Z.heap[j]? = W.heap[j]?) ∧ Z.heap.size = W.heap.size ∧ Below B W Z :=
  ⟨_, rfl, four_block hx v0 v1 v2 v3, fun j hj => by rw [Below.heap_setCell _ ⟨B, 3, none⟩ _ _ hj, Below.heap_setCell _ ⟨B, 2, none⟩ _ _ hj, Below.heap_setCell _ ⟨B, 1, none⟩ _ _ hj, Below.heap_setCell _ ⟨B, 0, none⟩ _ _ hj], by simp,
    ((((Below.refl B W).setCell (p := ⟨B, 0, none⟩) (Nat.le_refl _) v0).setCell (p := ⟨B, 1, none⟩) (Nat.le_refl _) v1).setCell (p := ⟨B, 2, none⟩) (Nat.le_refl _) v2).setCell (p := ⟨B, 3, none⟩) (Nat.le_refl _) v3⟩
/-- The parser as it begins. -/
theorem begin_at (w : World) (hT : Tab w) {base : Nat} {ta : Option Addr} {tc : Nat} {L : List Tok} (hO : OwnTk w base (.slice ta L.length tc) L) (hL : L.length ≤ 4096) (htk : ∀ t ∈ L, i64ok t.n ∧ t.s.length ≤ 4096) (lv : Int) {i : Nat} (hi : i ≤ L.length) :
    ∃ c : Cx, c = ⟨w, w.heap.size + 1, w.heap.size, ta, tc, L, lv⟩ ∧ c.Ok ∧ PAt c ((w.alloc (.map #[] 0)).alloc (.cells #[.slice ta L.length tc, .int .i64 i, .int .i64 lv, .int .i64 0, .map (some w.heap.size), .slice none 0 0] 94)) none 0 i 0 [] := by
  refine ⟨_, rfl, ⟨hT, ⟨base, hO⟩, by simp, by simp, by simp, hL, htk⟩, ?_⟩
  have hb := bel_al (bel_al (Below.refl w.heap.size w) (.map #[] 0)) (.cells #[.slice ta L.length tc, .int .i64 i, .int .i64 lv, .int .i64 0, .map (some w.heap.size), .slice none 0 0] 94)
  refine ⟨hb, ?_, ⟨.map [], ?_, ⟨[], rfl⟩, fun s => ⟨by simp [Maps.has], fun h => by cases h⟩⟩, ⟨[], World.ownsRow_nil _ _ _ _⟩, hi, Nat.zero_le _, Nat.zero_le _⟩
  · have := alloc_new (w.alloc (.map #[] 0)) (.cells #[.slice ta L.length tc, .int .i64 i, .int .i64 lv, .int .i64 0, .map (some w.heap.size), .slice none 0 0] 94)
    simpa using this
  · exact (World.ownsMap_made w _ _ _).alloc _
set_option maxRecDepth 100000 in
set_option maxHeartbeats 4000000 in
theorem read_at (w : World) (hT : Tab w) {base : Nat} {ta : Option Addr} {tc : Nat} {L : List Tok} (hO : OwnTk w base (.slice ta L.length tc) L) (hL : L.length ≤ 4096) (htk : ∀ t ∈ L, i64ok t.n ∧ t.s.length ≤ 4096) (lv : Int) {i : Nat} (hi : i ≤ L.length) :
    Calls Tryz.prog 28 #[.slice ta L.length tc, .int .i64 i, .int .i64 lv] w (RPost w (readG L lv i)) := by
  obtain ⟨W1, hW1⟩ : ∃ W1, W1 = w.alloc (.cells #[.int .i64 0, .int .i64 0, .string (ByteArray.mk #[]), .slice none 0 0] 24) := ⟨_, rfl⟩
  have hb1 : Below w.heap.size w W1 := by rw [hW1]; exact bel_al (Below.refl _ _) _
  have x1 : W1.heap[w.heap.size]? = some (.cells #[.int .i64 0, .int .i64 0, .string (ByteArray.mk #[]), .slice none 0 0] 24 (0, 0)) := by rw [hW1]; exact alloc_new _ _
  have hl1 : w.heap.size < W1.heap.size := (Array.getElem?_eq_some_iff.1 x1).1
  obtain ⟨c, hcx, hc, hP⟩ := begin_at W1 (hT.later hb1) (hO.below hb1) hL htk lv hi
  have hse := sentence_at c hc hP
  have hz := zeroTerm
  have hmm := @run_makeMap Tryz.prog
  have i0 : ¬ ((i : Int) < 0) := by omega
  have i1 : ¬ ((L.length : Int) < (i : Int)) := by omega
  subst hcx
  clear hP hc hO htk hT
  cases hu : readG L lv i with
  | bad i' code =>
    rw [hu] at hse
    unfold SPost at hse
    dsimp only at hse
    have hzp : ∀ w, (zeroValue 94).run Tryz.prog w = .ok (.agg #[.slice none 0 0, .int .i64 0, .int .i64 0, .int .i64 0, .map none, .slice none 0 0]) w := fun w => by kernel_rfl
    have HS := Lib.hid hse
    have HU := Lib.hid hu
    clear hu hse
    go_enter Tryz.func28, Tryz.ntmps28
    go_upto_region 3 with fail
    rw [← hW1]
    clear hW1
    go_wp2_with (go_at_call 44; refine HS.out.mono ?_; rintro e W5 ⟨rfl, hb5⟩; have x5 := (hb5.block w.heap.size hl1).trans x1; obtain ⟨z0, z1, z2, z3⟩ := tbox_cells x5; have zf : ∀ j, W5.frozen? ⟨w.heap.size, j, none⟩ = false := (fun j => by simp [World.frozen?, x5]))
    obtain ⟨Z, hZ, hzb, hko, hsz, hbZ⟩ := set4w x5 (.int .i64 0) (.int .i64 0) (.string (ByteArray.mk #[])) (.slice none 0 0)
    obtain ⟨y0, y1, y2, y3⟩ := tbox_cells hzb
    rw [← hZ]
    refine bodyPost_ret (v := .tuple #[.agg #[.int .i64 0, .int .i64 0, .string (ByteArray.mk #[]), .slice none 0 0], .slice none 0 0, .int .i64 i', .int .i64 code]) (by simp [results, Tryz.f28, go_sem, y0, y1, y2, y3]) rfl ?_
    exact ⟨rfl, (hb1.trans (hb5.mono hb1.size)).trans hbZ⟩
  | ok T i' ns' =>
    rw [hu] at hse
    unfold SPost at hse
    dsimp only at hse
    have hzp : ∀ w, (zeroValue 94).run Tryz.prog w = .ok (.agg #[.slice none 0 0, .int .i64 0, .int .i64 0, .int .i64 0, .map none, .slice none 0 0]) w := fun w => by kernel_rfl
    have HS := Lib.hid hse
    have HU := Lib.hid hu
    clear hu hse
    go_enter Tryz.func28, Tryz.ntmps28
    go_upto_region 3 with fail
    rw [← hW1]
    clear hW1
    go_wp2_with (go_at_call 44; refine HS.out.mono ?_; rintro e W5 ⟨k, n, s, a, l, cp, na, l', cap', rfl, hb5, hT5⟩; have x5 := (hb5.block w.heap.size hl1).trans x1; obtain ⟨z0, z1, z2, z3⟩ := tbox_cells x5; have zf : ∀ j, W5.frozen? ⟨w.heap.size, j, none⟩ = false := (fun j => by simp [World.frozen?, x5]))
    obtain ⟨Z, hZ, hzb, hko, hsz, hbZ⟩ := set4w x5 (.int .i64 k) (.int .i64 n) (.string s) (.slice a l cp)
    obtain ⟨y0, y1, y2, y3⟩ := tbox_cells hzb
    rw [← hZ]
    refine bodyPost_ret (v := .tuple #[.agg #[.int .i64 k, .int .i64 n, .string s, .slice a l cp], .slice na l' cap', .int .i64 i', .int .i64 0]) (by simp [results, Tryz.f28, go_sem, y0, y1, y2, y3]) rfl ?_
    exact ⟨k, n, s, a, l, cp, na, l', cap', rfl, (hb1.trans (hb5.mono hb1.size)).trans hbZ, hT5.carry (fun j hj => hko j (by have := hj.1; omega)) (fun j hj => ⟨by have := hj.1; omega, by rw [hsz]; exact hj.2⟩)⟩
end Go.Proofs.YtfencolokfghfaaGreatDoor
