/-
  Deeds that came in.
-/
import Derived.Test.YtnaopkkdidngoaaRowB
import Derived.Test.YtnaopkkdidngoaaStoR
namespace Go.Proofs.Ytnaopkkdidngoaa
open Go.ChangeShapes Go.WideShapes Go.ChangeAt Go.RowKit Go.Deep
set_option linter.unusedVariables false
theorem cells_deed : Try.prog.cellsOf 34 = 6 := by kernel_rfl

/-- One deed. -/
theorem open_deed {H : Type} {enc : TypeId × Value → H} {w : World} {fuel : Nat} {cs : List Value} {x : DataW H × List MemPlace} (h : DataW.trod enc Try.prog w 0 (fun _ => true) true fuel 34 cs = some x) (hb : Rows.uptoBulk x.1 ≤ 1048576) :
    ∃ (v0 N k n : Int) (s : ByteArray) (a : Option Addr) (l c : Nat) (T : Tm), cs = [.int .i64 v0, .int .i64 N, .int .i64 k, .int .i64 n, .string s, .slice a l c] ∧ i64ok N ∧ TmIn (fun b => b < w.heap.size) w (.agg #[.int .i64 k, .int .i64 n, .string s, .slice a l c]) T ∧ T.size ≤ 1048576 := by
  obtain ⟨xs, n, _, rfl, hl, hlen, hf⟩ := DataW.trod_struct Try.underlying34 h
  rw [cells_deed] at hl
  match xs, hlen, cs, hl with
  | [y0, y1, y2], _, [v0, v1, v2, v3, v4, v5], _ =>
    have g0 := hf 0 _ rfl
    have g1 := hf 1 _ rfl
    have g2 := hf 2 _ rfl
    simp [cells_int, cells_term] at g0 g1 g2
    obtain ⟨k0, e0, hy0, w0⟩ := DataW.trod_int Try.underlying3 g0
    obtain ⟨k1, e1, hy1, w1⟩ := DataW.trod_int Try.underlying3 g1
    obtain ⟨k, n', s, a, l, c, T, e2, hT, hs, _⟩ := open_term _ _ _ _ (Nat.le_refl _) g2
    simp only [List.map_cons, List.map_nil, Rows.uptoBulk, Rows.uptoBulkAll] at hb
    simp at e0 e1 e2
    obtain ⟨rfl, rfl, rfl, rfl⟩ := e2
    subst e0 e1
    exact ⟨k0, k1, k, n', s, a, l, c, T, rfl, i64ok_of w1, hT, by omega⟩

/-- A list of deeds. -/
theorem open_deedl {H : Type} {enc : TypeId × Value → H} {w : World} {fuel : Nat} {cs : List Value} {x : DataW H × List MemPlace} (h : DataW.trod enc Try.prog w 0 (fun _ => true) true fuel 22 cs = some x) (hb : Rows.uptoBulk x.1 ≤ 1048576) :
    ∃ a len cap, cs = [.slice a len cap] ∧ len ≤ cap ∧ cap ≤ maxLen ∧ DeedsAt w.heap.size w a len := by
  rcases open_slice Try.underlying22 h with ⟨rfl, rfl⟩ | ⟨b, len, cap, m, n, D, Pl, rfl, _, hl, hm, hmm, rfl, hx⟩
  · exact ⟨none, 0, 0, rfl, Nat.le_refl _, Nat.zero_le _, fun i hi => absurd hi (Nat.not_lt_zero _)⟩
  · simp only [if_true] at hmm
    subst hmm
    rw [cells_deed] at hx
    have hbi : ∀ i, i < len → Rows.uptoBulk (D i) ≤ Rows.uptoBulkAll ((List.range len).map D) := fun i hi => bulk_part (List.mem_map.2 ⟨i, List.mem_range.2 hi, rfl⟩)
    simp only [Rows.uptoBulk] at hb
    refine ⟨some b, len, m, by simp, by simpa using hl, hm, fun i hi => ?_⟩
    obtain ⟨cs', h1, h2⟩ := hx i (by omega)
    obtain ⟨v0, N, k, n', s, a, l, c, T, rfl, hN, hT, hs⟩ := open_deed h2 (by have := hbi i hi; simp only; omega)
    obtain ⟨_, hlen, hcell⟩ := World.cells?_some h1
    have c0 := hcell 0 (by omega)
    have c1 := hcell 1 (by omega)
    have c2 := hcell 2 (by omega)
    have c3 := hcell 3 (by omega)
    have c4 := hcell 4 (by omega)
    have c5 := hcell 5 (by omega)
    rw [add_add] at c0 c1 c2 c3 c4 c5
    obtain ⟨cs0, z1, z2⟩ := hx 0 (by omega)
    obtain ⟨zv, zN, zk, zn, zs, za, zl, zc, zT, rfl, -⟩ := open_deed z2 (by have := hbi 0 (by omega); simp only; omega)
    obtain ⟨_, _, zcell⟩ := World.cells?_some z1
    have zc0 := zcell 0 (by omega)
    obtain ⟨bb, off, spot⟩ := b
    have hsp : spot = none := by
      have h1 := World.cell?_spot (show w.cell? _ = some (.int .i64 zv) from zc0)
      simpa [Addr.add] using h1
    subst hsp
    have ea : ∀ k, (Addr.add ⟨bb, off, none⟩ k) = ⟨bb, off + k, none⟩ := fun k => by
      by_cases e : k = 0
      · subst e; simp [Addr.add]
      · simp [Addr.add, e]
    rw [ea] at c0 c1 c2 c3 c4 c5
    exact ⟨bb, off, N, k, n', s, a, l, c, T, rfl, cell_lt c1, hN, by simpa [Nat.add_assoc] using c1, by simpa [Nat.add_assoc] using c2, by simpa [Nat.add_assoc] using c3, by simpa [Nat.add_assoc] using c4, by simpa [Nat.add_assoc] using c5, hT, hs⟩
theorem open_deeds {H : Type} {enc : TypeId × Value → H} {w : World} {a : Option Addr} {len cap : Nat} {d : DataW H} {p : List MemPlace} (h : DataW.Trod enc Try.prog w 0 (fun _ => true) true 22 (.slice a len cap) d p) (hb : Rows.uptoBulk d ≤ 1048576) :
    len ≤ 9223372036854775807 ∧ DeedsAt w.heap.size w a len := by
  obtain ⟨fuel, hf⟩ := h
  obtain ⟨a', len', cap', e, hl, hm, hD⟩ := open_deedl hf hb
  simp [Value.cells] at e
  obtain ⟨rfl, rfl, rfl⟩ := e
  exact ⟨by unfold maxLen at hm; omega, hD⟩
end Go.Proofs.Ytnaopkkdidngoaa
