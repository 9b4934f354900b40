/-
  Bounds that came in.
-/
import Derived.Test.YtlnggaepmclbkaaZSizen2
import Derived.Test.YtlnggaepmclbkaaZCopVn2
namespace Go.Proofs.Ytlnggaepmclbkaa
open Go.ChangeShapes Go.WideShapes Go.ChangeAt Go.RowKit Go.Deep
set_option linter.unusedVariables false
theorem cells_bound : Try.prog.cellsOf 44 = 5 := by kernel_rfl

/-- One bound. -/
theorem open_bound {H : Type} {enc : TypeId × Value → H} {w : World} {fuel : Nat} {cs : List Value} {x : DataW H × List MemPlace} (h : DataW.trod enc Try.prog w 0 (fun _ => true) true fuel 44 cs = some x) (hb : Rows.uptoBulk x.1 ≤ 1048576) :
    ∃ (N k n : Int) (s : ByteArray) (a : Option Addr) (l c : Nat) (T : Tm), cs = [.int .i64 N, .int .i64 k, .int .i64 n, .string s, .slice a l c] ∧ i64ok N ∧ TmIn (fun b => b < w.heap.size) w (.agg #[.int .i64 k, .int .i64 n, .string s, .slice a l c]) T ∧ T.size ≤ 1048576 := by
  obtain ⟨xs, n, _, rfl, hl, hlen, hf⟩ := DataW.trod_struct Try.underlying44 h
  rw [cells_bound] at hl
  match xs, hlen, cs, hl with
  | [y1, y2], _, [v1, v2, v3, v4, v5], _ =>
    have g1 := hf 0 _ rfl
    have g2 := hf 1 _ rfl
    simp [cells_int, cells_term] at g1 g2
    obtain ⟨k1, e1, hy1, w1⟩ := DataW.trod_int Try.underlying3 g1
    obtain ⟨k, n', s, a, l, c, T, e2, hT, hs, _⟩ := open_term _ _ _ _ (Nat.le_refl _) g2
    simp only [List.map_cons, List.map_nil, Rows.uptoBulk, Rows.uptoBulkAll] at hb
    simp at e1 e2
    obtain ⟨rfl, rfl, rfl, rfl⟩ := e2
    subst e1
    exact ⟨k1, k, n', s, a, l, c, T, rfl, i64ok_of w1, hT, by omega⟩

/-- A list of bounds. -/
theorem open_boundl {H : Type} {enc : TypeId × Value → H} {w : World} {fuel : Nat} {cs : List Value} {x : DataW H × List MemPlace} (h : DataW.trod enc Try.prog w 0 (fun _ => true) true fuel 38 cs = some x) (hb : Rows.uptoBulk x.1 ≤ 1048576) :
    ∃ a len cap, cs = [.slice a len cap] ∧ len ≤ cap ∧ cap ≤ maxLen ∧ BoundsAt w.heap.size w a len := by
  rcases open_slice Try.underlying38 h with ⟨rfl, rfl⟩ | ⟨b, len, cap, m, n, D, Pl, rfl, _, hl, hm, hmm, rfl, hx⟩
  · exact ⟨none, 0, 0, rfl, Nat.le_refl _, Nat.zero_le _, fun i hi => absurd hi (Nat.not_lt_zero _)⟩
  · simp only [if_true] at hmm
    subst hmm
    rw [cells_bound] at hx
    have hbi : ∀ i, i < len → Rows.uptoBulk (D i) ≤ Rows.uptoBulkAll ((List.range len).map D) := fun i hi => bulk_part (List.mem_map.2 ⟨i, List.mem_range.2 hi, rfl⟩)
    simp only [Rows.uptoBulk] at hb
    refine ⟨some b, len, m, by simp, by simpa using hl, hm, fun i hi => ?_⟩
    obtain ⟨cs', h1, h2⟩ := hx i (by omega)
    obtain ⟨N, k, n', s, a, l, c, T, rfl, hN, hT, hs⟩ := open_bound h2 (by have := hbi i hi; simp only; omega)
    obtain ⟨_, hlen, hcell⟩ := World.cells?_some h1
    have c0 := hcell 0 (by omega)
    have c1 := hcell 1 (by omega)
    have c2 := hcell 2 (by omega)
    have c3 := hcell 3 (by omega)
    have c4 := hcell 4 (by omega)
    rw [add_add] at c0 c1 c2 c3 c4
    obtain ⟨cs0, z1, z2⟩ := hx 0 (by omega)
    obtain ⟨zN, zk, zn, zs, za, zl, zc, zT, rfl, -⟩ := open_bound z2 (by have := hbi 0 (by omega); simp only; omega)
    obtain ⟨_, _, zcell⟩ := World.cells?_some z1
    have zc0 := zcell 0 (by omega)
    obtain ⟨bb, off, spot⟩ := b
    have hsp : spot = none := by
      have h1 := World.cell?_spot (show w.cell? _ = some (.int .i64 zN) from zc0)
      simpa [Addr.add] using h1
    subst hsp
    have ea : ∀ k, (Addr.add ⟨bb, off, none⟩ k) = ⟨bb, off + k, none⟩ := fun k => by
      by_cases e : k = 0
      · subst e; simp [Addr.add]
      · simp [Addr.add, e]
    rw [ea] at c0 c1 c2 c3 c4
    exact ⟨bb, off, N, k, n', s, a, l, c, T, rfl, cell_lt c0, hN, by simpa [Nat.add_assoc] using c0, by simpa [Nat.add_assoc] using c1, by simpa [Nat.add_assoc] using c2, by simpa [Nat.add_assoc] using c3, by simpa [Nat.add_assoc] using c4, hT, hs⟩
theorem open_bounds {H : Type} {enc : TypeId × Value → H} {w : World} {a : Option Addr} {len cap : Nat} {d : DataW H} {p : List MemPlace} (h : DataW.Trod enc Try.prog w 0 (fun _ => true) true 38 (.slice a len cap) d p) (hb : Rows.uptoBulk d ≤ 1048576) :
    len ≤ 9223372036854775807 ∧ BoundsAt w.heap.size w a len := by
  obtain ⟨fuel, hf⟩ := h
  obtain ⟨a', len', cap', e, hl, hm, hD⟩ := open_boundl hf hb
  simp [Value.cells] at e
  obtain ⟨rfl, rfl, rfl⟩ := e
  exact ⟨by unfold maxLen at hm; omega, hD⟩
end Go.Proofs.Ytlnggaepmclbkaa
