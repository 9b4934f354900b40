/-
  What the rows' proofs have in common: a term that came in is a term in memory, no greater than what is read of it.
-/
import Derived.Test.YtbdkakpbhijilaaRows
import Derived.Test.YtbdkakpbhijilaaSize
import Derived.ProofKit
import Derived.OpenShut
import Derived.ShutString
import Derived.ChangeOld
import Derived.Below
import Derived.JoinedCond
import Derived.Deep.Slices
namespace Go.Proofs.Ytbdkakpbhijilaa
open Go.ChangeShapes Go.WideShapes Go.ChangeAt Go.RowKit Go.Deep
set_option linter.unusedVariables false

theorem own : ownKnob Try.prog.godebug = none := by kernel_rfl
theorem laidOut : laidOutB Try.prog = true := by kernel_rfl

theorem cell_lt {w : World} {a : Addr} {v : Value} (h : w.cell? a = some v) : a.block < w.heap.size := by
  unfold World.cell? at h
  split at h
  · rename_i hb; exact (Array.getElem?_eq_some_iff.1 hb).1
  · cases h

theorem cells_term : Try.prog.cellsOf 24 = 4 := by kernel_rfl
theorem cells_int : Try.prog.cellsOf 3 = 1 := by kernel_rfl
theorem cells_int64 : Try.prog.cellsOf 2 = 1 := by kernel_rfl
theorem cells_string : Try.prog.cellsOf 9 = 1 := by kernel_rfl
theorem cells_terms : Try.prog.cellsOf 22 = 1 := by kernel_rfl

theorem i64ok_of {n : Int} (h : (Lit.int .i64 n).wf = true) : i64ok n := bounds_i64 h

theorem bulk_part {H : Type} {d : DataW H} : ∀ {l : List (DataW H)}, d ∈ l → Rows.uptoBulk d ≤ Rows.uptoBulkAll l
  | x :: r, h => by
    simp only [Rows.uptoBulkAll]
    cases List.mem_cons.1 h with
    | inl e => subst e; omega
    | inr e => have := bulk_part (l := r) e; omega

theorem sizes_bulk {H : Type} (D : Nat → DataW H) (T : Nat → Tm) : ∀ (n : Nat), (∀ i, i < n → (T i).size ≤ Rows.uptoBulk (D i)) → Tm.sizes ((List.range n).map T) ≤ Rows.uptoBulkAll ((List.range n).map D)
  | 0, _ => by simp [Tm.sizes_nil]
  | n + 1, h => by
    have ih := sizes_bulk D T n fun i hi => h i (by omega)
    have hn := h n (by omega)
    have app : ∀ (l : List (DataW H)) (d : DataW H), Rows.uptoBulkAll (l ++ [d]) = Rows.uptoBulkAll l + Rows.uptoBulk d := by
      intro l d
      induction l with
      | nil => simp [Rows.uptoBulkAll]
      | cons x l ihl => simp only [List.cons_append, Rows.uptoBulkAll, ihl]; omega
    rw [List.range_succ, List.map_append, List.map_append, Tm.sizes_append, List.map_singleton, List.map_singleton, app, Tm.sizes_cons, Tm.sizes_nil]
    omega

instance : Inhabited Tm := ⟨.mk 0 0 (ByteArray.mk #[]) []⟩

/-- A list of terms that came in, its elements being terms. -/
theorem open_list {H : Type} {enc : TypeId × Value → H} {w : World} {fuel : Nat} {cs : List Value} {x : DataW H × List MemPlace}
    (h : DataW.trod enc Try.prog w 0 (fun _ => true) true fuel 22 cs = some x)
    (each : ∀ fuel cs y, Rows.uptoBulk (H := H) y.1 < Rows.uptoBulk x.1 → DataW.trod enc Try.prog w 0 (fun _ => true) true fuel 24 cs = some y → ∃ (k n : Int) (s : ByteArray) (a : Option Addr) (len cap : Nat) (T : Tm), cs = [.int .i64 k, .int .i64 n, .string s, .slice a len cap] ∧
      TmIn (fun b => b < w.heap.size) w (.agg #[.int .i64 k, .int .i64 n, .string s, .slice a len cap]) T ∧ T.size ≤ Rows.uptoBulk y.1) :
    ∃ a len cap ks, cs = [.slice a len cap] ∧ TsIn (fun b => b < w.heap.size) w (.slice a len cap) ks ∧ Tm.sizes ks + 1 ≤ Rows.uptoBulk x.1 := by
  rcases open_slice Try.underlying22 h with ⟨rfl, rfl⟩ | ⟨b, len, cap, m, n, D, Pl, rfl, _, hl, hm, hmm, rfl, hx⟩
  · exact ⟨none, 0, 0, [], rfl, ⟨none, 0, rfl, Nat.le_refl _, Nat.zero_le _, fun _ => rfl, fun i hi => absurd hi (Nat.not_lt_zero _)⟩, by simp [Tm.sizes_nil, Rows.uptoBulk]⟩
  · simp only [if_true] at hmm
    subst hmm
    rw [cells_term] at hx
    have hb : ∀ i, i < len → Rows.uptoBulk (D i) ≤ Rows.uptoBulkAll ((List.range len).map D) := fun i hi => bulk_part (List.mem_map.2 ⟨i, List.mem_range.2 hi, rfl⟩)
    have each' : ∀ i, i < len → ∃ q : Int × Int × ByteArray × Option Addr × Nat × Nat × Tm, w.cell? (b.add (i * 4)) = some (.int .i64 q.1) ∧ w.cell? (b.add (i * 4 + 1)) = some (.int .i64 q.2.1) ∧ w.cell? (b.add (i * 4 + 2)) = some (.string q.2.2.1) ∧ w.cell? (b.add (i * 4 + 3)) = some (.slice q.2.2.2.1 q.2.2.2.2.1 q.2.2.2.2.2.1) ∧
        TmIn (fun b => b < w.heap.size) w (.agg #[.int .i64 q.1, .int .i64 q.2.1, .string q.2.2.1, .slice q.2.2.2.1 q.2.2.2.2.1 q.2.2.2.2.2.1]) q.2.2.2.2.2.2 ∧ q.2.2.2.2.2.2.size ≤ Rows.uptoBulk (D i) := by
      intro i hi
      obtain ⟨cs', h1, h2⟩ := hx i (by omega)
      obtain ⟨k, n', s, a, l, c, T, rfl, hT, hsz⟩ := each n cs' _ (by have := hb i hi; simp only [Rows.uptoBulk]; omega) h2
      obtain ⟨_, hlen, hcell⟩ := World.cells?_some h1
      have c0 := hcell 0 (by omega)
      have c1 := hcell 1 (by omega)
      have c2 := hcell 2 (by omega)
      have c3 := hcell 3 (by omega)
      rw [add_add] at c0 c1 c2 c3
      exact ⟨(k, n', s, a, l, c, T), by simpa using c0, by simpa using c1, by simpa using c2, by simpa using c3, hT, hsz⟩
    obtain ⟨q, hq⟩ := choose_lt each'
    refine ⟨some b, len, m, (List.range len).map fun i => (q i).2.2.2.2.2.2, rfl, ⟨some b, m, by simp, by simpa using hl, hm, (fun h => by cases h), fun i hi => ?_⟩, ?_⟩
    · simp at hi
      obtain ⟨c0, c1, c2, c3, hT, _⟩ := hq i hi
      obtain ⟨bb, off, spot⟩ := b
      have hs : spot = none := by
        have := World.cell?_spot (hq 0 (by omega)).1
        simpa [Addr.add] using this
      subst hs
      have ea : ∀ k, (Addr.add ⟨bb, off, none⟩ k) = ⟨bb, off + k, none⟩ := fun k => by
        by_cases e : k = 0
        · subst e; simp [Addr.add]
        · simp [Addr.add, e]
      rw [ea] at c0 c1 c2 c3
      refine ⟨bb, off, (q i).1, (q i).2.1, (q i).2.2.1, (q i).2.2.2.1, (q i).2.2.2.2.1, (q i).2.2.2.2.2.1, rfl, cell_lt c0, by simpa using c0, by simpa [Nat.add_assoc] using c1, by simpa [Nat.add_assoc] using c2, by simpa [Nat.add_assoc] using c3, ?_⟩
      simpa using hT
    · have := sizes_bulk D (fun i => (q i).2.2.2.2.2.2) len fun i hi => (hq i hi).2.2.2.2.2
      simp only [Rows.uptoBulk]
      omega

/-- A term that came in. -/
theorem open_term {H : Type} {enc : TypeId × Value → H} {w : World} : ∀ (N fuel : Nat) (cs : List Value) (x : DataW H × List MemPlace), Rows.uptoBulk x.1 ≤ N →
    DataW.trod enc Try.prog w 0 (fun _ => true) true fuel 24 cs = some x → ∃ (k n : Int) (s : ByteArray) (a : Option Addr) (len cap : Nat) (T : Tm), cs = [.int .i64 k, .int .i64 n, .string s, .slice a len cap] ∧
      TmIn (fun b => b < w.heap.size) w (.agg #[.int .i64 k, .int .i64 n, .string s, .slice a len cap]) T ∧ T.size ≤ Rows.uptoBulk x.1 ∧ T.name.size ≤ Rows.uptoBulk x.1 := by
  intro N
  induction N with
  | zero =>
    intro fuel cs x hN h
    obtain ⟨xs, n, _, rfl, _⟩ := DataW.trod_struct Try.underlying24 h
    simp only [Rows.uptoBulk] at hN
    omega
  | succ N ih =>
    intro fuel cs x hN h
    obtain ⟨xs, n, _, rfl, hl, hlen, hf⟩ := DataW.trod_struct Try.underlying24 h
    rw [cells_term] at hl
    match xs, hlen, cs, hl with
    | [y0, y1, y2, y3], _, [v0, v1, v2, v3], _ =>
      have g0 := hf 0 _ rfl
      have g1 := hf 1 _ rfl
      have g2 := hf 2 _ rfl
      have g3 := hf 3 _ rfl
      simp [cells_int, cells_int64, cells_string, cells_terms] at g0 g1 g2 g3
      obtain ⟨k, e0, hy0, w0⟩ := DataW.trod_int Try.underlying3 g0
      obtain ⟨n', e1, hy1, w1⟩ := DataW.trod_int Try.underlying2 g1
      obtain ⟨s, e2, hy2, w2⟩ := DataW.trod_string Try.underlying9 g2
      simp only [List.map_cons, List.map_nil, Rows.uptoBulk, Rows.uptoBulkAll] at hN ⊢
      obtain ⟨a, len, cap, ks, e3, hT, hsz⟩ := open_list g3 (fun fuel cs y hy ht => by obtain ⟨k, n, s, a, len, cap, T, e, h1, h2, _⟩ := ih fuel cs y (by omega) ht; exact ⟨k, n, s, a, len, cap, T, e, h1, h2⟩)
      simp at e0 e1 e2 e3
      subst e0 e1 e2 e3
      refine ⟨k, n', s, a, len, cap, .mk k n' s ks, rfl, hT.term (i64ok_of w0) (i64ok_of w1) w2, ?_, ?_⟩
      · rw [Tm.size_mk]
        omega
      · have e : (y2.1 : DataW H) = .lit (.string s.data.toList) := by rw [hy2]
        have e2 : s.data.toList.length = s.size := by rw [Array.length_toList]; rfl
        show s.size ≤ _
        rw [e]
        simp only [Rows.uptoBulk]
        omega

theorem open_arg {H : Type} {enc : TypeId × Value → H} {w : World} {v : Value} {d : DataW H} {p : List MemPlace} (h : DataW.Trod enc Try.prog w 0 (fun _ => true) true 24 v d p) :
    ∃ T, Has w v T ∧ T.size ≤ Rows.uptoBulk d ∧ T.name.size ≤ Rows.uptoBulk d := by
  obtain ⟨fuel, hf⟩ := h
  obtain ⟨k, n, s, a, len, cap, T, e, hT, hs⟩ := open_term _ fuel _ _ (Nat.le_refl _) hf
  cases v with
  | agg cs =>
    have : cs = #[.int .i64 k, .int .i64 n, .string s, .slice a len cap] := by
      cases cs; simpa [Value.cells] using e
    subst this
    exact ⟨T, hT, hs⟩
  | _ => simp [Value.cells] at e

theorem open_args {H : Type} {enc : TypeId × Value → H} {w : World} {a : Option Addr} {len cap : Nat} {d : DataW H} {p : List MemPlace} (h : DataW.Trod enc Try.prog w 0 (fun _ => true) true 22 (.slice a len cap) d p) :
    ∃ ks, TsIn (fun b => b < w.heap.size) w (.slice a len cap) ks ∧ Tm.sizes ks ≤ Rows.uptoBulk d := by
  obtain ⟨fuel, hf⟩ := h
  obtain ⟨a', len', cap', ks, e, hT, hs⟩ := open_list hf (fun fuel cs y _ ht => by obtain ⟨k, n, s, a, len, cap, T, e, h1, h2, _⟩ := open_term _ fuel cs y (Nat.le_refl _) ht; exact ⟨k, n, s, a, len, cap, T, e, h1, h2⟩)
  simp [Value.cells] at e
  obtain ⟨rfl, rfl, rfl⟩ := e
  have hs' : Tm.sizes ks + 1 ≤ Rows.uptoBulk d := hs
  exact ⟨ks, hT, by omega⟩

end Go.Proofs.Ytbdkakpbhijilaa
