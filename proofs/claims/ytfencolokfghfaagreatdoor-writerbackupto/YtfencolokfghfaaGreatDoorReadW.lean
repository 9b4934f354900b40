/-
  What the rows of layer 7 share: the listed variables; a world that holds them.
-/
import Derived.Test.YtfencolokfghfaaGreatDoorCards
import Derived.Test.YtfencolokfghfaaGreatDoorTie
import Derived.Test.YtfencolokfghfaaGreatDoorTokAw
import Derived.Test.YtfencolokfghfaaGreatDoorOpsA
import Derived.WalkKit
import Derived.ProofKit
import Derived.OpenShut
import Derived.ShutString
import Derived.Deep.DeepHandedRow
import Derived.Deep.DeepWitnessRowRef
import Derived.Lib.LaidTab
import Derived.Lib.LaidU8
import Derived.Stop.LaidErr
import Derived.LaidHandle
import Derived.LaidMore
namespace Go.Proofs.YtfencolokfghfaaGreatDoor
set_option maxRecDepth 100000
open Go.ChangeShapes Go.WideShapes Go.ChangeAt Go.RowKit

theorem own : ownKnob Tryz.prog.godebug = none := by kernel_rfl
theorem gOps : Tryz.prog.globalNamed "torchere/ops.operators" = some 5 := by kernel_rfl
theorem gOpsType : (Tryz.prog.globals[5]?).map (·.type) = some 194 := by kernel_rfl
theorem cellsOps : Tryz.prog.cellsOf 194 = 78 := by kernel_rfl
theorem cellsOp : Tryz.prog.cellsOf 186 = 3 := by kernel_rfl
theorem cellsI : Tryz.prog.cellsOf 3 = 1 := by kernel_rfl
theorem cellsS : Tryz.prog.cellsOf 9 = 1 := by kernel_rfl

theorem take_one {cs : List Value} {k : Nat} {v : Value} (h : (cs.drop k).take 1 = [v]) : cs[k]? = some v := by
  have := congrArg (·[0]?) h
  simpa [List.getElem?_take, List.getElem?_drop] using this

/-- One row of the table, cell for cell. -/
theorem row_cells {H : Type} {enc : TypeId × Value → H} {w : World} {base : Nat} {sp : Nat → Bool} {held : Bool} {fuel : Nat} {cs : List Value} {z : Int} {a b : List UInt8} {p : List MemPlace}
    (h : DataW.trod enc Tryz.prog w base sp held fuel 186 cs = some (.agg [.lit (.int .i64 z), .lit (.string a), .lit (.string b)], p)) :
    cs = [.int .i64 z, .string ⟨a.toArray⟩, .string ⟨b.toArray⟩] := by
  obtain ⟨xs, n, rfl, hx, hl, hxl, hall⟩ := DataW.trod_struct Tryz.underlying186 h
  rw [cellsOp] at hl
  have hx3 : xs.map (·.1) = [.lit (.int .i64 z), .lit (.string a), .lit (.string b)] := by
    have := congrArg Prod.fst hx
    simpa using this.symm
  obtain ⟨x0, x1, x2, rfl⟩ : ∃ x0 x1 x2, xs = [x0, x1, x2] := by
    match xs, hx3 with
    | [x0, x1, x2], _ => exact ⟨x0, x1, x2, rfl⟩
  simp only [List.map_cons, List.map_nil, List.cons.injEq, and_true] at hx3
  obtain ⟨e0, e1, e2⟩ := hx3
  have f0 := hall 0 _ rfl
  have f1 := hall 1 _ rfl
  have f2 := hall 2 _ rfl
  change DataW.trod _ _ _ _ _ _ _ 3 ((cs.drop 0).take (Tryz.prog.cellsOf 3)) = some x0 at f0
  change DataW.trod _ _ _ _ _ _ _ 9 ((cs.drop 1).take (Tryz.prog.cellsOf 9)) = some x1 at f1
  change DataW.trod _ _ _ _ _ _ _ 9 ((cs.drop 2).take (Tryz.prog.cellsOf 9)) = some x2 at f2
  rw [cellsI] at f0
  rw [cellsS] at f1 f2
  have g0 : cs[0]? = some (.int .i64 z) := by
    obtain ⟨z', hz, hx', _⟩ := DataW.trod_int Tryz.underlying3 f0
    rw [hx'] at e0
    cases e0
    exact take_one hz
  have gs : ∀ {k : Nat} {x : DataW H × List MemPlace} {l : List UInt8}, DataW.trod enc Tryz.prog w base sp held n 9 ((cs.drop k).take 1) = some x → x.1 = .lit (.string l) → cs[k]? = some (.string ⟨l.toArray⟩) := fun hf he => by
    obtain ⟨s, hz, hx', _⟩ := DataW.trod_string Tryz.underlying9 hf
    rw [hx'] at he
    simp only [DataW.lit.injEq, Lit.string.injEq] at he
    subst he
    exact take_one hz
  have g1 := gs f1 e1
  have g2 := gs f2 e2
  match cs, hl, g0, g1, g2 with
  | [c0, c1, c2], _, g0, g1, g2 =>
    simp at g0 g1 g2
    subst g0 g1 g2
    rfl

/-- The datum of the table, row by row. -/
theorem data_row : ∀ i, i < 26 → ∀ d, (match (Rows.laid_torchere_ops_operators : DataW Unit) with | .agg ds => ds[i]? | _ => none) = some d → d = .agg [.lit (.int .i64 (priN i)), .lit (.string (rowAt i).ty), .lit (.string (rowAt i).nm)] := by
  intro i hi d hd
  rcases lt26 hi with rfl | rfl | rfl | rfl | rfl | rfl | rfl | rfl | rfl | rfl | rfl | rfl | rfl | rfl | rfl | rfl | rfl | rfl | rfl | rfl | rfl | rfl | rfl | rfl | rfl | rfl <;> (cases hd; rfl)
theorem tab_row : ∀ i, i < 26 → tabCells[i * 3]? = some (.int .i64 (priN i)) ∧ tabCells[i * 3 + 1]? = some (.string (tyN i)) ∧ tabCells[i * 3 + 2]? = some (.string (nmN i)) := by
  intro i hi
  rcases lt26 hi with rfl | rfl | rfl | rfl | rfl | rfl | rfl | rfl | rfl | rfl | rfl | rfl | rfl | rfl | rfl | rfl | rfl | rfl | rfl | rfl | rfl | rfl | rfl | rfl | rfl | rfl <;> exact ⟨rfl, rfl, rfl⟩

theorem tab_of7 {W : World} {rest : List (String × DataW Unit)} (h' : laidMet Tryz.prog (("torchere/ops.operators", Rows.laid_torchere_ops_operators) :: rest) W) : Tab W := by
  obtain ⟨ps, ⟨g', t', cs, fuel, p, q, hg', ht', hvar, hd, _, _⟩, _⟩ := h'
  obtain rfl := Option.some.inj (gOps.symm.trans hg')
  obtain rfl := Option.some.inj (gOpsType.symm.trans ht')
  have hd' : DataW.trod (fun _ => ()) Tryz.prog W 0 (fun _ => true) false fuel 194 cs.toList = some (.agg (match (Rows.laid_torchere_ops_operators : DataW Unit) with | .agg ds => ds | _ => []), p) := hd
  have hlen : cs.toList.length = 78 := by
    cases fuel with
    | zero => simp [DataW.trod] at hd
    | succ fuel =>
      simp only [DataW.trod, Tryz.underlying194, cellsOps] at hd
      split at hd
      · rename_i hl; simpa using hl
      · cases hd
  have hcs : cs = tabCells := by
    apply Array.ext'
    apply List.ext_getElem?
    intro k
    by_cases hk : k < 78
    · have hk3 : k / 3 < 26 := by omega
      obtain ⟨fuel', d, q', h1, h2⟩ := Lib.array_elem Tryz.underlying194 hd' (k / 3) hk3
      have e := data_row (k / 3) hk3 d h1
      subst e
      rw [cellsOp] at h2
      have h3 := row_cells h2
      obtain ⟨t0, t1, t2⟩ := tab_row (k / 3) hk3
      have hget : ∀ r, r < 3 → cs.toList[k / 3 * 3 + r]? = ([Value.int .i64 (priN (k / 3)), .string ⟨(rowAt (k / 3)).ty.toArray⟩, .string ⟨(rowAt (k / 3)).nm.toArray⟩] : List Value)[r]? := fun r hr => by
        rw [← h3, List.getElem?_take_of_lt hr, List.getElem?_drop]
      have hr : k % 3 = 0 ∨ k % 3 = 1 ∨ k % 3 = 2 := by omega
      have hkk : k / 3 * 3 + k % 3 = k := by omega
      rw [← hkk, hget _ (by omega)]
      rcases hr with e | e | e
      · rw [e, Nat.add_zero, Array.getElem?_toList (xs := tabCells), t0]; rfl
      · rw [e, Array.getElem?_toList (xs := tabCells), t1]; rfl
      · rw [e, Array.getElem?_toList (xs := tabCells), t2]; rfl
    · have h78 : tabCells.toList.length = 78 := rfl
      rw [List.getElem?_eq_none (by omega), List.getElem?_eq_none (by omega)]
  subst hcs
  unfold World.var? at hvar
  rw [gOps] at hvar
  simp only [Option.bind_some] at hvar
  split at hvar
  · rename_i c t fr hh
    cases hvar
    exact ⟨t, fr, hh⟩
  · cases hvar

theorem gTab : Tryz.prog.globalNamed "internal/strconv.uint64pow10" = some 2 := by kernel_rfl
theorem gTabType : (Tryz.prog.globals[2]?).map (·.type) = some 170 := by kernel_rfl
theorem cellsTab : Tryz.prog.cellsOf 170 = 20 := by kernel_rfl
theorem cellsU64 : Tryz.prog.cellsOf 121 = 1 := by kernel_rfl
theorem gErr : Tryz.prog.globalNamed "strconv.ErrRange" = some 4 := by kernel_rfl
theorem gErrType : (Tryz.prog.globals[4]?).map (·.type) = some 58 := by kernel_rfl
theorem rowErr (u : TypeId) (h : Tryz.prog.typeName? 3 u = some "*errors.errorString") : u = 197 :=
  typeName_ptr_named (nm := "errors.errorString") (by kernel_rfl) (by kernel_rfl) (by decide) u h
theorem cellsErr : Tryz.prog.cellsOf 199 = 1 := by kernel_rfl
theorem cellsStr : Tryz.prog.cellsOf 9 = 1 := by kernel_rfl

theorem gErrT : Tryz.prog.globalNamed "errors.errorType" = some 0 := by kernel_rfl
theorem rtRow : (Tryz.prog.cutTypes.find? (·.1 == "internal/reflectlite.rtype")).map (·.2) = some 150 := by kernel_rfl
theorem errRow : ((List.range 227).filter fun t => Tryz.prog.rowNamed t [101, 114, 114, 111, 114]) = [58] := by kernel_rfl
theorem typesSize : Tryz.prog.types.size = 227 := by kernel_rfl

/-- WHAT THE LIST GIVES. -/
theorem laid_of7 {W : World} (h : laidMetH Tryz.prog Rows.writerBackUptoRow.laid W) : Laid W ∧ Tab W ∧ ErrT W := by
  have h' : laidMet Tryz.prog [("math/bits.deBruijn32tab", Rows.laid_math_bits_deBruijn32tab), ("math/bits.deBruijn64tab", Rows.laid_math_bits_deBruijn64tab), ("internal/strconv.uint64pow10", Rows.laid_internal_strconv_uint64pow10), ("torchere/ops.operators", Rows.laid_torchere_ops_operators), ("strconv.ErrRange", Rows.laid_strconv_ErrRange), ("strconv.ErrSyntax", Rows.laid_strconv_ErrSyntax)] W ∧ handlesMet Tryz.prog [("errors.errorType", Rows.laid_errors_errorType)] W := h
  have h3 : laidMet Tryz.prog (("internal/strconv.uint64pow10", Lib.tabData .u64 Lib.pow10Tab) :: [("torchere/ops.operators", Rows.laid_torchere_ops_operators), ("strconv.ErrRange", Rows.laid_strconv_ErrRange), ("strconv.ErrSyntax", Rows.laid_strconv_ErrSyntax)]) W := h'.1.tail.tail
  refine ⟨⟨Lib.tabIs_of_head gTab gTabType Tryz.underlying170 Tryz.underlying121 cellsU64 cellsTab h3, ?_⟩, tab_of7 h3.tail, ?_⟩
  · obtain ⟨a, s, hv, _⟩ := laid_sentinel h3.tail.tail gErr gErrType Tryz.underlying58 rowErr Tryz.underlying197 Tryz.underlying199 rfl rfl Tryz.underlying9 cellsErr cellsStr
    exact ⟨_, _, hv⟩
  obtain ⟨name, u, ty, e1, e2, e3, e4, e5⟩ := h'.2 _ (List.mem_singleton.2 rfl)
  have en : name = [101, 114, 114, 111, 114] := (Option.some.inj e1).symm
  subst en
  obtain rfl := Option.some.inj (rtRow.symm.trans e2)
  have hm : ty ∈ (List.range 227).filter fun t => Tryz.prog.rowNamed t [101, 114, 114, 111, 114] := List.mem_filter.2 ⟨List.mem_range.2 (by rw [← typesSize]; exact e3), e4⟩
  rw [errRow] at hm
  obtain rfl := List.mem_singleton.1 hm
  have hh : typeHandle Tryz.prog 58 = .pointer (some ⟨8, 58, none⟩) := by kernel_rfl
  rw [hh] at e5
  have hc : W.cell? ⟨0, 0, none⟩ = some (.iface 150 (.agg #[.pointer (some ⟨8, 58, none⟩)])) := by simpa using World.var?_cell gErrT e5 0
  refine ⟨hc, ?_⟩
  rcases Nat.lt_or_ge 0 W.heap.size with h | h
  · exact h
  · simp [World.cell?, Array.getElem?_eq_none h] at hc

theorem door_met7 (os : Os) (args : Array Value) : laidMetH Tryz.prog Rows.writerBackUptoRow.laid ((World.doorLaid Tryz.prog 100 os).forCall (fun _ _ => 0) ⟨#[], args, []⟩).memory :=
  laidMetH_of_parts3 (fuel := 8) (laidMet_of_run' 8 (by kernel_rfl) (by kernel_rfl)) (by kernel_rfl) (by kernel_rfl)
end Go.Proofs.YtfencolokfghfaaGreatDoor
