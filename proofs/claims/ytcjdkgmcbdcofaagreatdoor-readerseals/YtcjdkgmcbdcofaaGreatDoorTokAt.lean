/-
  The entries of internal/reflectlite that read or write memory, at a target of type *api.Errno.
-/
import Derived.Test.YtcjdkgmcbdcofaaGreatDoorTokAs
namespace Go.Proofs.YtcjdkgmcbdcofaaGreatDoor
open Go.RowKit Go.Extern.Stop Go.Stop Go.Extern
set_option linter.unusedVariables false

theorem run_of_eq {P : Program} {α : Type} {x y : Sem α} (h : x = y) {w : World} {r : Result α} (k : y.run P w = r) : x.run P w = r := h ▸ k
theorem as_isNilP (a p : Addr) (W : World) (ha : W.cell? a = some (.pointer (some p))) :
    (ReflectliteValue.method (ReflectliteValue.valueError "reflectlite.Value.IsNil" 0) ReflectliteValue.isNil #[.agg #[.pointer (some ⟨8, 92, none⟩), .pointer (some a), .int .u64 150]]).run Tryz.prog W = .ok (.bool false) W := by
  refine run_of_eq (y := bind (ReflectliteValue.parts (.agg #[.pointer (some ⟨8, 92, none⟩), .pointer (some a), .int .u64 150])) _) rfl ?_
  simp only [Sem.run_bind, as_partsP, Result.andThen]
  simp [ReflectliteValue.isNil, loadVar, isAgg, underlying, Tryz.underlying92, ha, Result.andThen]
theorem as_elemVP (a p : Addr) (W : World) (ha : W.cell? a = some (.pointer (some p))) :
    (ReflectliteValue.method (ReflectliteValue.valueError "reflectlite.Value.Elem" 0) ReflectliteValue.elem #[.agg #[.pointer (some ⟨8, 92, none⟩), .pointer (some a), .int .u64 150]]).run Tryz.prog W
      = .ok (.agg #[.pointer (some ⟨8, 24, none⟩), .pointer (some p), .int .u64 386]) W := by
  refine run_of_eq (y := bind (ReflectliteValue.parts (.agg #[.pointer (some ⟨8, 92, none⟩), .pointer (some a), .int .u64 150])) _) rfl ?_
  simp only [Sem.run_bind, as_partsP, Result.andThen]
  simp [ReflectliteValue.elem, loadVar, isAgg, underlying, Tryz.underlying92, ha, Result.andThen, as_elemOfP, as_mkE]
theorem as_setE (ta b : Addr) (c : Int) (old : Value) (W : World) (hb : W.cell? b = some (.int .i64 c)) (ht : W.cell? ta = some old) (hf : W.frozen? ta = false) :
    (ReflectliteValue.set #[.agg #[.pointer (some ⟨8, 24, none⟩), .pointer (some ta), .int .u64 386], .agg #[.pointer (some ⟨8, 24, none⟩), .pointer (some b), .int .u64 130]]).run Tryz.prog W
      = .ok (.tuple #[]) (W.setCell ta (.int .i64 c)) := by
  refine run_of_eq (y := bind (ReflectliteValue.parts (.agg #[.pointer (some ⟨8, 24, none⟩), .pointer (some ta), .int .u64 386])) fun p => bind (ReflectliteValue.parts (.agg #[.pointer (some ⟨8, 24, none⟩), .pointer (some b), .int .u64 130])) fun q => _) rfl ?_
  simp only [Sem.run_bind, as_partsEa, as_partsE, Result.andThen]
  simp [ReflectliteValue.flagAddr, loadVar, isAgg, underlying, Tryz.underlying24, hb, Result.andThen, as_directE, storeVar, Value.cells, storeCells, Addr.add]
  rw [run_store Tryz.prog W ta _ _ (by rfl)]
  simp [ht, hf]
end Go.Proofs.YtcjdkgmcbdcofaaGreatDoor
