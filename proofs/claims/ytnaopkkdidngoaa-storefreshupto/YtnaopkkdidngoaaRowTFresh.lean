/-
  The second statement of StoreFresh, proved: where what it is given is of bulk at most 1048576, the call returns true, and each argument reads as it did.
-/
import Derived.Test.YtnaopkkdidngoaaRowB
import Derived.Test.YtnaopkkdidngoaaLawTFresh
import Derived.ChangeSlices
namespace Go.Proofs.Ytnaopkkdidngoaa
open Go.ChangeShapes Go.WideShapes Go.ChangeAt Go.RowKit
set_option linter.unusedVariables false
/-- A slice of small numbers that came in. -/
theorem open_u16 {H : Type} {enc : TypeId × Value → H} {w : World} {a : Option Addr} {len cap : Nat} {d : DataW H} {p : List MemPlace} (h : DataW.Trod enc Try.prog w 0 (fun _ => true) true 51 (.slice a len cap) d p) :
    len ≤ cap ∧ cap ≤ maxLen ∧ U16At w.heap.size w a len := by
  obtain ⟨fuel, hf⟩ := h
  rcases ChangeShapes.open_ints (k := .u16) Try.underlying51 Try.underlying52 (by kernel_rfl) hf with ⟨hcs, _⟩ | ⟨ad, len', cap', zs, hcs, _, hl, hm, hz, _, hcell, hwf⟩
  · simp [Value.cells] at hcs
    obtain ⟨rfl, rfl, rfl⟩ := hcs
    exact ⟨Nat.le_refl _, Nat.zero_le _, fun i hi => absurd hi (Nat.not_lt_zero _)⟩
  · simp [Value.cells] at hcs
    obtain ⟨rfl, rfl, rfl⟩ := hcs
    simp at hz
    refine ⟨hl, hm, fun i hi => ?_⟩
    have hi' : i < zs.length := by omega
    have hce := hcell i hi'
    have hn := bounds_u16 (hwf zs[i] (List.getElem_mem hi'))
    have hget : zs.getD i 0 = zs[i] := by simp [List.getD, List.getElem?_eq_getElem hi']
    rw [hget] at hce
    exact ⟨ad, zs[i], rfl, by have := cell_lt hce; rwa [adB] at this, hce, by omega, by omega⟩
end Go.Proofs.Ytnaopkkdidngoaa
namespace Go.Proofs.Ytnaopkkdidngoaa.storeFreshRow
open Go.ChangeShapes Go.WideShapes Go.ChangeAt Go.RowKit
open Go.ChangeMaps (open_string shut_string)
set_option linter.unusedVariables false

set_option maxRecDepth 100000 in
theorem lifted (os : Os) (started : os.Started) (H : Type) (enc : TypeId × Value → H) (F : Stop.Interp) :
    ReturnsInHanded {} Try.checked os 7 .any ((Rows.OpenSpec.upto Rows.storeFreshSpec).pre6 enc Try.prog Try.f7 Rows.storeFreshUptoRow.domain false) (((Rows.OpenSpec.upto Rows.storeFreshSpec).at F).post enc Try.prog Try.f7 false true false false) := by
  refine returnsInHanded_of_cond (C := Try.checked) (s := Rows.OpenSpec.upto Rows.storeFreshSpec) (k := Rows.uptoSmall) rfl own started (by kernel_rfl) Try.func7
    (OpenSpec.witness (enc := enc) (C := Try.checked) (s := Rows.OpenSpec.upto Rows.storeFreshSpec) (k := Rows.uptoSmall) rfl false ⟨#[], #[.slice none 0 0], []⟩ 8 (by kernel_rfl) (by kernel_rfl) (by kernel_rfl)
      (x := ([.nil], [], [])) (by kernel_rfl) rfl (by kernel_rfl)) ?_
  intro W base args ds gs before hval0 hW _ hk _
  have hval : ∀ (j : Nat) t v, Try.f7.params[j]? = some t → args[j]? = some v → Value.okWide Try.prog W .any base t v := hval0
  have hW' := hW
  obtain ⟨p, q, hA0, hV, rfl, hfz, hnd⟩ := hW
  have hA : DataW.TrodAll enc Try.prog W 0 (fun _ => true) true Try.f7.params.toList args.toList ds p := hA0
  rw [Try.params7] at hA hval
  obtain ⟨v0, vs0, d0, ds0, p0, q0, hargs, rfl, rfl, h0, r0⟩ := trodAll_cons hA
  obtain ⟨rfl, rfl, rfl⟩ := trodAll_nil r0
  obtain rfl : args = #[v0] := by cases args; simp_all
  obtain ⟨rfl, rfl⟩ := trodVars_none hV
  rw [List.append_nil] at hk
  have hbulk : Rows.uptoBulkAll [d0] ≤ 1048576 := of_decide_eq_true hk
  simp only [Rows.uptoBulkAll] at hbulk
  have k0 := h0
  have lt0 : ∀ x ∈ p0, x.block < W.heap.size := by obtain ⟨m, hm⟩ := k0; exact DataW.trod_lt m _ _ _ hm
  obtain ⟨a0, len0, cap0, rfl⟩ := okWide_slice Try.underlying51 (hval 0 51 v0 rfl rfl)
  obtain ⟨w0l, w0m, w0⟩ := open_u16 h0
  clear hA0 hval0
  refine (storeFresh_at a0 len0 cap0 W w0l w0m w0).mono fun e W' ⟨he, bel⟩ => ?_
  subst he
  exact ⟨_, rfl, _, _, _, [], _, [], hW', trodAll_mk1 (shut_bool Try.underlying4 _), (trodAll_cons_mk (Below.trod laidOut (by kernel_rfl) (of_decide_eq_true (by kernel_rfl)) k0 bel lt0) trodAll_mk0), rfl, bel.frame _, fun h => by cases h⟩

end Go.Proofs.Ytnaopkkdidngoaa.storeFreshRow
namespace Go.Proofs.Ytnaopkkdidngoaa
open Go.ChangeShapes Go.WideShapes Go.ChangeAt Go.RowKit

theorem storeFresh_upto : Rows.StoreFreshUptoSaid :=
  OpenClaim.holds_of_cond 7 Try.f7 rfl rfl rfl rfl rfl rfl rfl ⟨rfl, rfl, rfl, rfl, rfl⟩ rfl rfl rfl rfl rfl (by kernel_rfl) Try.func7 (by kernel_rfl)
    (of_decide_eq_true (by kernel_rfl)) (by unfold Func.isWrapper; first | (rw [if_pos (by decide +kernel)]; kernel_rfl) | (rw [if_neg (by decide +kernel)]; exact ⟨rfl, rfl⟩))
    (fun os started H enc _ F => storeFreshRow.lifted os started H enc F)
#print axioms storeFresh_upto
end Go.Proofs.Ytnaopkkdidngoaa
