/-
  The walks of errors.As at an error of Scan's and of grant.Code.
-/
import Derived.Test.YtcjdkgmcbdcofaaGreatDoorTokAu
namespace Go.Proofs.YtcjdkgmcbdcofaaGreatDoor
open Go.RowKit Go.Extern.Stop Go.Stop Go.Extern
set_option linter.unusedVariables false

/-- The package-level variable errors.errorType: the type of errors. -/
def ErrT (w : World) : Prop := w.cell? ⟨0, 0, none⟩ = some (.iface 133 (.agg #[.pointer (some ⟨8, 47, none⟩)])) ∧ 0 < w.heap.size
theorem ErrT.later {w W : World} (h : ErrT w) (hb : Below w.heap.size w W) : ErrT W := ⟨(hb.cell (p := ⟨0, 0, none⟩) h.2).trans h.1, Nat.lt_of_lt_of_le h.2 hb.size⟩

set_option maxRecDepth 100000 in
set_option maxHeartbeats 4000000 in
theorem asErr_at (x : ByteArray) (c : Int) (t : Addr) (old : Value) (w : World) (hg : ErrT w) (ht : w.cell? t = some old) (htl : t.block < w.heap.size) (hf : w.frozen? t = false) :
    Calls Tryz.prog 50 #[.iface 65 (.agg #[.string x, .iface 24 (.int .i64 c)]), .iface 92 (.pointer (some t))] w fun e w' => e = .returned (.bool true) ∧ ∃ W, Below w.heap.size w W ∧ w' = W.setCell t (.int .i64 c) := by
  have h6 := @run_callFunc_extern Tryz.prog 65 _ (fun args => ReflectliteValue.unpack (args.getD 0 (.tuple #[]))) Tryz.func65 (by kernel_rfl) (by kernel_rfl) (by kernel_rfl) (by kernel_rfl)
  have h7 := @run_callFunc_extern Tryz.prog 66 _ (ReflectliteValue.methodAny (ReflectliteValue.valueError "reflectlite.Value.Type" 0) (fun t _ _ _ => ReflectliteType.toType t)) Tryz.func66 (by kernel_rfl) (by kernel_rfl) (by kernel_rfl) (by kernel_rfl)
  have h8 := @run_callFunc_extern Tryz.prog 67 _ (ReflectliteValue.method (ReflectliteValue.valueError "reflectlite.Value.IsNil" 0) ReflectliteValue.isNil) Tryz.func67 (by kernel_rfl) (by kernel_rfl) (by kernel_rfl) (by kernel_rfl)
  have h27 := @run_callFunc_extern Tryz.prog 130 _ (ReflectliteType.abiMethod fun t => do pure (.int .u8 (← Rtype.kind t))) Tryz.func130 (by kernel_rfl) (by kernel_rfl) (by kernel_rfl) (by kernel_rfl)
  have h37 := @run_callFunc_extern Tryz.prog 142 _ (ReflectliteType.method ReflectliteType.elem) Tryz.func142 (by kernel_rfl) (by kernel_rfl) (by kernel_rfl) (by kernel_rfl)
  have h38 := @run_callFunc_extern Tryz.prog 143 _ (ReflectliteType.relation "Implements" ReflectliteType.implements_) Tryz.func143 (by kernel_rfl) (by kernel_rfl) (by kernel_rfl) (by kernel_rfl)
  have f6 := as_valueOfP
  have f7 := as_typeP
  have mK := as_methodKind
  have mE := as_methodElem
  have mI := as_methodImplements
  have kP := as_kindP
  have kE := as_kindE
  have eP := as_elemP
  have iE := as_implementsE
  have hB1 : Below w.heap.size w (w.alloc (.cells #[.pointer (some t)] 92)) := bel_al (Below.refl _ _) _
  have hB2 : Below w.heap.size w ((w.alloc (.cells #[.pointer (some t)] 92)).alloc (.cells #[.pointer (some ⟨8, 92, none⟩), .pointer (some ⟨w.heap.size, 0, none⟩), .int .u64 150] 112)) := bel_al hB1 _
  have n8 := as_isNilP ⟨w.heap.size, 0, none⟩ t ((w.alloc (.cells #[.pointer (some t)] 92)).alloc (.cells #[.pointer (some ⟨8, 92, none⟩), .pointer (some ⟨w.heap.size, 0, none⟩), .int .u64 150] 112)) (by simp)
  have hg2 := (hg.later hB2).1
  have K := as_at x c t ⟨w.heap.size, 0, none⟩ old ((w.alloc (.cells #[.pointer (some t)] 92)).alloc (.cells #[.pointer (some ⟨8, 92, none⟩), .pointer (some ⟨w.heap.size, 0, none⟩), .int .u64 150] 112)) (by simp) (by simp; omega) ((hB2.cell htl).trans ht) (Nat.lt_of_lt_of_le htl hB2.size)
    (by have := hB2.block t.block htl; unfold World.frozen? at hf ⊢; rw [this]; exact hf)
  unfold valP typE at K
  have HB2 := Lib.hid hB2
  clear hB1 hB2 hg ht htl hf
  go_enter Tryz.func50, Tryz.ntmps50
  go_wp2_with (go_at_call 68; refine K.mono ?_; rintro e w3 ⟨rfl, W, hW, rfl⟩)
  go_ret
  exact ⟨rfl, W, bel HB2.out hW, rfl⟩
end Go.Proofs.YtcjdkgmcbdcofaaGreatDoor
