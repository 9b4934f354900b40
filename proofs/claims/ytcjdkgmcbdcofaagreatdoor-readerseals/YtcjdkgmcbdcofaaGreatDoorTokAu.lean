/-
  The walk of errors.as at an error of Scan's: it is unwrapped once; what it wraps is the code.
-/
import Derived.Test.YtcjdkgmcbdcofaaGreatDoorTokAt
import Derived.Handy
namespace Go.Proofs.YtcjdkgmcbdcofaaGreatDoor
open Go.RowKit Go.Extern.Stop Go.Stop Go.Extern
set_option linter.unusedVariables false

theorem as_noAs (v : Value) (w : World) : (Instr.typeAssert (.iface 65 v) 47 138 true).run Tryz.prog w = .ok (.tuple #[.nilIface, .bool false]) w := run_typeAssert_lacksB Tryz.underlying138 (by kernel_rfl) (by kernel_rfl) v 47 w
theorem as_unwraps (v : Value) (w : World) : (Instr.typeAssert (.iface 65 v) 47 141 true).run Tryz.prog w = .ok (.tuple #[.iface 65 v, .bool true]) w := run_typeAssert_hasB Tryz.underlying141 (by kernel_rfl) v 47 w

theorem unwrap_at (x : ByteArray) (u : TypeId) (v : Value) (w : World) : Calls Tryz.prog 135 #[.agg #[.string x, .iface u v]] w fun e w' => e = .returned (.iface u v) ∧ w' = w.alloc (.cells #[.string x, .iface u v] 65) := by
  go_enter Tryz.func135, Tryz.ntmps135
  go_wp2
  go_ret
  exact ⟨rfl, rfl⟩

def valP (a : Addr) : Value := .agg #[.pointer (some ⟨8, 92, none⟩), .pointer (some a), .int .u64 150]
def typE : Value := .iface 133 (.agg #[.pointer (some ⟨8, 24, none⟩)])

set_option maxRecDepth 100000 in
set_option maxHeartbeats 4000000 in
theorem as_at (x : ByteArray) (c : Int) (t a : Addr) (old : Value) (w : World) (ha : w.cell? a = some (.pointer (some t))) (hal : a.block < w.heap.size) (ht : w.cell? t = some old) (htl : t.block < w.heap.size) (hf : w.frozen? t = false) :
    Calls Tryz.prog 68 #[.iface 65 (.agg #[.string x, .iface 24 (.int .i64 c)]), .iface 92 (.pointer (some t)), valP a, typE] w fun e w' => e = .returned (.bool true) ∧ ∃ W, Below w.heap.size w W ∧ w' = W.setCell t (.int .i64 c) := by
  have h10 := @run_callFunc_extern Tryz.prog 81 _ ReflectliteType.typeOf Tryz.func81 (by kernel_rfl) (by kernel_rfl) (by kernel_rfl) (by kernel_rfl)
  have h35 := @run_callFunc_extern Tryz.prog 140 _ (ReflectliteType.relation "AssignableTo" ReflectliteType.assignableTo) Tryz.func140 (by kernel_rfl) (by kernel_rfl) (by kernel_rfl) (by kernel_rfl)
  have h11 := @run_callFunc_extern Tryz.prog 82 _ (ReflectliteValue.method (ReflectliteValue.valueError "reflectlite.Value.Elem" 0) ReflectliteValue.elem) Tryz.func82 (by kernel_rfl) (by kernel_rfl) (by kernel_rfl) (by kernel_rfl)
  have h12 := @run_callFunc_extern Tryz.prog 83 _ ReflectliteValue.set Tryz.func83 (by kernel_rfl) (by kernel_rfl) (by kernel_rfl) (by kernel_rfl)
  have h6 := @run_callFunc_extern Tryz.prog 65 _ (fun args => ReflectliteValue.unpack (args.getD 0 (.tuple #[]))) Tryz.func65 (by kernel_rfl) (by kernel_rfl) (by kernel_rfl) (by kernel_rfl)
  have tF := as_typeOfF
  have tE := as_typeOfE
  have mA := as_methodAssignableTo
  have aF := as_assignF
  have aE := as_assignE
  have nA := as_noAs
  have yU := as_unwraps
  have mU := as_methodUnwrap
  have hU := unwrap_at x 24 (.int .i64 c)
  unfold valP typE
  go_enter Tryz.func68, Tryz.ntmps68
  go_wp2
  refine wp_loop_rounds 2 ?_
  rw [rounds_succ]
  go_wp2_with (go_at_call 135; refine (hU _).mono ?_; rintro e w2 ⟨rfl, hw2⟩; subst hw2)
  obtain ⟨W, hW⟩ : ∃ W, W = (w.alloc (.cells #[.pointer (some ⟨8, 92, none⟩), .pointer (some a), .int .u64 150] 112)).alloc (.cells #[.string x, .iface 24 (.int .i64 c)] 65) := ⟨_, rfl⟩
  rw [← hW]
  have hB : Below w.heap.size w W := by rw [hW]; exact bel_al (bel_al (Below.refl _ _) _) _
  have hx : W.heap[w.heap.size]? = some (.cells #[.pointer (some ⟨8, 92, none⟩), .pointer (some a), .int .u64 150] 112 (0, 0)) := by rw [hW]; exact (Below.heap_alloc _ _ _ (by simp)).trans (alloc_new _ _)
  clear hW
  have k0 : W.cell? ⟨w.heap.size, 0, none⟩ = some (.pointer (some ⟨8, 92, none⟩)) := by simp [World.cell?, hx]
  have k1 : W.cell? ⟨w.heap.size, 1, none⟩ = some (.pointer (some a)) := by simp [World.cell?, hx]
  have k2 : W.cell? ⟨w.heap.size, 2, none⟩ = some (.int .u64 150) := by simp [World.cell?, hx]
  have el := as_elemVP a t W ((hB.cell hal).trans ha)
  have vE := as_valueOfE c W
  have hl2 := hB.size
  have st := as_setE t ⟨W.heap.size, 0, none⟩ c old (W.alloc (.cells #[.int .i64 c] 24)) (by rw [World.cell?_alloc_new]; rfl)
    (by rw [World.cell?_alloc_lt _ _ t (by omega)]; exact (hB.cell htl).trans ht)
    (by rw [World.frozen?_alloc_old _ _ t (by omega)]; have := hB.block t.block htl; unfold World.frozen? at hf ⊢; rw [this]; exact hf)
  have HB := Lib.hid hB
  clear hB hx hU mU yU nA aF tF hl2
  rw [rounds_succ]
  go_wp2
  go_ret
  exact ⟨rfl, _, bel_al HB.out _, rfl⟩
end Go.Proofs.YtcjdkgmcbdcofaaGreatDoor
