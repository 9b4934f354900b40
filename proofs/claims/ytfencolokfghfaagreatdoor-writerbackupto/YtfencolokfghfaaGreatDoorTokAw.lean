/-
  errors.As at a target of type *api.Errno: closed facts on the model's entries for internal/reflectlite at this program's types.
-/
import Derived.Test.YtfencolokfghfaaGreatDoorTokL
import Derived.LaidEql
import Derived.Stop.Asserts
import Derived.RowKitTokens
import Derived.Handy
import Derived.Defers
import Derived.Recover
namespace Go.Proofs.YtfencolokfghfaaGreatDoor
open Go.RowKit Go.Extern.Stop Go.Stop Go.Extern
set_option linter.unusedVariables false

theorem as_valueOfP (t : Addr) (w : World) : (ReflectliteValue.unpack (.iface 109 (.pointer (some t)))).run Tryz.prog w
    = .ok (.agg #[.pointer (some ⟨8, 109, none⟩), .pointer (some ⟨w.heap.size, 0, none⟩), .int .u64 150]) (w.alloc (.cells #[.pointer (some t)] 109)) := by kernel_rfl
theorem as_typeP (a : Addr) (w : World) : (ReflectliteValue.methodAny (ReflectliteValue.valueError "reflectlite.Value.Type" 0) (fun t _ _ _ => ReflectliteType.toType t) #[.agg #[.pointer (some ⟨8, 109, none⟩), .pointer (some a), .int .u64 150]]).run Tryz.prog w
    = .ok (.iface 150 (.agg #[.pointer (some ⟨8, 109, none⟩)])) w := by kernel_rfl
theorem as_kindP (w : World) : ((ReflectliteType.abiMethod fun t => (fun a : Nat => Value.int IntKind.u8 (a : Int)) <$> Rtype.kind t) #[.pointer (some ⟨8, 109, none⟩)]).run Tryz.prog w = .ok (.int .u8 22) w := by kernel_rfl
theorem as_kindE (w : World) : ((ReflectliteType.abiMethod fun t => (fun a : Nat => Value.int IntKind.u8 (a : Int)) <$> Rtype.kind t) #[.pointer (some ⟨8, 27, none⟩)]).run Tryz.prog w = .ok (.int .u8 2) w := by kernel_rfl
theorem as_elemP (w : World) : (ReflectliteType.method ReflectliteType.elem #[.agg #[.pointer (some ⟨8, 109, none⟩)]]).run Tryz.prog w = .ok (.iface 150 (.agg #[.pointer (some ⟨8, 27, none⟩)])) w := by kernel_rfl
theorem as_implementsE (w : World) : (ReflectliteType.relation "Implements" ReflectliteType.implements_ #[.agg #[.pointer (some ⟨8, 27, none⟩)], .iface 150 (.agg #[.pointer (some ⟨8, 58, none⟩)])]).run Tryz.prog w = .ok (.bool true) w := by kernel_rfl
theorem as_typeOfF (v : Value) (w : World) : (ReflectliteType.typeOf #[.iface 80 v]).run Tryz.prog w = .ok (.iface 150 (.agg #[.pointer (some ⟨8, 80, none⟩)])) w := by kernel_rfl
theorem as_typeOfE (v : Value) (w : World) : (ReflectliteType.typeOf #[.iface 27 v]).run Tryz.prog w = .ok (.iface 150 (.agg #[.pointer (some ⟨8, 27, none⟩)])) w := by kernel_rfl
theorem as_assignF (w : World) : (ReflectliteType.relation "AssignableTo" ReflectliteType.assignableTo #[.agg #[.pointer (some ⟨8, 80, none⟩)], .iface 150 (.agg #[.pointer (some ⟨8, 27, none⟩)])]).run Tryz.prog w = .ok (.bool false) w := by kernel_rfl
theorem as_assignE (w : World) : (ReflectliteType.relation "AssignableTo" ReflectliteType.assignableTo #[.agg #[.pointer (some ⟨8, 27, none⟩)], .iface 150 (.agg #[.pointer (some ⟨8, 27, none⟩)])]).run Tryz.prog w = .ok (.bool true) w := by kernel_rfl
theorem as_valueOfE (c : Int) (w : World) : (ReflectliteValue.unpack (.iface 27 (.int .i64 c))).run Tryz.prog w
    = .ok (.agg #[.pointer (some ⟨8, 27, none⟩), .pointer (some ⟨w.heap.size, 0, none⟩), .int .u64 130]) (w.alloc (.cells #[.int .i64 c] 27)) := by kernel_rfl
theorem as_elemOfP (w : World) : (Rtype.elem? 109).run Tryz.prog w = .ok (some 27) w := by kernel_rfl
theorem as_mkE (p : Addr) (w : World) : (ReflectliteValue.mk 27 p ReflectliteValue.flagAddr).run Tryz.prog w = .ok (.agg #[.pointer (some ⟨8, 27, none⟩), .pointer (some p), .int .u64 386]) w := by kernel_rfl
theorem as_directE (w : World) : (Rtype.directlyAssignable 27 27).run Tryz.prog w = .ok true w := by kernel_rfl

theorem as_methodKind (h : Value) (w : World) : (Go.method 327 150 (.agg #[h]) "Kind").run Tryz.prog w = .ok (147, h) w := by kernel_rfl
theorem as_methodElem (h : Value) (w : World) : (Go.method 327 150 (.agg #[h]) "Elem").run Tryz.prog w = .ok (160, .agg #[h]) w := by kernel_rfl
theorem as_methodImplements (h : Value) (w : World) : (Go.method 327 150 (.agg #[h]) "Implements").run Tryz.prog w = .ok (161, .agg #[h]) w := by kernel_rfl
theorem as_methodAssignableTo (h : Value) (w : World) : (Go.method 327 150 (.agg #[h]) "AssignableTo").run Tryz.prog w = .ok (158, .agg #[h]) w := by kernel_rfl
theorem as_methodUnwrap (h : Value) (w : World) : (Go.method 327 80 h "Unwrap").run Tryz.prog w = .ok (153, h) w := by kernel_rfl

theorem as_partsP (a : Addr) (w : World) : (ReflectliteValue.parts (.agg #[.pointer (some ⟨8, 109, none⟩), .pointer (some a), .int .u64 150])).run Tryz.prog w = .ok (some (109, a, 150)) w := by kernel_rfl
theorem as_partsEa (a : Addr) (w : World) : (ReflectliteValue.parts (.agg #[.pointer (some ⟨8, 27, none⟩), .pointer (some a), .int .u64 386])).run Tryz.prog w = .ok (some (27, a, 386)) w := by kernel_rfl
theorem as_partsE (a : Addr) (w : World) : (ReflectliteValue.parts (.agg #[.pointer (some ⟨8, 27, none⟩), .pointer (some a), .int .u64 130])).run Tryz.prog w = .ok (some (27, a, 130)) w := by kernel_rfl
end Go.Proofs.YtfencolokfghfaaGreatDoor
namespace Go.Proofs.YtfencolokfghfaaGreatDoor
open Go.RowKit Go.Extern.Stop Go.Stop Go.Extern
set_option linter.unusedVariables false

theorem run_of_eq {P : Program} {α : Type} {x y : Sem α} (h : x = y) {w : World} {r : Result α} (k : y.run P w = r) : x.run P w = r := h ▸ k
theorem as_isNilP (a p : Addr) (W : World) (ha : W.cell? a = some (.pointer (some p))) :
    (ReflectliteValue.method (ReflectliteValue.valueError "reflectlite.Value.IsNil" 0) ReflectliteValue.isNil #[.agg #[.pointer (some ⟨8, 109, none⟩), .pointer (some a), .int .u64 150]]).run Tryz.prog W = .ok (.bool false) W := by
  refine run_of_eq (y := bind (ReflectliteValue.parts (.agg #[.pointer (some ⟨8, 109, none⟩), .pointer (some a), .int .u64 150])) _) rfl ?_
  simp only [Sem.run_bind, as_partsP, Result.andThen]
  simp [ReflectliteValue.isNil, loadVar, isAgg, underlying, Tryz.underlying109, ha, Result.andThen]
theorem as_elemVP (a p : Addr) (W : World) (ha : W.cell? a = some (.pointer (some p))) :
    (ReflectliteValue.method (ReflectliteValue.valueError "reflectlite.Value.Elem" 0) ReflectliteValue.elem #[.agg #[.pointer (some ⟨8, 109, none⟩), .pointer (some a), .int .u64 150]]).run Tryz.prog W
      = .ok (.agg #[.pointer (some ⟨8, 27, none⟩), .pointer (some p), .int .u64 386]) W := by
  refine run_of_eq (y := bind (ReflectliteValue.parts (.agg #[.pointer (some ⟨8, 109, none⟩), .pointer (some a), .int .u64 150])) _) rfl ?_
  simp only [Sem.run_bind, as_partsP, Result.andThen]
  simp [ReflectliteValue.elem, loadVar, isAgg, underlying, Tryz.underlying109, ha, Result.andThen, as_elemOfP, as_mkE]
theorem as_setE (ta b : Addr) (c : Int) (old : Value) (W : World) (hb : W.cell? b = some (.int .i64 c)) (ht : W.cell? ta = some old) (hf : W.frozen? ta = false) :
    (ReflectliteValue.set #[.agg #[.pointer (some ⟨8, 27, none⟩), .pointer (some ta), .int .u64 386], .agg #[.pointer (some ⟨8, 27, none⟩), .pointer (some b), .int .u64 130]]).run Tryz.prog W
      = .ok (.tuple #[]) (W.setCell ta (.int .i64 c)) := by
  refine run_of_eq (y := bind (ReflectliteValue.parts (.agg #[.pointer (some ⟨8, 27, none⟩), .pointer (some ta), .int .u64 386])) fun p => bind (ReflectliteValue.parts (.agg #[.pointer (some ⟨8, 27, none⟩), .pointer (some b), .int .u64 130])) fun q => _) rfl ?_
  simp only [Sem.run_bind, as_partsEa, as_partsE, Result.andThen]
  simp [ReflectliteValue.flagAddr, loadVar, isAgg, underlying, Tryz.underlying27, hb, Result.andThen, as_directE, storeVar, Value.cells, storeCells, Addr.add]
  rw [run_store Tryz.prog W ta _ _ (by rfl)]
  simp [ht, hf]
end Go.Proofs.YtfencolokfghfaaGreatDoor
namespace Go.Proofs.YtfencolokfghfaaGreatDoor
open Go.RowKit Go.Extern.Stop Go.Stop Go.Extern
set_option linter.unusedVariables false

theorem as_noAs (v : Value) (w : World) : (Instr.typeAssert (.iface 80 v) 58 155 true).run Tryz.prog w = .ok (.tuple #[.nilIface, .bool false]) w := run_typeAssert_lacksB Tryz.underlying155 (by kernel_rfl) (by kernel_rfl) v 58 w
theorem as_unwraps (v : Value) (w : World) : (Instr.typeAssert (.iface 80 v) 58 158 true).run Tryz.prog w = .ok (.tuple #[.iface 80 v, .bool true]) w := run_typeAssert_hasB Tryz.underlying158 (by kernel_rfl) v 58 w

theorem unwrap_at (x : ByteArray) (u : TypeId) (v : Value) (w : World) : Calls Tryz.prog 153 #[.agg #[.string x, .iface u v]] w fun e w' => e = .returned (.iface u v) ∧ w' = w.alloc (.cells #[.string x, .iface u v] 80) := by
  go_enter Tryz.func153, Tryz.ntmps153
  go_wp2
  go_ret
  exact ⟨rfl, rfl⟩

def valP (a : Addr) : Value := .agg #[.pointer (some ⟨8, 109, none⟩), .pointer (some a), .int .u64 150]
def typE : Value := .iface 150 (.agg #[.pointer (some ⟨8, 27, none⟩)])

set_option maxRecDepth 100000 in
set_option maxHeartbeats 4000000 in
theorem as_at (x : ByteArray) (c : Int) (t a : Addr) (old : Value) (w : World) (ha : w.cell? a = some (.pointer (some t))) (hal : a.block < w.heap.size) (ht : w.cell? t = some old) (htl : t.block < w.heap.size) (hf : w.frozen? t = false) :
    Calls Tryz.prog 84 #[.iface 80 (.agg #[.string x, .iface 27 (.int .i64 c)]), .iface 109 (.pointer (some t)), valP a, typE] w fun e w' => e = .returned (.bool true) ∧ ∃ W, Below w.heap.size w W ∧ w' = W.setCell t (.int .i64 c) := by
  have h10 := @run_callFunc_extern Tryz.prog 98 _ ReflectliteType.typeOf Tryz.func98 (by kernel_rfl) (by kernel_rfl) (by kernel_rfl) (by kernel_rfl)
  have h35 := @run_callFunc_extern Tryz.prog 158 _ (ReflectliteType.relation "AssignableTo" ReflectliteType.assignableTo) Tryz.func158 (by kernel_rfl) (by kernel_rfl) (by kernel_rfl) (by kernel_rfl)
  have h11 := @run_callFunc_extern Tryz.prog 99 _ (ReflectliteValue.method (ReflectliteValue.valueError "reflectlite.Value.Elem" 0) ReflectliteValue.elem) Tryz.func99 (by kernel_rfl) (by kernel_rfl) (by kernel_rfl) (by kernel_rfl)
  have h12 := @run_callFunc_extern Tryz.prog 100 _ ReflectliteValue.set Tryz.func100 (by kernel_rfl) (by kernel_rfl) (by kernel_rfl) (by kernel_rfl)
  have h6 := @run_callFunc_extern Tryz.prog 81 _ (fun args => ReflectliteValue.unpack (args.getD 0 (.tuple #[]))) Tryz.func81 (by kernel_rfl) (by kernel_rfl) (by kernel_rfl) (by kernel_rfl)
  have tF := as_typeOfF
  have tE := as_typeOfE
  have mA := as_methodAssignableTo
  have aF := as_assignF
  have aE := as_assignE
  have nA := as_noAs
  have yU := as_unwraps
  have mU := as_methodUnwrap
  have hU := unwrap_at x 27 (.int .i64 c)
  unfold valP typE
  go_enter Tryz.func84, Tryz.ntmps84
  go_wp2
  refine wp_loop_rounds 2 ?_
  rw [rounds_succ]
  go_wp2_with (go_at_call 153; refine (hU _).mono ?_; rintro e w2 ⟨rfl, hw2⟩; subst hw2)
  obtain ⟨W, hW⟩ : ∃ W, W = (w.alloc (.cells #[.pointer (some ⟨8, 109, none⟩), .pointer (some a), .int .u64 150] 128)).alloc (.cells #[.string x, .iface 27 (.int .i64 c)] 80) := ⟨_, rfl⟩
  rw [← hW]
  have hB : Below w.heap.size w W := by rw [hW]; exact bel_al (bel_al (Below.refl _ _) _) _
  have hx : W.heap[w.heap.size]? = some (.cells #[.pointer (some ⟨8, 109, none⟩), .pointer (some a), .int .u64 150] 128 (0, 0)) := by rw [hW]; exact (Below.heap_alloc _ _ _ (by simp)).trans (alloc_new _ _)
  clear hW
  have k0 : W.cell? ⟨w.heap.size, 0, none⟩ = some (.pointer (some ⟨8, 109, none⟩)) := by simp [World.cell?, hx]
  have k1 : W.cell? ⟨w.heap.size, 1, none⟩ = some (.pointer (some a)) := by simp [World.cell?, hx]
  have k2 : W.cell? ⟨w.heap.size, 2, none⟩ = some (.int .u64 150) := by simp [World.cell?, hx]
  have el := as_elemVP a t W ((hB.cell hal).trans ha)
  have vE := as_valueOfE c W
  have hl2 := hB.size
  have st := as_setE t ⟨W.heap.size, 0, none⟩ c old (W.alloc (.cells #[.int .i64 c] 27)) (by rw [World.cell?_alloc_new]; rfl)
    (by rw [World.cell?_alloc_lt _ _ t (by omega)]; exact (hB.cell htl).trans ht)
    (by rw [World.frozen?_alloc_old _ _ t (by omega)]; have := hB.block t.block htl; unfold World.frozen? at hf ⊢; rw [this]; exact hf)
  have HB := Lib.hid hB
  clear hB hx hU mU yU nA aF tF hl2
  rw [rounds_succ]
  go_wp2
  go_ret
  exact ⟨rfl, _, bel_al HB.out _, rfl⟩
end Go.Proofs.YtfencolokfghfaaGreatDoor
namespace Go.Proofs.YtfencolokfghfaaGreatDoor
open Go.RowKit Go.Extern.Stop Go.Stop Go.Extern
set_option linter.unusedVariables false

/-- The package-level variable errors.errorType: the type of errors. -/
def ErrT (w : World) : Prop := w.cell? ⟨0, 0, none⟩ = some (.iface 150 (.agg #[.pointer (some ⟨8, 58, none⟩)])) ∧ 0 < w.heap.size
theorem ErrT.later {w W : World} (h : ErrT w) (hb : Below w.heap.size w W) : ErrT W := ⟨(hb.cell (p := ⟨0, 0, none⟩) h.2).trans h.1, Nat.lt_of_lt_of_le h.2 hb.size⟩

set_option maxRecDepth 100000 in
set_option maxHeartbeats 4000000 in
theorem asErr_at (x : ByteArray) (c : Int) (t : Addr) (old : Value) (w : World) (hg : ErrT w) (ht : w.cell? t = some old) (htl : t.block < w.heap.size) (hf : w.frozen? t = false) :
    Calls Tryz.prog 64 #[.iface 80 (.agg #[.string x, .iface 27 (.int .i64 c)]), .iface 109 (.pointer (some t))] w fun e w' => e = .returned (.bool true) ∧ ∃ W, Below w.heap.size w W ∧ w' = W.setCell t (.int .i64 c) := by
  have h6 := @run_callFunc_extern Tryz.prog 81 _ (fun args => ReflectliteValue.unpack (args.getD 0 (.tuple #[]))) Tryz.func81 (by kernel_rfl) (by kernel_rfl) (by kernel_rfl) (by kernel_rfl)
  have h7 := @run_callFunc_extern Tryz.prog 82 _ (ReflectliteValue.methodAny (ReflectliteValue.valueError "reflectlite.Value.Type" 0) (fun t _ _ _ => ReflectliteType.toType t)) Tryz.func82 (by kernel_rfl) (by kernel_rfl) (by kernel_rfl) (by kernel_rfl)
  have h8 := @run_callFunc_extern Tryz.prog 83 _ (ReflectliteValue.method (ReflectliteValue.valueError "reflectlite.Value.IsNil" 0) ReflectliteValue.isNil) Tryz.func83 (by kernel_rfl) (by kernel_rfl) (by kernel_rfl) (by kernel_rfl)
  have h27 := @run_callFunc_extern Tryz.prog 147 _ (ReflectliteType.abiMethod fun t => do pure (.int .u8 (← Rtype.kind t))) Tryz.func147 (by kernel_rfl) (by kernel_rfl) (by kernel_rfl) (by kernel_rfl)
  have h37 := @run_callFunc_extern Tryz.prog 160 _ (ReflectliteType.method ReflectliteType.elem) Tryz.func160 (by kernel_rfl) (by kernel_rfl) (by kernel_rfl) (by kernel_rfl)
  have h38 := @run_callFunc_extern Tryz.prog 161 _ (ReflectliteType.relation "Implements" ReflectliteType.implements_) Tryz.func161 (by kernel_rfl) (by kernel_rfl) (by kernel_rfl) (by kernel_rfl)
  have f6 := as_valueOfP
  have f7 := as_typeP
  have mK := as_methodKind
  have mE := as_methodElem
  have mI := as_methodImplements
  have kP := as_kindP
  have kE := as_kindE
  have eP := as_elemP
  have iE := as_implementsE
  have hB1 : Below w.heap.size w (w.alloc (.cells #[.pointer (some t)] 109)) := bel_al (Below.refl _ _) _
  have hB2 : Below w.heap.size w ((w.alloc (.cells #[.pointer (some t)] 109)).alloc (.cells #[.pointer (some ⟨8, 109, none⟩), .pointer (some ⟨w.heap.size, 0, none⟩), .int .u64 150] 128)) := bel_al hB1 _
  have n8 := as_isNilP ⟨w.heap.size, 0, none⟩ t ((w.alloc (.cells #[.pointer (some t)] 109)).alloc (.cells #[.pointer (some ⟨8, 109, none⟩), .pointer (some ⟨w.heap.size, 0, none⟩), .int .u64 150] 128)) (by simp)
  have hg2 := (hg.later hB2).1
  have K := as_at x c t ⟨w.heap.size, 0, none⟩ old ((w.alloc (.cells #[.pointer (some t)] 109)).alloc (.cells #[.pointer (some ⟨8, 109, none⟩), .pointer (some ⟨w.heap.size, 0, none⟩), .int .u64 150] 128)) (by simp) (by simp; omega) ((hB2.cell htl).trans ht) (Nat.lt_of_lt_of_le htl hB2.size)
    (by have := hB2.block t.block htl; unfold World.frozen? at hf ⊢; rw [this]; exact hf)
  unfold valP typE at K
  have HB2 := Lib.hid hB2
  clear hB1 hB2 hg ht htl hf
  go_enter Tryz.func64, Tryz.ntmps64
  go_wp2_with (go_at_call 84; refine K.mono ?_; rintro e w3 ⟨rfl, W, hW, rfl⟩)
  go_ret
  exact ⟨rfl, W, bel HB2.out hW, rfl⟩
end Go.Proofs.YtfencolokfghfaaGreatDoor
namespace Go.Proofs.YtfencolokfghfaaGreatDoor
open Go.RowKit Go.Extern.Stop Go.Stop Go.Extern
set_option linter.unusedVariables false

theorem set_same {w : World} {a : Addr} {u : Value} (v : Value) (h : w.cell? a = some u) : (w.setCell a v).cell? a = some v := by rw [World.cell?_setCell_same' _ _ _ (by rw [h]; rfl)]
theorem set_other {w : World} {a b : Addr} (v : Value) {u : Value} (h : a ≠ b) (k : w.cell? b = some u) : (w.setCell a v).cell? b = some u := by rw [World.cell?_setCell_other _ _ _ _ h]; exact k
/-- The deferred function, where nothing panicked. -/
theorem caught_at (p q : Addr) (w : World) :
    CallsD Tryz.prog 63 #[.pointer (some p), .pointer (some q)] .returning w fun e u' w' => e = .returned (.tuple #[]) ∧ u' = .returning ∧ w' = w := by
  refine callsD_of_wpS Tryz.func63 rfl fun c₀ cs hu => ?_
  apply wpS_seq
  apply wpS_region
  simp [wpOpsS, go_sem, recoverD, hu, Tryz.ntmps63, Exit.thenS]
  refine wpS_cond (t := false) (by simp [Act.eval, Array.replicate]) ?_
  simp only [Bool.false_eq_true, if_false]
  refine wpS_of_wp (wp_skip ?_)
  cases c₀
  simp_all [bodyPostS, results, Tryz.results63]

set_option maxRecDepth 100000 in
set_option maxHeartbeats 4000000 in
theorem gfind_at (x : ByteArray) (c : Int) (w : World) (hg : ErrT w) :
    Calls Tryz.prog 43 #[.iface 80 (.agg #[.string x, .iface 27 (.int .i64 c)])] w fun e w' => e = .returned (.tuple #[.int .i64 c, .bool true]) ∧ Below w.heap.size w w' := by
  have hmf : ∀ (fn : Fn) (first cap : Array Value) (w : World), (Instr.makeFunc fn first cap).run Tryz.prog w = .ok (.func fn first cap) w := fun _ _ _ _ => rfl
  have hB2 : Below w.heap.size w ((w.alloc (.cells #[.int .i64 0] 27)).alloc (.cells #[.bool false] 4)) := bel_al (bel_al (Below.refl _ _) _) _
  have K := asErr_at x c ⟨w.heap.size, 0, none⟩ (.int .i64 0) ((w.alloc (.cells #[.int .i64 0] 27)).alloc (.cells #[.bool false] 4)) (hg.later hB2) (by simp) (by simp; omega) (by simp)
  go_enter_defers Tryz.func43, Tryz.ntmps43
  go_wp2_with (go_at_call 64; refine K.mono ?_; rintro e w3 ⟨rfl, W, hW, rfl⟩; have y0 : W.heap[w.heap.size]? = some (.cells #[.int .i64 0] 27 (0, 0)) := (hW.block _ (by simp; omega)).trans ((Below.heap_alloc _ _ _ (by simp)).trans (alloc_new _ _)); have y1 : W.heap[w.heap.size + 1]? = some (.cells #[.bool false] 4 (0, 0)) := (hW.block _ (by simp)).trans (by simpa using alloc_new (w.alloc (.cells #[.int .i64 0] 27)) (.cells #[.bool false] 4)); have k0 : W.cell? ⟨w.heap.size, 0, none⟩ = some (.int .i64 0) := (by simp [World.cell?, y0]); have k1 : W.cell? ⟨w.heap.size + 1, 0, none⟩ = some (.bool false) := (by simp [World.cell?, y1]); have f0 : W.frozen? ⟨w.heap.size, 0, none⟩ = false := (by simp [World.frozen?, y0]); have f1 : W.frozen? ⟨w.heap.size + 1, 0, none⟩ = false := (by simp [World.frozen?, y1]); clear y0 y1)
  go_region
  obtain ⟨Z, hZ⟩ : ∃ Z, Z = ((((W.setCell ⟨w.heap.size, 0, none⟩ (.int .i64 c)).setCell ⟨w.heap.size + 1, 0, none⟩ (.bool true)).setCell ⟨w.heap.size, 0, none⟩ (.int .i64 c)).setCell ⟨w.heap.size + 1, 0, none⟩ (.bool true)).drew := ⟨_, rfl⟩
  have ne1 : ({ block := w.heap.size + 1, off := 0 } : Addr) ≠ { block := w.heap.size, off := 0 } := by simp
  have ne0 : ({ block := w.heap.size, off := 0 } : Addr) ≠ { block := w.heap.size + 1, off := 0 } := by simp
  have p1 := set_same (.int .i64 c) k0
  have q1 := set_other (.int .i64 c) ne0 k1
  have p2 := set_other (.bool true) ne1 p1
  have q2 := set_same (.bool true) q1
  have p3 := set_same (.int .i64 c) p2
  have q3 := set_other (.int .i64 c) ne0 q2
  have z0 : Z.cell? ⟨w.heap.size, 0, none⟩ = some (.int .i64 c) := by rw [hZ]; exact set_other (.bool true) ne1 p3
  have z1 : Z.cell? ⟨w.heap.size + 1, 0, none⟩ = some (.bool true) := by rw [hZ]; exact set_same (.bool true) q3
  have hBZ : Below w.heap.size w Z := by
    rw [hZ]
    exact (((((bel hB2 hW).setCell (p := ⟨w.heap.size, 0, none⟩) (Nat.le_refl _) _).setCell (p := ⟨w.heap.size + 1, 0, none⟩) (Nat.le_succ _) _).setCell (p := ⟨w.heap.size, 0, none⟩) (Nat.le_refl _) _).setCell (p := ⟨w.heap.size + 1, 0, none⟩) (Nat.le_succ _) _).drew
  rw [← hZ]
  clear hZ hW K k0 k1 f0 f1 p1 p2 p3 q1 q2 q3 ne0 ne1
  go_wp2
  refine leaves_cons (f := 63) (args := #[.pointer (some ⟨w.heap.size, 0, none⟩), .pointer (some ⟨w.heap.size + 1, 0, none⟩)]) (by simp) (by simp [go_sem]) ?_
  refine (caught_at ⟨w.heap.size, 0, none⟩ ⟨w.heap.size + 1, 0, none⟩ _).mono ?_
  rintro e u' w'' ⟨rfl, rfl, rfl⟩
  simp [Leaves, settle, results, Tryz.results43, go_sem, z0, z1]
  exact hBZ

theorem code_nil (w : World) : Calls Tryz.prog 27 #[.nilIface] w fun e w' => e = .returned (.int .i64 0) ∧ w' = w := by
  go_enter Tryz.func27, Tryz.ntmps27
  go_wp2
  go_ret
  exact ⟨rfl, rfl⟩
/-- CODE of an error of Scan's: the code that it wraps. -/
theorem code_at (x : ByteArray) (c : Int) (w : World) (hg : ErrT w) :
    Calls Tryz.prog 27 #[.iface 80 (.agg #[.string x, .iface 27 (.int .i64 c)])] w fun e w' => e = .returned (.int .i64 c) ∧ Below w.heap.size w w' := by
  have K := gfind_at x c w hg
  go_enter Tryz.func27, Tryz.ntmps27
  go_wp2_with (go_at_call 43; refine K.mono ?_; rintro e w1 ⟨rfl, hb1⟩)
  go_ret
  exact ⟨rfl, hb1⟩
end Go.Proofs.YtfencolokfghfaaGreatDoor
