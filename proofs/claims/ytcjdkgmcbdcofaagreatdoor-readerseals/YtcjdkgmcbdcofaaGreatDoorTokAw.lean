/-
  The walks of grant's find and Code: what code an error of Scan's wraps.
-/
import Derived.Test.YtcjdkgmcbdcofaaGreatDoorTokAv
import Derived.Defers
import Derived.Recover
namespace Go.Proofs.YtcjdkgmcbdcofaaGreatDoor
open Go.RowKit Go.Extern.Stop Go.Stop Go.Extern
set_option linter.unusedVariables false

theorem set_same {w : World} {a : Addr} {u : Value} (v : Value) (h : w.cell? a = some u) : (w.setCell a v).cell? a = some v := by rw [World.cell?_setCell_same' _ _ _ (by rw [h]; rfl)]
theorem set_other {w : World} {a b : Addr} (v : Value) {u : Value} (h : a ≠ b) (k : w.cell? b = some u) : (w.setCell a v).cell? b = some u := by rw [World.cell?_setCell_other _ _ _ _ h]; exact k
/-- The deferred function, where nothing panicked. -/
theorem caught_at (p q : Addr) (w : World) :
    CallsD Tryz.prog 49 #[.pointer (some p), .pointer (some q)] .returning w fun e u' w' => e = .returned (.tuple #[]) ∧ u' = .returning ∧ w' = w := by
  refine callsD_of_wpS Tryz.func49 rfl fun c₀ cs hu => ?_
  apply wpS_seq
  apply wpS_region
  simp [wpOpsS, go_sem, recoverD, hu, Tryz.ntmps49, Exit.thenS]
  refine wpS_cond (t := false) (by simp [Act.eval, Array.replicate]) ?_
  simp only [Bool.false_eq_true, if_false]
  refine wpS_of_wp (wp_skip ?_)
  cases c₀
  simp_all [bodyPostS, results, Tryz.results49]

set_option maxRecDepth 100000 in
set_option maxHeartbeats 4000000 in
theorem gfind_at (x : ByteArray) (c : Int) (w : World) (hg : ErrT w) :
    Calls Tryz.prog 33 #[.iface 65 (.agg #[.string x, .iface 24 (.int .i64 c)])] w fun e w' => e = .returned (.tuple #[.int .i64 c, .bool true]) ∧ Below w.heap.size w w' := by
  have hmf : ∀ (fn : Fn) (first cap : Array Value) (w : World), (Instr.makeFunc fn first cap).run Tryz.prog w = .ok (.func fn first cap) w := fun _ _ _ _ => rfl
  have hB2 : Below w.heap.size w ((w.alloc (.cells #[.int .i64 0] 24)).alloc (.cells #[.bool false] 4)) := bel_al (bel_al (Below.refl _ _) _) _
  have K := asErr_at x c ⟨w.heap.size, 0, none⟩ (.int .i64 0) ((w.alloc (.cells #[.int .i64 0] 24)).alloc (.cells #[.bool false] 4)) (hg.later hB2) (by simp) (by simp; omega) (by simp)
  go_enter_defers Tryz.func33, Tryz.ntmps33
  go_wp2_with (go_at_call 50; refine K.mono ?_; rintro e w3 ⟨rfl, W, hW, rfl⟩; have y0 : W.heap[w.heap.size]? = some (.cells #[.int .i64 0] 24 (0, 0)) := (hW.block _ (by simp; omega)).trans ((Below.heap_alloc _ _ _ (by simp)).trans (alloc_new _ _)); have y1 : W.heap[w.heap.size + 1]? = some (.cells #[.bool false] 4 (0, 0)) := (hW.block _ (by simp)).trans (by simpa using alloc_new (w.alloc (.cells #[.int .i64 0] 24)) (.cells #[.bool false] 4)); have k0 : W.cell? ⟨w.heap.size, 0, none⟩ = some (.int .i64 0) := (by simp [World.cell?, y0]); have k1 : W.cell? ⟨w.heap.size + 1, 0, none⟩ = some (.bool false) := (by simp [World.cell?, y1]); have f0 : W.frozen? ⟨w.heap.size, 0, none⟩ = false := (by simp [World.frozen?, y0]); have f1 : W.frozen? ⟨w.heap.size + 1, 0, none⟩ = false := (by simp [World.frozen?, y1]); clear y0 y1)
  go_region
  obtain ⟨Z, hZ⟩ : ∃ Z, Z = ((((W.setCell ⟨w.heap.size, 0, none⟩ (.int .i64 c)).setCell ⟨w.heap.size + 1, 0, none⟩ (.bool true)).setCell ⟨w.heap.size, 0, none⟩ (.int .i64 c)).setCell ⟨w.heap.size + 1, 0, none⟩ (.bool true)).drew := ⟨_, rfl⟩
  have ne1 : ({ block := w.heap.size + 1, off := 0 } : Addr) ≠ { block := w.heap.size, off := 0 } := by simp
  have ne0 : ({ block := w.heap.size, off := 0 } : Addr) ≠ { block := w.heap.size + 1, off := 0 } := by simp
  have p1 := set_same (.int .i64 c) k0
  have q1 := set_other (.int .i64 c) ne0 k1
  have p2 := set_other (.bool true) ne1 p1
  have q2 := set_same (.bool true) q1
  have p3 := set_same (.int .i64 c) p2
  have q3 := set_other (.int .i64 c) ne0 q2
  have z0 : Z.cell? ⟨w.heap.size, 0, none⟩ = some (.int .i64 c) := by rw [hZ]; exact set_other (.bool true) ne1 p3
  have z1 : Z.cell? ⟨w.heap.size + 1, 0, none⟩ = some (.bool true) := by rw [hZ]; exact set_same (.bool true) q3
  have hBZ : Below w.heap.size w Z := by
    rw [hZ]
    exact (((((bel hB2 hW).setCell (p := ⟨w.heap.size, 0, none⟩) (Nat.le_refl _) _).setCell (p := ⟨w.heap.size + 1, 0, none⟩) (Nat.le_succ _) _).setCell (p := ⟨w.heap.size, 0, none⟩) (Nat.le_refl _) _).setCell (p := ⟨w.heap.size + 1, 0, none⟩) (Nat.le_succ _) _).drew
  rw [← hZ]
  clear hZ hW K k0 k1 f0 f1 p1 p2 p3 q1 q2 q3 ne0 ne1
  go_wp2
  refine leaves_cons (f := 49) (args := #[.pointer (some ⟨w.heap.size, 0, none⟩), .pointer (some ⟨w.heap.size + 1, 0, none⟩)]) (by simp) (by simp [go_sem]) ?_
  refine (caught_at ⟨w.heap.size, 0, none⟩ ⟨w.heap.size + 1, 0, none⟩ _).mono ?_
  rintro e u' w'' ⟨rfl, rfl, rfl⟩
  simp [Leaves, settle, results, Tryz.results33, go_sem, z0, z1]
  exact hBZ

theorem code_nil (w : World) : Calls Tryz.prog 21 #[.nilIface] w fun e w' => e = .returned (.int .i64 0) ∧ w' = w := by
  go_enter Tryz.func21, Tryz.ntmps21
  go_wp2
  go_ret
  exact ⟨rfl, rfl⟩
/-- CODE of an error of Scan's: the code that it wraps. -/
theorem code_at (x : ByteArray) (c : Int) (w : World) (hg : ErrT w) :
    Calls Tryz.prog 21 #[.iface 65 (.agg #[.string x, .iface 24 (.int .i64 c)])] w fun e w' => e = .returned (.int .i64 c) ∧ Below w.heap.size w w' := by
  have K := gfind_at x c w hg
  go_enter Tryz.func21, Tryz.ntmps21
  go_wp2_with (go_at_call 33; refine K.mono ?_; rintro e w1 ⟨rfl, hb1⟩)
  go_ret
  exact ⟨rfl, hb1⟩
end Go.Proofs.YtcjdkgmcbdcofaaGreatDoor
