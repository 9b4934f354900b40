/-
  sentence: the deferred function; a term and an end.
-/
import Derived.Test.YtfencolokfghfaaGreatDoorReadB
import Derived.Defers
import Derived.Recover
import Derived.StillTailTactics
namespace Go.Proofs.YtfencolokfghfaaGreatDoor
open Go.RowKit Go.Maps
set_option linter.unusedVariables false
set_option linter.unusedSectionVars false

theorem sent_sets {Y : World} {B : Nat} {a0 a1 a2 a3 a4 a5 a6 : Value} {t2 t3 t4 t5 : TypeId} (u2 : Y.heap[B]? = some (.cells #[a0, a1, a2, a3] t2 (0, 0))) (u3 : Y.heap[B + 1]? = some (.cells #[a4] t3 (0, 0))) (u4 : Y.heap[B + 2]? = some (.cells #[a5] t4 (0, 0))) (u5 : Y.heap[B + 3]? = some (.cells #[a6] t5 (0, 0))) (v0 v1 v2 v3 v4 v5 v6 : Value) :
    ∃ Z, Z = (((((((Y.setCell ⟨B, 0, none⟩ v0).setCell ⟨B, 1, none⟩ v1).setCell ⟨B, 2, none⟩ v2).setCell ⟨B, 3, none⟩ v3).setCell ⟨B + 1, 0, none⟩ v4).setCell ⟨B + 2, 0, none⟩ v5).setCell ⟨B + 3, 0, none⟩ v6) ∧
      Z.heap[B]? = some (.cells #[v0, v1, v2, v3] t2 (0, 0)) ∧ Z.heap[B + 1]? = some (.cells #[v4] t3 (0, 0)) ∧ Z.heap[B + 2]? = some (.cells #[v5] t4 (0, 0)) ∧ Z.heap[B + 3]? = some (.cells #[v6] t5 (0, 0)) ∧ (∀ j, j ≠ B → j ≠ B + 1 → j ≠ B + 2 → j ≠ B + 3 → Z.heap[j]? = Y.heap[j]?) ∧ Z.heap.size = Y.heap.size ∧ Below B Y Z := by
  have k4 : ∀ j, j ≠ B → ((((Y.setCell ⟨B, 0, none⟩ v0).setCell ⟨B, 1, none⟩ v1).setCell ⟨B, 2, none⟩ v2).setCell ⟨B, 3, none⟩ v3).heap[j]? = Y.heap[j]? := fun j hj => by
    rw [Below.heap_setCell _ ⟨B, 3, none⟩ _ _ hj, Below.heap_setCell _ ⟨B, 2, none⟩ _ _ hj, Below.heap_setCell _ ⟨B, 1, none⟩ _ _ hj, Below.heap_setCell _ ⟨B, 0, none⟩ _ _ hj]
  have q2 := four_block u2 v0 v1 v2 v3
  have q3 := (k4 (B + 1) (by omega)).trans u3
  have q4 := (k4 (B + 2) (by omega)).trans u4
  have q5 := (k4 (B + 3) (by omega)).trans u5
  generalize hX : ((((Y.setCell ⟨B, 0, none⟩ v0).setCell ⟨B, 1, none⟩ v1).setCell ⟨B, 2, none⟩ v2).setCell ⟨B, 3, none⟩ v3) = X at *
  have hbX : Below B Y X := by rw [← hX]; exact ((((Below.refl B Y).setCell (p := ⟨B, 0, none⟩) (Nat.le_refl _) v0).setCell (p := ⟨B, 1, none⟩) (Nat.le_refl _) v1).setCell (p := ⟨B, 2, none⟩) (Nat.le_refl _) v2).setCell (p := ⟨B, 3, none⟩) (Nat.le_refl _) v3
  have hsX : X.heap.size = Y.heap.size := by rw [← hX]; simp
  refine ⟨_, rfl, ?_, ?_, ?_, ?_, fun j j0 j1 j2 j3 => ?_, by simpa using hsX, ?_⟩
  · rw [Below.heap_setCell _ ⟨B + 3, 0, none⟩ _ _ (by simp), Below.heap_setCell _ ⟨B + 2, 0, none⟩ _ _ (by simp), Below.heap_setCell _ ⟨B + 1, 0, none⟩ _ _ (by simp)]; exact q2
  · rw [Below.heap_setCell _ ⟨B + 3, 0, none⟩ _ _ (by simp), Below.heap_setCell _ ⟨B + 2, 0, none⟩ _ _ (by simp), heap_setCell_same _ _ _ _ _ _ q3]; rfl
  · rw [Below.heap_setCell _ ⟨B + 3, 0, none⟩ _ _ (by simp), heap_setCell_same _ _ _ _ _ _ ((Below.heap_setCell _ ⟨B + 1, 0, none⟩ _ _ (by simp)).trans q4)]; rfl
  · rw [heap_setCell_same _ _ _ _ _ _ ((Below.heap_setCell _ ⟨B + 2, 0, none⟩ _ _ (by simp)).trans ((Below.heap_setCell _ ⟨B + 1, 0, none⟩ _ _ (by simp)).trans q5))]; rfl
  · rw [Below.heap_setCell _ ⟨B + 3, 0, none⟩ _ _ j3, Below.heap_setCell _ ⟨B + 2, 0, none⟩ _ _ j2, Below.heap_setCell _ ⟨B + 1, 0, none⟩ _ _ j1]; exact k4 j j0
  · exact ((hbX.setCell (p := ⟨B + 1, 0, none⟩) (by simp) v4).setCell (p := ⟨B + 2, 0, none⟩) (by simp) v5).setCell (p := ⟨B + 3, 0, none⟩) (by simp) v6
theorem frS (p2 p3 p4 p5 V : Value) : (#[p2, p3, p4, p5] ++ ((Array.replicate 19 undef).setIfInBounds 3 V).setIfInBounds 0 V : Array Value) = #[p2, p3, p4, p5, V, undef, undef, V, undef, undef, undef, undef, undef, undef, undef, undef, undef, undef, undef, undef, undef, undef, undef] := by
  simp [Array.replicate_succ]
set_option maxRecDepth 100000 in
set_option maxHeartbeats 4000000 in
/-- The deferred function, where nothing panicked. -/
theorem idle_at (p2 p3 p4 p5 : Addr) (w : World) :
    CallsD Tryz.prog 65 #[.pointer (some p2), .pointer (some p3), .pointer (some p4), .pointer (some p5)] .returning w fun e u' w' => e = .returned (.tuple #[]) ∧ u' = .returning ∧ w' = w := by
  refine callsD_of_wpS Tryz.func65 rfl fun c₀ cs hu => ?_
  generalize hQ : bodyPostS _ _ _ _ _ = Q
  apply wpS_seq
  generalize hK : Exit.thenS _ _ = K
  apply wpS_region
  simp [wpOpsS, go_sem, recoverD, hu, Tryz.ntmps65]
  subst hK
  refine wpS_of_wp ?_
  generalize hQ2 : (fun e a' w' => Q e a' (c₀ :: cs) w') = Q2
  have HQ := Lib.hid hQ
  have HQ2 := Lib.hid hQ2
  have HU := Lib.hid hu
  clear hQ hQ2 hu
  rw [frS]
  go_wp2
  have hu := HU.out
  rw [← HQ2.out, ← HQ.out]
  exact ⟨rfl, .returning, by rw [← hu], _, results_none rfl _ _ _, rfl, rfl, rfl⟩
set_option maxRecDepth 100000 in
set_option maxHeartbeats 4000000 in
theorem caught7_at (B : Nat) (i : Nat) (code : Int) (w : World) (a0 a1 a2 a3 a4 a5 a6 : Value)
    (x2 : w.heap[B]? = some (.cells #[a0, a1, a2, a3] 24 (0, 0))) (x3 : w.heap[B + 1]? = some (.cells #[a4] 41 (0, 0))) (x4 : w.heap[B + 2]? = some (.cells #[a5] 3 (0, 0))) (x5 : w.heap[B + 3]? = some (.cells #[a6] 27 (0, 0))) :
    CallsD Tryz.prog 65 #[.pointer (some ⟨B, 0, none⟩), .pointer (some ⟨B + 1, 0, none⟩), .pointer (some ⟨B + 2, 0, none⟩), .pointer (some ⟨B + 3, 0, none⟩)] (.panicking [{ v := .iface 112 (.agg #[.int .i64 i, .int .i64 code]), recovered := false }]) w fun e u' w' =>
      e = .returned (.tuple #[]) ∧ u' = .panicking [{ v := .iface 112 (.agg #[.int .i64 i, .int .i64 code]), recovered := true }] ∧ Below B w w' ∧ w'.heap[B]? = some (.cells #[.int .i64 0, .int .i64 0, .string (ByteArray.mk #[]), .slice none 0 0] 24 (0, 0)) ∧ w'.heap[B + 1]? = some (.cells #[.slice none 0 0] 41 (0, 0)) ∧ w'.heap[B + 2]? = some (.cells #[.int .i64 i] 3 (0, 0)) ∧ w'.heap[B + 3]? = some (.cells #[.int .i64 code] 27 (0, 0)) := by
  have hz := zeroTerm
  refine callsD_of_wpS Tryz.func65 rfl fun c₀ cs hu => ?_
  generalize hQ : bodyPostS _ _ _ _ _ = Q
  apply wpS_seq
  generalize hK : Exit.thenS _ _ = K
  apply wpS_region
  simp [wpOpsS, go_sem, recoverD, hu, Tryz.ntmps65]
  subst hK
  have hta : ∀ (x y : Value) (w : World), (Instr.typeAssert (.iface 112 (.agg #[x, y])) 20 112 true).run Tryz.prog w = .ok (.tuple #[.agg #[x, y], .bool true]) w := fun x y w => by kernel_rfl
  have hzf : ∀ w, (zeroValue 112).run Tryz.prog w = .ok (.agg #[.int .i64 0, .int .i64 0]) w := fun w => by kernel_rfl
  have hnot : ∀ (x : Bool) (w : World), (Op.unary .not (.bool x)).run Tryz.prog w = .ok (.bool (!x)) w := fun _ _ => rfl
  obtain ⟨Y, hY⟩ : ∃ Y, Y = w.alloc (.cells #[.int .i64 i, .int .i64 code] 112) := ⟨_, rfl⟩
  have hbY : Below w.heap.size w Y := by rw [hY]; exact bel_al (Below.refl _ _) _
  have hlt5 : B + 3 < w.heap.size := (Array.getElem?_eq_some_iff.1 x5).1
  have xY : Y.heap[w.heap.size]? = some (.cells #[.int .i64 i, .int .i64 code] 112 (0, 0)) := by rw [hY]; exact alloc_new _ _
  have u2 := (hbY.block B (by omega)).trans x2
  have u3 := (hbY.block (B + 1) (by omega)).trans x3
  have u4 := (hbY.block (B + 2) (by omega)).trans x4
  have u5 := (hbY.block (B + 3) (by omega)).trans x5
  obtain ⟨y20, y21, y22, y23⟩ := tbox_cells u2
  have y3 : Y.cell? ⟨B + 1, 0, none⟩ = some a4 := by simp [World.cell?, u3]
  have y4 : Y.cell? ⟨B + 2, 0, none⟩ = some a5 := by simp [World.cell?, u4]
  have y5 : Y.cell? ⟨B + 3, 0, none⟩ = some a6 := by simp [World.cell?, u5]
  have y6 : Y.cell? ⟨w.heap.size, 0, none⟩ = some (.int .i64 i) := by simp [World.cell?, xY]
  have y7 : Y.cell? ⟨w.heap.size, 1, none⟩ = some (.int .i64 code) := by simp [World.cell?, xY]
  have g2 : ∀ j, Y.frozen? ⟨B, j, none⟩ = false := fun j => by simp [World.frozen?, u2]
  have g3 : Y.frozen? ⟨B + 1, 0, none⟩ = false := by simp [World.frozen?, u3]
  have g4 : Y.frozen? ⟨B + 2, 0, none⟩ = false := by simp [World.frozen?, u4]
  have g5 : Y.frozen? ⟨B + 3, 0, none⟩ = false := by simp [World.frozen?, u5]
  refine wpS_of_wp ?_
  generalize hQ2 : (fun e a' w' => Q e a' _ w') = Q2
  have HQ := Lib.hid hQ
  have HQ2 := Lib.hid hQ2
  have HU := Lib.hid hu
  clear hQ hQ2 hu x2 x3 x4 x5
  rw [frS]
  go_wp2
  rw [← hY]
  have n1 : B ≠ w.heap.size := by omega
  have n2 : B + 1 ≠ w.heap.size := by omega
  have n3 : B + 2 ≠ w.heap.size := by omega
  clear hY
  generalize hww : w.heap.size = S at *
  obtain ⟨Z, hZ, r2, r3, r4, r5, -, -, hbZ⟩ := sent_sets u2 u3 u4 u5 (.int .i64 0) (.int .i64 0) (.string (ByteArray.mk #[])) (.slice none 0 0) (.slice none 0 0) (.int .i64 i) (.int .i64 code)
  go_region
  rw [← hZ, ← HQ2.out, ← HQ.out]
  exact ⟨rfl, _, rfl, _, results_none rfl _ _ _, rfl, rfl, ((hbY.mono (by omega)).trans hbZ).drew, r2, r3, r4, r5⟩
end Go.Proofs.YtfencolokfghfaaGreatDoor
