/-
  The walks of Infix and Prefix: what each answers is infR's, preR's.
-/
import Derived.Test.YtfencolokfghfaaGreatDoorOpsA
namespace Go.Proofs.YtfencolokfghfaaGreatDoor
open Go.RowKit Go.Lib
set_option linter.unusedVariables false

/-- A region that draws its order, in a family of worlds. -/
theorem op_region_fam {P : Program} {id : Nat} {Q : Exit → Act → World → Prop} {a : Act} {w : World} {l : List Oper} {I : Type} (F : I → World) (n0 : I) (h0 : w.drew = F n0) (hm : P.follows .mixedOrders = true) (hB : Region.lexB .any l.toArray = true)
    (h : wpQuiet P l.toArray (fun w' => ∃ n, w' = F n) (fun a' => ∀ w', (∃ n, w' = F n) → Q .normal a' w') l a) : (Code.region id l.toArray true).wp P Q a w :=
  wp_region_quiet (C := fun w' => ∃ n, w' = F n) hm hB ⟨n0, h0⟩ (by simpa using h)
/-- All worlds in which nothing that is here has turned. -/
theorem op_later_family (w : World) : ∃ (I : Type) (_ : Nonempty I) (F : I → World) (n0 : I), w.drew = F n0 ∧ (∀ n, Below w.heap.size w (F n)) ∧ ∀ n w', Below (F n).heap.size (F n) w' → ∃ m, w' = F m :=
  ⟨{ w' : World // Below w.heap.size w w' }, ⟨⟨w, Below.refl _ _⟩⟩, Subtype.val, ⟨w.drew, (Below.refl _ _).drew⟩, rfl, fun n => n.2, fun n w' h => ⟨⟨w', n.2.trans (h.mono n.2.size)⟩, rfl⟩⟩
/-- A contract over such a family. -/
theorem gives_fam {P : Program} {f : FuncId} {args : Array Value} {I : Type} {F : I → World} {v : Value} (hc : ∀ n w', Below (F n).heap.size (F n) w' → ∃ m, w' = F m) (n : I)
    (h : Calls P f args (F n) (Gives (F n) v)) : Calls P f args (F n) fun e w'' => e = .returned v ∧ ∃ m, w'' = F m :=
  h.mono fun _ _ hg => ⟨hg.1, hc n _ hg.2⟩

/-- What Infix answers, as a value. -/
def infV : Option (Nat × Nat × Nat) → Value
  | some (a, b, c) => .tuple #[.int .i64 a, .int .i64 b, .int .i64 c, .bool true]
  | none => .tuple #[.int .i64 0, .int .i64 0, .int .i64 0, .bool false]
def preV : Option (Nat × Nat) → Value
  | some (a, b) => .tuple #[.int .i64 a, .int .i64 b, .bool true]
  | none => .tuple #[.int .i64 0, .int .i64 0, .bool false]

theorem grt_nat {j : Nat} (h : j < 26) (p : Nat) : (((grt j p).toNat : Nat) : Int) = grt j p := by
  have := pri_le h
  unfold grt
  split <;> omega

set_option maxRecDepth 100000 in
set_option maxHeartbeats 4000000 in
theorem infix_at (s : ByteArray) (l : List UInt8) (hs : s.data.toList = l) (w : World) (T : Tab w) :
    Calls Tryz.prog 107 #[.string s] w (Gives w (infV (infR l))) := by
  have hf := (find_at s l hs 1 (by decide) w T)
  go_enter Tryz.func107, Tryz.ntmps107
  go_wp2_with fail
  refine hf.mono ?_
  clear hf
  rintro e w1 ⟨hb1, ⟨j, hj, hh, rfl⟩ | ⟨hh, rfl⟩⟩
  · have hc : tyC j 1 = 102 := by simp [hit] at hh; exact hh.2
    have hl : (rowAt j).nm = l := by simp [hit] at hh; exact hh.1
    obtain ⟨h3, hi⟩ := inf_row j hj hc
    rw [hl] at hi
    have hv : infV (infR l) = .tuple #[.int .i64 (grt j 0), .int .i64 (priN j), .int .i64 (grt j 2), .bool true] := by
      rw [hi]; simp only [infV, grt_nat hj]; rfl
    have HV := Lib.hid hv
    have HB := Lib.hid (hb1.alloc hb1.size (.cells #[.int .i64 (priN j), .string (tyN j), .string (nmN j)] 186))
    have hx : (w1.alloc (.cells #[.int .i64 (priN j), .string (tyN j), .string (nmN j)] 186)).heap[w1.heap.size]? = some (.cells #[.int .i64 (priN j), .string (tyN j), .string (nmN j)] 186 (0, 0)) := op_alloc_new _ _
    have hlt : w1.heap.size < (w1.alloc (.cells #[.int .i64 (priN j), .string (tyN j), .string (nmN j)] 186)).heap.size := by simp
    obtain ⟨I, inst, F, n0, hF0, hFb, hFc⟩ := op_later_family (w1.alloc (.cells #[.int .i64 (priN j), .string (tyN j), .string (nmN j)] 186))
    have hFx := fun i => ((hFb i).block w1.heap.size hlt).trans hx
    have k0 := fun i => (box3 (hFx i)).1
    have k1 := fun i => (box3 (hFx i)).2.1
    have k2 := fun i => (box3 (hFx i)).2.2.1
    have hsz : 3 ≤ (tyN j).size := by rw [ty_size]; omega
    have C0 : Hid (∀ i, Calls Tryz.prog 128 #[.agg #[.int .i64 (priN j), .string (tyN j), .string (nmN j)], .int .i64 0] (F i) fun e w'' => e = .returned (.int .i64 (grt j 0)) ∧ ∃ m, w'' = F m) := Lib.hid (fun i => gives_fam hFc i (greatest_at j 0 hj (by omega) (F i)))
    have C2 : Hid (∀ i, Calls Tryz.prog 128 #[.agg #[.int .i64 (priN j), .string (tyN j), .string (nmN j)], .int .i64 2] (F i) fun e w'' => e = .returned (.int .i64 (grt j 2)) ∧ ∃ m, w'' = F m) := Lib.hid (fun i => gives_fam hFc i (greatest_at j 2 hj (by omega) (F i)))
    have HF := Lib.hid hFb
    clear hv hi hl hh h3 hc hx hlt hFx hFb hFc hsz hb1 T hs
    go_wp2_with fail
    refine op_region_fam F n0 hF0 (by kernel_rfl) (by kernel_rfl) ?_
    clear hF0
    repeat (go_big_quiet_step (first | (go_at_call 128; (with_reducible exact C0.out _)) | (go_at_call 128; (with_reducible exact C2.out _))))
    refine wpQuiet_nil ?_
    intro _ hw'
    obtain ⟨nq, hw''⟩ := hw'
    subst hw''
    go_wp2_with fail
    exact bodyPost_ret (v := .tuple #[.int .i64 (grt j 0), .int .i64 (priN j), .int .i64 (grt j 2), .bool true]) (by simp [results, Tryz.f107, go_sem]) rfl ⟨by rw [HV.out], HB.out.trans ((HF.out nq).mono HB.out.size)⟩
  · have HV := Lib.hid (inf_none hh)
    clear hh
    have HB := Lib.hid (hb1.alloc hb1.size (.cells #[.int .i64 0, .string ⟨#[]⟩, .string ⟨#[]⟩] 186))
    go_wp2
    exact bodyPost_ret (v := .tuple #[.int .i64 0, .int .i64 0, .int .i64 0, .bool false]) (by simp [results, Tryz.f107, go_sem]) rfl ⟨by rw [HV.out]; rfl, HB.out⟩

set_option maxRecDepth 100000 in
set_option maxHeartbeats 4000000 in
theorem prefix_at (s : ByteArray) (l : List UInt8) (hs : s.data.toList = l) (w : World) (T : Tab w) :
    Calls Tryz.prog 125 #[.string s] w (Gives w (preV (preR l))) := by
  have hf := (find_at s l hs 0 (by decide) w T)
  go_enter Tryz.func125, Tryz.ntmps125
  go_wp2_with fail
  refine hf.mono ?_
  clear hf
  rintro e w1 ⟨hb1, ⟨j, hj, hh, rfl⟩ | ⟨hh, rfl⟩⟩
  · have hc : tyC j 0 = 102 := by simp [hit] at hh; exact hh.2
    have hl : (rowAt j).nm = l := by simp [hit] at hh; exact hh.1
    obtain ⟨h3, hi⟩ := pre_row j hj hc
    rw [hl] at hi
    have hv : preV (preR l) = .tuple #[.int .i64 (priN j), .int .i64 (grt j 1), .bool true] := by
      rw [hi]; simp only [preV, grt_nat hj]; rfl
    have HV := Lib.hid hv
    have HB := Lib.hid (hb1.alloc hb1.size (.cells #[.int .i64 (priN j), .string (tyN j), .string (nmN j)] 186))
    have hx : (w1.alloc (.cells #[.int .i64 (priN j), .string (tyN j), .string (nmN j)] 186)).heap[w1.heap.size]? = some (.cells #[.int .i64 (priN j), .string (tyN j), .string (nmN j)] 186 (0, 0)) := op_alloc_new _ _
    have hlt : w1.heap.size < (w1.alloc (.cells #[.int .i64 (priN j), .string (tyN j), .string (nmN j)] 186)).heap.size := by simp
    obtain ⟨I, inst, F, n0, hF0, hFb, hFc⟩ := op_later_family (w1.alloc (.cells #[.int .i64 (priN j), .string (tyN j), .string (nmN j)] 186))
    have hFx := fun i => ((hFb i).block w1.heap.size hlt).trans hx
    have k0 := fun i => (box3 (hFx i)).1
    have k1 := fun i => (box3 (hFx i)).2.1
    have k2 := fun i => (box3 (hFx i)).2.2.1
    have hsz : 2 ≤ (tyN j).size := by rw [ty_size]; omega
    have C1 : Hid (∀ i, Calls Tryz.prog 128 #[.agg #[.int .i64 (priN j), .string (tyN j), .string (nmN j)], .int .i64 1] (F i) fun e w'' => e = .returned (.int .i64 (grt j 1)) ∧ ∃ m, w'' = F m) := Lib.hid (fun i => gives_fam hFc i (greatest_at j 1 hj (by omega) (F i)))
    have HF := Lib.hid hFb
    clear hv hi hl hh h3 hc hx hlt hFx hFb hFc hsz hb1 T hs
    go_wp2_with fail
    refine op_region_fam F n0 hF0 (by kernel_rfl) (by kernel_rfl) ?_
    clear hF0
    repeat (go_big_quiet_step (first | (go_at_call 128; (with_reducible exact C1.out _))))
    refine wpQuiet_nil ?_
    intro _ hw'
    obtain ⟨nq, hw''⟩ := hw'
    subst hw''
    go_wp2_with fail
    exact bodyPost_ret (v := .tuple #[.int .i64 (priN j), .int .i64 (grt j 1), .bool true]) (by simp [results, Tryz.f125, go_sem]) rfl ⟨by rw [HV.out], HB.out.trans ((HF.out nq).mono HB.out.size)⟩
  · have HV := Lib.hid (pre_none hh)
    clear hh
    have HB := Lib.hid (hb1.alloc hb1.size (.cells #[.int .i64 0, .string ⟨#[]⟩, .string ⟨#[]⟩] 186))
    go_wp2
    exact bodyPost_ret (v := .tuple #[.int .i64 0, .int .i64 0, .bool false]) (by simp [results, Tryz.f125, go_sem]) rfl ⟨by rw [HV.out]; rfl, HB.out⟩
end Go.Proofs.YtfencolokfghfaaGreatDoor
