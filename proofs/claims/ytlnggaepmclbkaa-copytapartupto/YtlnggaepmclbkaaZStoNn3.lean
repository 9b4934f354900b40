/-
  store.Full; what is answered where there is no store.
-/
import Derived.Test.YtlnggaepmclbkaaZStoM
import Derived.Test.YtlnggaepmclbkaaZStoJn2
import Derived.Laws.EntriesVeiled
import Derived.Test.YtlnggaepmclbkaaZVarsn3
import Derived.Test.YtlnggaepmclbkaaZShiftn2
import Derived.Deep.RegionHeld3
namespace Go.Proofs.Ytlnggaepmclbkaa
open Go.RowKit Go.Shelf
set_option linter.unusedVariables false
set_option linter.unusedSimpArgs false

/-- What Full answers. -/
def FullPost (r : FR) (w : World) (e : Ending) (w' : World) : Prop := Below w.heap.size w w' ∧ match r with
  | .bad x => e = .returned (.tuple #[.agg #[.int .i64 0, .int .i64 0, .string (ByteArray.mk #[]), .slice none 0 0], .int .i64 x])
  | .ok u _ => ∃ k n s a l' c, e = .returned (.tuple #[.agg #[.int .i64 k, .int .i64 n, .string s, .slice a l' c], .int .i64 0]) ∧ TmIn (fun c => w.heap.size ≤ c ∧ c < w'.heap.size) w' (.agg #[.int .i64 k, .int .i64 n, .string s, .slice a l' c]) u

set_option maxRecDepth 100000 in
set_option maxHeartbeats 4000000 in
theorem full_at {n₀ : Nat} {w : World} {b : Nat} {V L : Value} {σ : St} (h : StAt (Oth w b V L) n₀ w b V L σ) (v : Value) (T : Tm) (hv : Has w v T) :
    Calls Try.prog 21 #[.pointer (some ⟨b, 0, none⟩), v] w (FullPost (σ.fill 60 1000 T) w) := by
  obtain ⟨k, n, s, a, len, cap, ks, rfl, e, -⟩ := hv.form
  obtain ⟨w3, hw3⟩ : ∃ w3, w3 = ((w.alloc (.cells #[.pointer (some ⟨b, 0, none⟩)] 39)).alloc (.cells #[.int .i64 k, .int .i64 n, .string s, .slice a len cap] 24)).alloc (.cells #[.int .i64 0, .int .i64 0, .string (ByteArray.mk #[]), .slice none 0 0] 24) := ⟨_, rfl⟩
  obtain ⟨w5, hw5⟩ : ∃ w5, w5 = (w3.alloc (.cells #[.int .i64 0] 3)).alloc (.cells #[.func (.func 38) #[] #[.pointer (some ⟨w.heap.size + 1 + 1 + 1, 0, none⟩), .pointer (some ⟨w.heap.size, 0, none⟩), .pointer (some ⟨w.heap.size + 1 + 1 + 1 + 1, 0, none⟩)]] 74) := ⟨_, rfl⟩
  have s3 : w3.heap.size = w.heap.size + 1 + 1 + 1 := by rw [hw3]; simp
  have s5 : w5.heap.size = w.heap.size + 1 + 1 + 1 + 1 + 1 := by rw [hw5]; simp [s3]
  have b3 : Below w.heap.size w w3 := by rw [hw3]; exact (((Below.refl _ w).alloc (Nat.le_refl _) _).alloc (by simp) _).alloc (by simp; omega) _
  have b35 : Below w3.heap.size w3 w5 := by rw [hw5]; exact ((Below.refl _ w3).alloc (Nat.le_refl _) _).alloc (by simp) _
  have b5 : Below w.heap.size w w5 := b3.trans (b35.mono b3.size)
  have x0 : w3.heap[w.heap.size]? = some (.cells #[.pointer (some ⟨b, 0, none⟩)] 39 (0, 0)) := by rw [hw3]; exact (Below.heap_alloc _ _ _ (by simp; omega)).trans ((Below.heap_alloc _ _ _ (by simp)).trans (World.alloc_heap_new _ _))
  have x1 : w3.heap[w.heap.size + 1]? = some (.cells #[.int .i64 k, .int .i64 n, .string s, .slice a len cap] 24 (0, 0)) := by
    have := World.alloc_heap_new (w.alloc (.cells #[.pointer (some ⟨b, 0, none⟩)] 39)) (.cells #[.int .i64 k, .int .i64 n, .string s, .slice a len cap] 24)
    rw [World.size_alloc] at this
    rw [hw3]; exact (Below.heap_alloc _ _ _ (by simp)).trans this
  have x2 : w3.heap[w.heap.size + 1 + 1]? = some (.cells #[.int .i64 0, .int .i64 0, .string (ByteArray.mk #[]), .slice none 0 0] 24 (0, 0)) := by
    have := World.alloc_heap_new ((w.alloc (.cells #[.pointer (some ⟨b, 0, none⟩)] 39)).alloc (.cells #[.int .i64 k, .int .i64 n, .string s, .slice a len cap] 24)) (.cells #[.int .i64 0, .int .i64 0, .string (ByteArray.mk #[]), .slice none 0 0] 24)
    rw [World.size_alloc, World.size_alloc] at this
    rw [hw3]; exact this
  have x3 : w5.heap[w.heap.size + 1 + 1 + 1]? = some (.cells #[.int .i64 0] 3 (0, 0)) := by
    have := World.alloc_heap_new w3 (.cells #[.int .i64 0] 3)
    rw [s3] at this
    rw [hw5]; exact (Below.heap_alloc _ _ _ (by simp [s3])).trans this
  have x4 : w5.heap[w.heap.size + 1 + 1 + 1 + 1]? = some (.cells #[.func (.func 38) #[] #[.pointer (some ⟨w.heap.size + 1 + 1 + 1, 0, none⟩), .pointer (some ⟨w.heap.size, 0, none⟩), .pointer (some ⟨w.heap.size + 1 + 1 + 1 + 1, 0, none⟩)]] 74 (0, 0)) := by
    have := World.alloc_heap_new (w3.alloc (.cells #[.int .i64 0] 3)) (.cells #[.func (.func 38) #[] #[.pointer (some ⟨w.heap.size + 1 + 1 + 1, 0, none⟩), .pointer (some ⟨w.heap.size, 0, none⟩), .pointer (some ⟨w.heap.size + 1 + 1 + 1 + 1, 0, none⟩)]] 74)
    rw [World.size_alloc, s3] at this
    rw [hw5]; exact this
  have y1 := tbox_below x1 b35
  have y2 := tbox_below x2 b35
  obtain ⟨xs, hr, hok⟩ := h.rV
  have H5 : FillSt (Oth w b V L) n₀ w.heap.size w5 b V L σ (w.heap.size + 1 + 1 + 1) w.heap.size (w.heap.size + 1 + 1 + 1 + 1) :=
    ⟨h.below b5, fun c hc => hc.1, h.lt, fun c hc => (hr.lt c hc).2, fun c hc => (h.rL.lt c hc).2, by omega, by omega, tbox_below x0 b35, x4, by omega, by omega⟩
  have hcall := fill1_at (Oth w b V L) n₀ w.heap.size b V L σ _ _ _ 60 1000 T _ w5 (Nat.le_refl _) (Nat.le_refl _) H5 (IsTm.later b5 (Nat.le_refl _) hv) (by rw [x3]; rfl)
  obtain ⟨p0, p1, p2, p3⟩ := tbox_cells y1
  obtain ⟨r0, r1, r2, r3⟩ := tbox_cells y2
  have rf : ∀ j, w5.frozen? ⟨w.heap.size + 1 + 1, j, none⟩ = false := fun j => by simp [World.frozen?, y2]
  have cf : w5.cell? ⟨w.heap.size + 1 + 1 + 1 + 1, 0, none⟩ = some (.func (.func 38) #[] #[.pointer (some ⟨w.heap.size + 1 + 1 + 1, 0, none⟩), .pointer (some ⟨w.heap.size, 0, none⟩), .pointer (some ⟨w.heap.size + 1 + 1 + 1 + 1, 0, none⟩)]) := by simp [World.cell?, x4]
  have q0 : w3.cell? ⟨w.heap.size, 0, none⟩ = some (.pointer (some ⟨b, 0, none⟩)) := by simp [World.cell?, x0]
  have hcall' : Calls Try.prog 38 #[.agg #[.int .i64 k, .int .i64 n, .string s, .slice a len cap], .int .i64 1, .pointer (some ⟨w.heap.size + 1 + 1 + 1, 0, none⟩), .pointer (some ⟨w.heap.size, 0, none⟩), .pointer (some ⟨w.heap.size + 1 + 1 + 1 + 1, 0, none⟩)] w5 fun e w6 =>
      ∃ k6 n6 s6 a6 l6 c6 x6, e = .returned (.tuple #[.agg #[.int .i64 k6, .int .i64 n6, .string s6, .slice a6 l6 c6], .int .i64 x6]) ∧ w6.cell? ⟨w.heap.size + 1 + 1, 0, none⟩ = some (.int .i64 0) ∧ w6.cell? ⟨w.heap.size + 1 + 1, 1, none⟩ = some (.int .i64 0) ∧ w6.cell? ⟨w.heap.size + 1 + 1, 2, none⟩ = some (.string (ByteArray.mk #[])) ∧ w6.cell? ⟨w.heap.size + 1 + 1, 3, none⟩ = some (.slice none 0 0) ∧ (∀ j, w6.frozen? ⟨w.heap.size + 1 + 1, j, none⟩ = false) ∧
        Hid (∃ w7, w7 = (((w6.setCell ⟨w.heap.size + 1 + 1, 0, none⟩ (.int .i64 k6)).setCell ⟨w.heap.size + 1 + 1, 1, none⟩ (.int .i64 n6)).setCell ⟨w.heap.size + 1 + 1, 2, none⟩ (.string s6)).setCell ⟨w.heap.size + 1 + 1, 3, none⟩ (.slice a6 l6 c6) ∧
          w7.heap[w.heap.size + 1 + 1]? = some (.cells #[.int .i64 k6, .int .i64 n6, .string s6, .slice a6 l6 c6] 24 (0, 0)) ∧ FullPost (σ.fill 60 1000 T) w (.returned (.tuple #[.agg #[.int .i64 k6, .int .i64 n6, .string s6, .slice a6 l6 c6], .int .i64 x6])) w7) := by
    refine hcall.mono ?_
    rintro e w6 ⟨hb6, hm⟩
    have hbw : Below w.heap.size w w6 := b5.trans (hb6.below b5.size (by omega))
    have y6 : w6.heap[w.heap.size + 1 + 1]? = some (.cells #[.int .i64 0, .int .i64 0, .string (ByteArray.mk #[]), .slice none 0 0] 24 (0, 0)) := (hb6.same _ (by omega) (by omega)).trans y2
    obtain ⟨z0, z1, z2, z3⟩ := tbox_cells y6
    have hs6 := hb6.size
    cases hr : σ.fill 60 1000 T with
    | bad x =>
      rw [hr] at hm
      obtain ⟨w7, hw7, hb7, hB7, ho7, hs7⟩ := box_but (B := w.heap.size + 1 + 1) (Bn := w.heap.size) (ButN.of hbw) (by omega) y6 (.int .i64 0) (.int .i64 0) (.string (ByteArray.mk #[])) (.slice none 0 0)
      have hbel : Below w.heap.size w w7 := ⟨hB7.os, hB7.tape, hB7.output, hB7.size, fun c hc => hB7.same c hc (by omega)⟩
      exact ⟨_, _, _, _, _, _, _, hm, z0, z1, z2, z3, (fun j => by simp [World.frozen?, y6]), w7, hw7, hb7, hbel, rfl⟩
    | ok u l =>
      rw [hr] at hm
      obtain ⟨k6, n6, s6, a6, l6, c6, rfl, hT6, hn6⟩ := hm
      obtain ⟨w7, hw7, hb7, hB7, ho7, hs7⟩ := box_but (B := w.heap.size + 1 + 1) (Bn := w.heap.size) (ButN.of hbw) (by omega) y6 (.int .i64 k6) (.int .i64 n6) (.string s6) (.slice a6 l6 c6)
      have hbel : Below w.heap.size w w7 := ⟨hB7.os, hB7.tape, hB7.output, hB7.size, fun c hc => hB7.same c hc (by omega)⟩
      refine ⟨_, _, _, _, _, _, _, rfl, z0, z1, z2, z3, (fun j => by simp [World.frozen?, y6]), w7, hw7, hb7, hbel, _, _, _, _, _, _, rfl, hT6.carry (fun c hc => ho7 c (by have := hc.1; omega)) fun c hc => ⟨by have := hc.1; omega, by rw [hs7]; exact hc.2⟩⟩
  have hz := zeroTerm
  have HW := Lib.hid (And.intro hw5 hw3)
  have HS := Lib.hid (And.intro s3 s5)
  clear hv e h hcall x0 x1 x2 x3 x4 y1 y2 hr hok H5 b3 b35 b5 hw3 hw5 s3 s5
  go_enter Try.func21, Try.ntmps21
  go_upto_region 1 with fail
  rw [← HW.out.2]
  go_upto_region 6 with fail
  rw [HS.out.1, ← HW.out.1]
  clear q0
  go_wp2_with (go_at_call 38; (with_reducible refine hcall'.mono ?_); clear hcall'; rintro e w6 ⟨k6, n6, s6, a6, l6, c6, x6, rfl, z0, z1, z2, z3, zf, HZ⟩)
  obtain ⟨w7, hw7, hb7, hP⟩ := HZ.out
  rw [← hw7]
  obtain ⟨f0, f1, f2, f3⟩ := tbox_cells hb7
  refine bodyPost_ret (v := .tuple #[.agg #[.int .i64 k6, .int .i64 n6, .string s6, .slice a6 l6 c6], .int .i64 x6]) (by simp [results, Try.f21, go_sem, f0, f1, f2, f3]) rfl ?_
  exact hP

set_option maxRecDepth 100000 in
set_option maxHeartbeats 1000000 in
theorem value_nil (k n : Int) (s : ByteArray) (a : Option Addr) (len cap : Nat) (w : World) : Calls Try.prog 44 #[.pointer none, .agg #[.int .i64 k, .int .i64 n, .string s, .slice a len cap]] w fun e w' => e = .returned (.tuple #[.agg #[.int .i64 0, .int .i64 0, .string (ByteArray.mk #[]), .slice none 0 0], .bool false]) ∧ Below w.heap.size w w' := by
  have hz := zeroTerm
  have hx2 := World.alloc_heap_new (w.alloc (.cells #[.int .i64 k, .int .i64 n, .string s, .slice a len cap] 24)) (.cells #[.int .i64 0, .int .i64 0, .string (ByteArray.mk #[]), .slice none 0 0] 24)
  rw [World.size_alloc] at hx2
  have hb2 : Below w.heap.size w ((w.alloc (.cells #[.int .i64 k, .int .i64 n, .string s, .slice a len cap] 24)).alloc (.cells #[.int .i64 0, .int .i64 0, .string (ByteArray.mk #[]), .slice none 0 0] 24)) := ((Below.refl _ w).alloc (Nat.le_refl _) _).alloc (by simp) _
  have fin : ∀ nq : Nat, Hid (∃ w5, w5 = ((((((w.alloc (.cells #[.int .i64 k, .int .i64 n, .string s, .slice a len cap] 24)).alloc (.cells #[.int .i64 0, .int .i64 0, .string (ByteArray.mk #[]), .slice none 0 0] 24)).drewN nq).setCell ⟨w.heap.size + 1, 0, none⟩ (.int .i64 0)).setCell ⟨w.heap.size + 1, 1, none⟩ (.int .i64 0)).setCell ⟨w.heap.size + 1, 2, none⟩ (.string (ByteArray.mk #[]))).setCell ⟨w.heap.size + 1, 3, none⟩ (.slice none 0 0) ∧
      w5.heap[w.heap.size + 1]? = some (.cells #[.int .i64 0, .int .i64 0, .string (ByteArray.mk #[]), .slice none 0 0] 24 (0, 0)) ∧ Below w.heap.size w w5) := fun nq => by
    refine ⟨_, rfl, four_block (W := ((w.alloc (.cells #[.int .i64 k, .int .i64 n, .string s, .slice a len cap] 24)).alloc (.cells #[.int .i64 0, .int .i64 0, .string (ByteArray.mk #[]), .slice none 0 0] 24)).drewN nq) hx2 _ _ _ _, ?_⟩
    have hB := dr_below hb2 nq
    exact (((hB.setCell (p := ⟨w.heap.size + 1, 0, none⟩) (Nat.le_succ _) _).setCell (p := ⟨w.heap.size + 1, 1, none⟩) (Nat.le_succ _) _).setCell (p := ⟨w.heap.size + 1, 2, none⟩) (Nat.le_succ _) _).setCell (p := ⟨w.heap.size + 1, 3, none⟩) (Nat.le_succ _) _
  clear hx2 hb2
  go_enter Try.func44, Try.ntmps44
  go_wp2_with fail
  go_quiet (fail)
  go_wp2_with fail
  obtain ⟨w5, hw5, hb5, hB5⟩ := (fin nq).out
  rw [← hw5]
  obtain ⟨f0, f1, f2, f3⟩ := tbox_cells hb5
  refine bodyPost_ret (v := .tuple #[.agg #[.int .i64 0, .int .i64 0, .string (ByteArray.mk #[]), .slice none 0 0], .bool false]) (by simp [results, Try.f44, go_sem, f0, f1, f2, f3]) rfl ?_
  exact ⟨rfl, hB5⟩

set_option maxRecDepth 100000 in
set_option maxHeartbeats 1000000 in
theorem full_nil (v : Value) (T : Tm) (w : World) (hv : Has w v T) (hs : T.size ≤ 1000000000000) : Calls Try.prog 21 #[.pointer none, v] w (FullPost (.ok T 0) w) := by
  obtain ⟨k, n, s, a, len, cap, ks, rfl, e, -⟩ := hv.form
  obtain ⟨w3, hw3⟩ : ∃ w3, w3 = ((w.alloc (.cells #[.pointer none] 39)).alloc (.cells #[.int .i64 k, .int .i64 n, .string s, .slice a len cap] 24)).alloc (.cells #[.int .i64 0, .int .i64 0, .string (ByteArray.mk #[]), .slice none 0 0] 24) := ⟨_, rfl⟩
  have b3 : Below w.heap.size w w3 := by rw [hw3]; exact (((Below.refl _ w).alloc (Nat.le_refl _) _).alloc (by simp) _).alloc (by simp; omega) _
  have x0 : w3.heap[w.heap.size]? = some (.cells #[.pointer none] 39 (0, 0)) := by rw [hw3]; exact (Below.heap_alloc _ _ _ (by simp; omega)).trans ((Below.heap_alloc _ _ _ (by simp)).trans (World.alloc_heap_new _ _))
  have x1 : w3.heap[w.heap.size + 1]? = some (.cells #[.int .i64 k, .int .i64 n, .string s, .slice a len cap] 24 (0, 0)) := by
    have := World.alloc_heap_new (w.alloc (.cells #[.pointer none] 39)) (.cells #[.int .i64 k, .int .i64 n, .string s, .slice a len cap] 24)
    rw [World.size_alloc] at this
    rw [hw3]; exact (Below.heap_alloc _ _ _ (by simp)).trans this
  have x2 : w3.heap[w.heap.size + 1 + 1]? = some (.cells #[.int .i64 0, .int .i64 0, .string (ByteArray.mk #[]), .slice none 0 0] 24 (0, 0)) := by
    have := World.alloc_heap_new ((w.alloc (.cells #[.pointer none] 39)).alloc (.cells #[.int .i64 k, .int .i64 n, .string s, .slice a len cap] 24)) (.cells #[.int .i64 0, .int .i64 0, .string (ByteArray.mk #[]), .slice none 0 0] 24)
    rw [World.size_alloc, World.size_alloc] at this
    rw [hw3]; exact this
  have hcall : Calls Try.prog 37 #[.agg #[.int .i64 k, .int .i64 n, .string s, .slice a len cap]] w3 fun e w6 => ∃ k6 n6 s6 a6 l6 c6, e = .returned (.agg #[.int .i64 k6, .int .i64 n6, .string s6, .slice a6 l6 c6]) ∧ w6.cell? ⟨w.heap.size + 1 + 1, 0, none⟩ = some (.int .i64 0) ∧ w6.cell? ⟨w.heap.size + 1 + 1, 1, none⟩ = some (.int .i64 0) ∧ w6.cell? ⟨w.heap.size + 1 + 1, 2, none⟩ = some (.string (ByteArray.mk #[])) ∧ w6.cell? ⟨w.heap.size + 1 + 1, 3, none⟩ = some (.slice none 0 0) ∧ (∀ j, w6.frozen? ⟨w.heap.size + 1 + 1, j, none⟩ = false) ∧
      Hid (w6.heap[w.heap.size + 1 + 1]? = some (.cells #[.int .i64 0, .int .i64 0, .string (ByteArray.mk #[]), .slice none 0 0] 24 (0, 0)) ∧ TmIn (fun c => w3.heap.size ≤ c ∧ c < w6.heap.size) w6 (.agg #[.int .i64 k6, .int .i64 n6, .string s6, .slice a6 l6 c6]) T ∧ Below w.heap.size w w6) := by
    refine (swhole_at _ T w3 (Has.below hv b3) hs).mono ?_
    rintro e w6 ⟨r, rfl, hr, hb6⟩
    obtain ⟨k6, n6, s6, a6, l6, c6, ks6, rfl, -⟩ := hr.form
    have y2 := tbox_below x2 hb6
    obtain ⟨z0, z1, z2, z3⟩ := tbox_cells y2
    exact ⟨k6, n6, s6, a6, l6, c6, rfl, z0, z1, z2, z3, (fun j => by simp [World.frozen?, y2]), y2, hr, b3.trans (hb6.mono b3.size)⟩
  have q0 : w3.cell? ⟨w.heap.size, 0, none⟩ = some (.pointer none) := by simp [World.cell?, x0]
  obtain ⟨p0, p1, p2, p3⟩ := tbox_cells x1
  have hz := zeroTerm
  have s3 : w3.heap.size = w.heap.size + 1 + 1 + 1 := by rw [hw3]; simp
  have HW := Lib.hid hw3
  have HS := Lib.hid s3
  clear hv b3 x0 x1 x2 hw3 s3 e
  go_enter Try.func21, Try.ntmps21
  go_upto_region 1 with fail
  rw [← HW.out]
  go_wp2_with (go_at_call 37; (with_reducible refine hcall.mono ?_); clear hcall; rintro e w6 ⟨k6, n6, s6, a6, l6, c6, rfl, z0, z1, z2, z3, zf, HZ⟩)
  obtain ⟨w7, hw7, hb7, hT7, hB7, hs7⟩ := boxed_new (B := w.heap.size + 1 + 1) (q := fun c => w.heap.size ≤ c ∧ c < w6.heap.size) HZ.out.1 HZ.out.2.1 (fun c hc => by have := HS.out; have := hc.1; omega) (fun c hc => by have := HS.out; have := hc.1; have := hc.2; omega) HZ.out.2.2 (by omega)
  rw [← hw7]
  obtain ⟨f0, f1, f2, f3⟩ := tbox_cells hb7
  refine bodyPost_ret (v := .tuple #[.agg #[.int .i64 k6, .int .i64 n6, .string s6, .slice a6 l6 c6], .int .i64 0]) (by simp [results, Try.f21, go_sem, f0, f1, f2, f3]) rfl ?_
  exact ⟨hB7, _, _, _, _, _, _, rfl, by rw [hs7]; exact hT7⟩

set_option maxRecDepth 100000 in
set_option maxHeartbeats 2000000 in
theorem end_nil (v : Value) (T : Tm) (q : Nat → Prop) (w : World) (hq : ∀ k, q k → k < w.heap.size) (hv : TmIn q w v T) : Calls Try.prog 39 #[.pointer none, v] w (GotT q T w) := by
  obtain ⟨k, n, s, a, len, cap, ks, rfl, e, -⟩ := hv.form
  obtain ⟨w2, hw2⟩ : ∃ w2, w2 = ((w.alloc (.cells #[.int .i64 k, .int .i64 n, .string s, .slice a len cap] 24)).alloc (.cells #[.int .i64 0, .int .i64 0, .string (ByteArray.mk #[]), .slice none 0 0] 24)) := ⟨_, rfl⟩
  have hb2 : Below w.heap.size w w2 := by rw [hw2]; exact ((Below.refl _ w).alloc (Nat.le_refl _) _).alloc (by simp) _
  have hx2 : w2.heap[w.heap.size + 1]? = some (.cells #[.int .i64 0, .int .i64 0, .string (ByteArray.mk #[]), .slice none 0 0] 24 (0, 0)) := by rw [hw2]; simpa using World.alloc_heap_new (w.alloc (.cells #[.int .i64 k, .int .i64 n, .string s, .slice a len cap] 24)) (.cells #[.int .i64 0, .int .i64 0, .string (ByteArray.mk #[]), .slice none 0 0] 24)
  have hx1 : w2.heap[w.heap.size]? = some (.cells #[.int .i64 k, .int .i64 n, .string s, .slice a len cap] 24 (0, 0)) := by rw [hw2]; exact (Below.heap_alloc _ _ _ (by simp)).trans (World.alloc_heap_new _ _)
  have HH := Lib.hid (And.intro hb2 (And.intro hx2 (And.intro hx1 hv)))
  have HW := Lib.hid hw2
  have hz := zeroTerm
  clear hv e hb2 hx2 hx1 hw2
  go_enter Try.func39, Try.ntmps39
  go_wp2_with fail
  rw [← HW.out]
  go_loopg [] 0 (fun gg wr => wr = w2)
  case atStart => rfl
  case round =>
    subst hrel
    obtain ⟨x0, x1, x2, x3⟩ := tbox_cells HH.out.2.2.1
    have hcall : Calls Try.prog 44 #[.pointer none, .agg #[.int .i64 k, .int .i64 n, .string s, .slice a len cap]] wr fun e w5 => e = .returned (.tuple #[.agg #[.int .i64 0, .int .i64 0, .string (ByteArray.mk #[]), .slice none 0 0], .bool false]) ∧
        (∀ o, (w5.alloc o).cell? ⟨w.heap.size, 0, none⟩ = some (.int .i64 k)) ∧ (∀ o, (w5.alloc o).cell? ⟨w.heap.size, 1, none⟩ = some (.int .i64 n)) ∧ (∀ o, (w5.alloc o).cell? ⟨w.heap.size, 2, none⟩ = some (.string s)) ∧ (∀ o, (w5.alloc o).cell? ⟨w.heap.size, 3, none⟩ = some (.slice a len cap)) ∧
        (∀ o, (w5.alloc o).cell? ⟨w.heap.size + 1, 0, none⟩ = some (.int .i64 0)) ∧ (∀ o, (w5.alloc o).cell? ⟨w.heap.size + 1, 1, none⟩ = some (.int .i64 0)) ∧ (∀ o, (w5.alloc o).cell? ⟨w.heap.size + 1, 2, none⟩ = some (.string (ByteArray.mk #[]))) ∧ (∀ o, (w5.alloc o).cell? ⟨w.heap.size + 1, 3, none⟩ = some (.slice none 0 0)) ∧ (∀ o j, (w5.alloc o).frozen? ⟨w.heap.size + 1, j, none⟩ = false) ∧
        Hid (w5.heap[w.heap.size + 1]? = some (.cells #[.int .i64 0, .int .i64 0, .string (ByteArray.mk #[]), .slice none 0 0] 24 (0, 0)) ∧ Below w.heap.size w w5) := by
      refine (value_nil k n s a len cap wr).mono ?_
      rintro e w5 ⟨rfl, hb5⟩
      have g1 := tbox_below HH.out.2.2.1 hb5
      have g2 := tbox_below HH.out.2.1 hb5
      obtain ⟨p0, p1, p2, p3⟩ := tbox_cells g1
      obtain ⟨r0, r1, r2, r3⟩ := tbox_cells g2
      exact ⟨rfl, fun o => cell_al p0 o, fun o => cell_al p1 o, fun o => cell_al p2 o, fun o => cell_al p3 o, fun o => cell_al r0 o, fun o => cell_al r1 o, fun o => cell_al r2 o, fun o => cell_al r3 o, (fun o j => by simp [World.frozen?, (Below.heap_alloc w5 o _ (Array.getElem?_eq_some_iff.1 g2).1).trans g2]), g2, HH.out.1.trans (hb5.mono HH.out.1.size)⟩
    clear x0 x1 x2 x3
    obtain ⟨x0, x1, x2, x3⟩ := tbox_cells HH.out.2.2.1
    go_wp2_with (go_at_call 44; refine hcall.mono ?_; clear hcall; rintro e w5 ⟨rfl, p0, p1, p2, p3, r0, r1, r2, r3, rf, HZ⟩)
    have hb6 := HZ.out.2.alloc HZ.out.2.size (.cells #[.int .i64 0, .int .i64 0, .string (ByteArray.mk #[]), .slice none 0 0] 24)
    obtain ⟨w7, hw7, hb7, hB7, ho7, hs7⟩ := box_but (w := w) (B := w.heap.size + 1) (Bn := w.heap.size) (ButN.of hb6) (Nat.le_succ _) ((Below.heap_alloc w5 (.cells #[.int .i64 0, .int .i64 0, .string (ByteArray.mk #[]), .slice none 0 0] 24) _ (Array.getElem?_eq_some_iff.1 HZ.out.1).1).trans HZ.out.1) (.int .i64 k) (.int .i64 n) (.string s) (.slice a len cap)
    rw [← hw7]
    obtain ⟨f0, f1, f2, f3⟩ := tbox_cells hb7
    refine bodyPost_ret (v := .agg #[.int .i64 k, .int .i64 n, .string s, .slice a len cap]) (by simp [results, Try.f39, go_sem, f0, f1, f2, f3]) rfl ?_
    exact ⟨_, _, _, _, _, _, rfl, HH.out.2.2.2.carry (fun c hc => hB7.same c (hq c hc) (by have := hq c hc; omega)) fun c hc => hc, ⟨hB7.os, hB7.tape, hB7.output, hB7.size, fun c hc => hB7.same c hc (by omega)⟩⟩
end Go.Proofs.Ytlnggaepmclbkaa

namespace Go.Proofs.Ytlnggaepmclbkaa
open Go.RowKit Go.Shelf
open Classical
set_option linter.unusedVariables false

theorem loop_eq (s : ByteArray) : ∀ (k i : Nat) (r : List UInt8), s.size - i = k → ByteArray.toList.loop s i r = r.reverse ++ s.data.toList.drop i := by
  intro k
  induction k with
  | zero =>
    intro i r h
    rw [ByteArray.toList.loop]
    rw [if_neg (by omega)]
    have : s.data.toList.length ≤ i := by have : s.data.toList.length = s.size := rfl; omega
    rw [List.drop_eq_nil_of_le this, List.append_nil]
  | succ k ih =>
    intro i r h
    rw [ByteArray.toList.loop]
    rw [if_pos (by omega), ih (i + 1) _ (by omega), List.reverse_cons, List.append_assoc]
    congr 1
    have hi : i < s.data.toList.length := by have : s.data.toList.length = s.size := rfl; omega
    rw [List.drop_eq_getElem_cons hi]
    have hi' : i < s.data.size := by simpa using hi
    have : s.get! i = s.data.toList[i] := (getElem!_pos s.data i hi').trans (by simp)
    rw [this]; rfl
theorem toList_data (s : ByteArray) : s.toList = s.data.toList := by
  have := loop_eq s _ 0 [] rfl
  simpa [ByteArray.toList] using this
theorem toList_inj {s t : ByteArray} (h : s.toList = t.toList) : s = t := by
  rw [toList_data, toList_data] at h
  cases s; cases t
  simp at h
  rw [h]

set_option maxRecDepth 100000 in
set_option maxHeartbeats 4000000 in
theorem same_at (T : Tm) : ∀ (U : Tm) (u v : Value) (w : World), Has w u T → Has w v U → T.size ≤ 1000000000000 → U.size ≤ 1000000000000 → Calls Try.prog 13 #[u, v] w (Gets w (.bool (decide (T = U)))) := by
  induction T using Tm.ind with
  | h k n s ks ih =>
    intro U u v w hu hv hs ht
    obtain ⟨k_, n_, s_, a, len, cap, ks_, rfl, e, rfl, hk, hn, hs', hc, hm, ha⟩ := hu.form
    injection e with e1 e2 e3 e4
    subst e1 e2 e3 e4
    obtain ⟨k', n', s', a', len', cap', ks', rfl, rfl, rfl, hk', hn', hs'', hc', hm', ha'⟩ := hv.form
    have hl1 : ks.length ≤ 1000000000000 := by have := Tm.length_le_sizes ks; rw [Tm.size_mk] at hs; omega
    have hl2 : ks'.length ≤ 1000000000000 := by have := Tm.length_le_sizes ks'; rw [Tm.size_mk] at ht; omega
    obtain ⟨w2, hw2⟩ : ∃ w2, w2 = (w.alloc (.cells #[.int .i64 k, .int .i64 n, .string s, .slice a ks.length cap] 24)).alloc (.cells #[.int .i64 k', .int .i64 n', .string s', .slice a' ks'.length cap'] 24) := ⟨_, rfl⟩
    have hB2 : Below w.heap.size w w2 := by rw [hw2]; exact ((Below.refl _ w).alloc (Nat.le_refl _) _).alloc (by simp) _
    by_cases hkk : k = k'
    case neg =>
      have hne : ¬ (Tm.mk k n s ks = Tm.mk k' n' s' ks') := fun e => hkk (by injection e)
      rw [decide_eq_false hne]
      have hkk' : (k == k') = false := by simpa using hkk
      clear ih hu hv hs ht hne
      subst hw2
      go_enter Try.func13, Try.ntmps13
      go_wp2_with fail
      go_ret
      exact ⟨rfl, hB2⟩
    subst hkk
    by_cases hnn : n = n'
    case neg =>
      have hne : ¬ (Tm.mk k n s ks = Tm.mk k n' s' ks') := fun e => hnn (by injection e)
      rw [decide_eq_false hne]
      have hnn' : (n == n') = false := by simpa using hnn
      clear ih hu hv hs ht hne
      subst hw2
      go_enter Try.func13, Try.ntmps13
      go_wp2_with fail
      go_ret
      exact ⟨rfl, hB2⟩
    subst hnn
    by_cases hss : s = s'
    case neg =>
      have hne : ¬ (Tm.mk k n s ks = Tm.mk k n s' ks') := fun e => hss (by injection e)
      rw [decide_eq_false hne]
      have hss' : ¬ s.toList = s'.toList := fun e => hss (toList_inj e)
      clear ih hu hv hs ht hne
      subst hw2
      go_enter Try.func13, Try.ntmps13
      go_wp2_with fail
      go_ret
      exact ⟨rfl, hB2⟩
    subst hss
    by_cases hll : ks.length = ks'.length
    case neg =>
      have hne : ¬ (Tm.mk k n s ks = Tm.mk k n s ks') := fun e => hll (by injection e with _ _ _ e; rw [e])
      rw [decide_eq_false hne]
      have hll' : ((ks.length : Int) == (ks'.length : Int)) = false := by simp; omega
      have HL := Lib.hid hll
      clear ih hu hv hs ht hne hll
      subst hw2
      go_enter Try.func13, Try.ntmps13
      go_wp2_with fail
      go_ret
      exact ⟨rfl, hB2⟩
    have hll' : ((ks.length : Int) == (ks'.length : Int)) = true := by simp; omega
    have hll'' : ((ks.length : Int) != (ks'.length : Int)) = false := by rw [bne, hll']; rfl
    have hx1 : w2.heap[w.heap.size]? = some (.cells #[.int .i64 k, .int .i64 n, .string s, .slice a ks.length cap] 24 (0, 0)) := by rw [hw2]; exact (Below.heap_alloc _ _ _ (by simp)).trans (World.alloc_heap_new _ _)
    have hx2 : w2.heap[w.heap.size + 1]? = some (.cells #[.int .i64 k, .int .i64 n, .string s, .slice a' ks'.length cap'] 24 (0, 0)) := by rw [hw2]; simpa using World.alloc_heap_new (w.alloc (.cells #[.int .i64 k, .int .i64 n, .string s, .slice a ks.length cap] 24)) (.cells #[.int .i64 k, .int .i64 n, .string s, .slice a' ks'.length cap'] 24)
    have HH := Lib.hid (And.intro hll (And.intro hB2 (And.intro hx1 (And.intro hx2 (And.intro hs ht)))))
    have HW := Lib.hid hw2
    clear hll hB2 hx1 hx2 hw2 hs ht
    go_enter Try.func13, Try.ntmps13
    go_wp2_with fail
    rw [← HW.out]
    go_loopw [37] (fun i wr => ∃ c : Nat, i = .int .i64 c ∧ c ≤ ks.length ∧ ks.take c = ks'.take c ∧ Below w2.heap.size w2 wr) (fun i _ => ks.length - (intOf i).toNat)
    case atStart => exact ⟨0, rfl, Nat.zero_le _, by simp, Below.refl _ _⟩
    case round =>
      obtain ⟨c, rfl, hcl, htk, hB⟩ := hrel
      have hwr : Below w.heap.size w wr := HH.out.2.1.trans (hB.mono HH.out.2.1.size)
      by_cases hlt : c < ks.length
      · have hlt2 : c < ks'.length := by have := HH.out.1; omega
        obtain ⟨x0, x1, x2, x3⟩ := tbox_cells (tbox_below HH.out.2.2.1 hB)
        obtain ⟨y0, y1, y2, y3⟩ := tbox_cells (tbox_below HH.out.2.2.2.1 hB)
        obtain ⟨b, o, k1, n1, s1, a1, l1, c1, T1, rfl, hbn, e0, e1, e2, e3, hT1, ht1⟩ := IsTm.kid hu c hlt
        obtain ⟨b', o', k2, n2, s2, a2, l2, c2, T2, rfl, hbn', f0, f1, f2, f3, hT2, ht2⟩ := IsTm.kid hv c hlt2
        have q0 := (hwr.cell (p := ⟨b, o + c * 4, none⟩) hbn).trans e0
        have q1 := (hwr.cell (p := ⟨b, o + c * 4 + 1, none⟩) hbn).trans e1
        have q2 := (hwr.cell (p := ⟨b, o + c * 4 + 2, none⟩) hbn).trans e2
        have q3 := (hwr.cell (p := ⟨b, o + c * 4 + 3, none⟩) hbn).trans e3
        have r0 := (hwr.cell (p := ⟨b', o' + c * 4, none⟩) hbn').trans f0
        have r1 := (hwr.cell (p := ⟨b', o' + c * 4 + 1, none⟩) hbn').trans f1
        have r2 := (hwr.cell (p := ⟨b', o' + c * 4 + 2, none⟩) hbn').trans f2
        have r3 := (hwr.cell (p := ⟨b', o' + c * 4 + 3, none⟩) hbn').trans f3
        have hih : ∀ w3, Below wr.heap.size wr w3 → Calls Try.prog 13 #[.agg #[.int .i64 k1, .int .i64 n1, .string s1, .slice a1 l1 c1], .agg #[.int .i64 k2, .int .i64 n2, .string s2, .slice a2 l2 c2]] w3 fun e w4 => ∃ q, decide (T1 = T2) = q ∧ e = .returned (.bool q) ∧ Below wr.heap.size wr w4 := fun w3 h3 =>
          (ih T1 (List.mem_of_getElem? hT1) T2 _ _ w3 (IsTm.later (hwr.trans (h3.mono hwr.size)) (Nat.le_trans hwr.size h3.size) ht1) (IsTm.later (hwr.trans (h3.mono hwr.size)) (Nat.le_trans hwr.size h3.size) ht2)
            (by have h1 := Tm.size_le_sizes (List.mem_of_getElem? hT1); have h2 := HH.out.2.2.2.2.1; rw [Tm.size_mk] at h2; omega) (by have h1 := Tm.size_le_sizes (List.mem_of_getElem? hT2); have h2 := HH.out.2.2.2.2.2; rw [Tm.size_mk] at h2; omega)).mono fun e w4 h4 => ⟨_, rfl, h4.1, h3.trans (h4.2.mono h3.size)⟩
        have HT := Lib.hid (And.intro htk (And.intro hB (And.intro hT1 hT2)))
        clear ih hu hv e0 e1 e2 e3 f0 f1 f2 f3 ht1 ht2 htk hB hT1 hT2 HW
        have hlt8 : b < wr.heap.size ∧ b' < wr.heap.size ∧ w.heap.size < wr.heap.size ∧ w.heap.size + 1 < wr.heap.size := by
          have g1 := (Array.getElem?_eq_some_iff.1 (tbox_below HH.out.2.2.2.1 HT.out.2.1)).1
          have g2 := hwr.size
          exact ⟨by omega, by omega, by omega, by omega⟩
        have HS : ∀ w', Below wr.heap.size wr w' → (w'.cell? ⟨w.heap.size, 3, none⟩ = some (.slice (some ⟨b, o, none⟩) ks.length cap) ∧ w'.cell? ⟨w.heap.size + 1, 3, none⟩ = some (.slice (some ⟨b', o', none⟩) ks'.length cap') ∧
            w'.cell? ⟨b, o + c * 4, none⟩ = some (.int .i64 k1) ∧ w'.cell? ⟨b, o + c * 4 + 1, none⟩ = some (.int .i64 n1) ∧ w'.cell? ⟨b, o + c * 4 + 2, none⟩ = some (.string s1) ∧ w'.cell? ⟨b, o + c * 4 + 3, none⟩ = some (.slice a1 l1 c1) ∧
            w'.cell? ⟨b', o' + c * 4, none⟩ = some (.int .i64 k2) ∧ w'.cell? ⟨b', o' + c * 4 + 1, none⟩ = some (.int .i64 n2) ∧ w'.cell? ⟨b', o' + c * 4 + 2, none⟩ = some (.string s2) ∧ w'.cell? ⟨b', o' + c * 4 + 3, none⟩ = some (.slice a2 l2 c2) ∧ Below wr.heap.size wr w') := fun w' hb =>
          ⟨(hb.cell (p := ⟨_, _, none⟩) hlt8.2.2.1).trans x3, (hb.cell (p := ⟨_, _, none⟩) hlt8.2.2.2).trans y3, (hb.cell (p := ⟨_, _, none⟩) hlt8.1).trans q0, (hb.cell (p := ⟨_, _, none⟩) hlt8.1).trans q1, (hb.cell (p := ⟨_, _, none⟩) hlt8.1).trans q2, (hb.cell (p := ⟨_, _, none⟩) hlt8.1).trans q3,
            (hb.cell (p := ⟨_, _, none⟩) hlt8.2.1).trans r0, (hb.cell (p := ⟨_, _, none⟩) hlt8.2.1).trans r1, (hb.cell (p := ⟨_, _, none⟩) hlt8.2.1).trans r2, (hb.cell (p := ⟨_, _, none⟩) hlt8.2.1).trans r3, hb⟩
        clear hlt8
        go_wp2_with fail
        clear q0 q1 q2 q3 r0 r1 r2 r3 x0 x1 x2 x3 y0 y1 y2 y3
        go_region_held3 (fun w' => w'.cell? ⟨w.heap.size, 3, none⟩ = some (.slice (some ⟨b, o, none⟩) ks.length cap) ∧ w'.cell? ⟨w.heap.size + 1, 3, none⟩ = some (.slice (some ⟨b', o', none⟩) ks'.length cap') ∧
            w'.cell? ⟨b, o + c * 4, none⟩ = some (.int .i64 k1) ∧ w'.cell? ⟨b, o + c * 4 + 1, none⟩ = some (.int .i64 n1) ∧ w'.cell? ⟨b, o + c * 4 + 2, none⟩ = some (.string s1) ∧ w'.cell? ⟨b, o + c * 4 + 3, none⟩ = some (.slice a1 l1 c1) ∧
            w'.cell? ⟨b', o' + c * 4, none⟩ = some (.int .i64 k2) ∧ w'.cell? ⟨b', o' + c * 4 + 1, none⟩ = some (.int .i64 n2) ∧ w'.cell? ⟨b', o' + c * 4 + 2, none⟩ = some (.string s2) ∧ w'.cell? ⟨b', o' + c * 4 + 3, none⟩ = some (.slice a2 l2 c2) ∧ Below wr.heap.size wr w')
          (first | exact HS _ (Below.refl _ _).drew | exact HS _ hb4)
          (first | (go_at_call 13; (with_reducible refine (hih _ (by go_split_ands; assumption)).mono ?_); rintro e w4 ⟨q, hq, rfl, hb4⟩))
        go_wp2_with fail
        · rename_i hnq
          have hq0 : q = false := by simpa using hnq
          rw [hq0] at hq
          have hne := of_decide_eq_false hq
          go_ret
          refine ⟨congrArg (fun b => Ending.returned (Value.bool b)) (decide_eq_false fun e => hne ?_).symm, hwr.trans (hb4.mono hwr.size)⟩
          injection e with _ _ _ e
          have h1 := HT.out.2.2.1
          have h2 := HT.out.2.2.2
          rw [e, h2] at h1
          injection h1 with h1
          exact h1.symm
        · rename_i hnq
          have hq0 : q = true := by simpa using hnq
          rw [hq0] at hq
          have heq := of_decide_eq_true hq
          go_roundw
          case rel =>
            refine ⟨c + 1, by simp, hlt, ?_, HT.out.2.1.trans (hb4.mono HT.out.2.1.size)⟩
            rw [List.take_add_one, List.take_add_one, HT.out.1, HT.out.2.2.1, HT.out.2.2.2, heq]
          case measure => simp [intOf]; omega
      · have hce : c = ks.length := by omega
        subst hce
        obtain ⟨x0, x1, x2, x3⟩ := tbox_cells (tbox_below HH.out.2.2.1 hB)
        clear ih hu hv hB HW
        go_wp2_with fail
        go_ret
        refine ⟨congrArg (fun b => Ending.returned (Value.bool b)) (decide_eq_true ?_).symm, hwr⟩
        rw [List.take_length, HH.out.1, List.take_length] at htk
        rw [htk]

end Go.Proofs.Ytlnggaepmclbkaa

namespace Go.Proofs.Ytlnggaepmclbkaa
open Go.RowKit Go.Shelf
set_option linter.unusedVariables false
set_option linter.unusedSimpArgs false

theorem StAt.step {n₀ : Nat} {w w' : World} {b : Nat} {V L : Value} {σ : St} (h : StAt (Oth w b V L) n₀ w b V L σ) (k : Below w.heap.size w w') : StAt (Oth w' b V L) n₀ w' b V L σ :=
  (h.below k).weak (fun c hc => hc.below k) fun c hc => hc

def exV1 : Tm := .mk 1 1 (ByteArray.mk #[]) []
def exV0 : Tm := .mk 1 0 (ByteArray.mk #[]) []
def exFV : Tm := .mk 3 0 (ByteArray.mk #[102]) [exV1]
def exA10 : Tm := .mk 3 0 (ByteArray.mk #[97]) []
def exFA : Tm := .mk 3 0 (ByteArray.mk #[102]) [exA10]
def σ2 : St := ⟨[none, none], []⟩
theorem σ2_eq : (St.mk [] []).fresh 2 = σ2 := rfl
theorem σ2_met : ¬ Met σ2 ((0 : Nat) : Int) exFV := by
  rintro ⟨n, h⟩
  cases h with
  | var _ h1 _ => cases h1
  | bound h _ => have := (St.val_some h).1; cases this
  | kid _ _ hU g =>
    have hU : _ ∈ [exV1] := hU
    rw [List.mem_singleton.1 hU] at g
    cases g with
    | var _ _ hn => cases hn
    | bound h _ => cases h
    | kid h1 _ _ _ => exact h1 rfl
def σ3 : St := σ2.bind 0 exFV
theorem σ3_met : ¬ Met σ3 ((1 : Nat) : Int) exA10 := by
  rintro ⟨n, h⟩
  cases h with
  | var _ h1 _ => cases h1
  | bound h _ => have := (St.val_some h).1; cases this
  | kid _ _ hU g => cases hU
def σ4 : St := σ3.bind 1 exA10
theorem σ4_fin0 : σ4.fin exV0 = exFV := (EndsN.step (U := exFV) rfl (.stop rfl)).fin
theorem σ4_fin1 : σ4.fin exV1 = exA10 := (EndsN.step (U := exA10) rfl (.stop rfl)).fin
theorem σ4_fill : σ4.fill 60 1000 exV0 = .ok exFA 998 := by
  have h1 : σ4.fill 59 999 exV1 = .ok exA10 998 := by
    show σ4.fill (58 + 1) 999 exV1 = _
    rw [St.fill, if_neg (by decide), σ4_fin1]
    rfl
  show σ4.fill (59 + 1) 1000 exV0 = _
  rw [St.fill, if_neg (by decide), σ4_fin0]
  have h2 : fillL (σ4.fill 59) (1000 - 1) exFV.kids = .ok [exA10] 998 := by
    show fillL (σ4.fill 59) 999 ([] ++ [exV1]) = _
    rw [fillL_snoc, fillL_nil]
    simp only [h1]; rfl
  rw [h2]; rfl
theorem NewTm.has10 {w w' : World} {T : Tm} {e : Ending} (h : NewTm w T e w') : ∃ k n s a len cap, e = .returned (.agg #[.int .i64 k, .int .i64 n, .string s, .slice a len cap]) ∧ Has w' (.agg #[.int .i64 k, .int .i64 n, .string s, .slice a len cap]) T ∧ Below w.heap.size w w' := h.has

end Go.Proofs.Ytlnggaepmclbkaa
