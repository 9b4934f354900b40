/-
  store.Full; what is answered where there is no store.
-/
import Derived.Test.YtnaopkkdidngoaaStoM
import Derived.Test.YtnaopkkdidngoaaStoJ
import Derived.Laws.EntriesVeiled
namespace Go.Proofs.Ytnaopkkdidngoaa
open Go.RowKit Go.Shelf
set_option linter.unusedVariables false
set_option linter.unusedSimpArgs false

/-- What Full answers. -/
def FullPost (r : FR) (w : World) (e : Ending) (w' : World) : Prop := Below w.heap.size w w' ∧ match r with
  | .bad x => e = .returned (.tuple #[.agg #[.int .i64 0, .int .i64 0, .string (ByteArray.mk #[]), .slice none 0 0], .int .i64 x])
  | .ok u _ => ∃ k n s a l' c, e = .returned (.tuple #[.agg #[.int .i64 k, .int .i64 n, .string s, .slice a l' c], .int .i64 0]) ∧ TmIn (fun c => w.heap.size ≤ c ∧ c < w'.heap.size) w' (.agg #[.int .i64 k, .int .i64 n, .string s, .slice a l' c]) u

set_option maxRecDepth 100000 in
set_option maxHeartbeats 4000000 in
theorem full_at {n₀ : Nat} {w : World} {b : Nat} {V L : Value} {σ : St} (h : StAt (Oth w b V L) n₀ w b V L σ) (v : Value) (T : Tm) (hv : Has w v T) :
    Calls Try.prog 14 #[.pointer (some ⟨b, 0, none⟩), v] w (FullPost (σ.fill 60 1000 T) w) := by
  obtain ⟨k, n, s, a, len, cap, ks, rfl, e, -⟩ := hv.form
  obtain ⟨w3, hw3⟩ : ∃ w3, w3 = ((w.alloc (.cells #[.pointer (some ⟨b, 0, none⟩)] 27)).alloc (.cells #[.int .i64 k, .int .i64 n, .string s, .slice a len cap] 25)).alloc (.cells #[.int .i64 0, .int .i64 0, .string (ByteArray.mk #[]), .slice none 0 0] 25) := ⟨_, rfl⟩
  obtain ⟨w5, hw5⟩ : ∃ w5, w5 = (w3.alloc (.cells #[.int .i64 0] 3)).alloc (.cells #[.func (.func 28) #[] #[.pointer (some ⟨w.heap.size + 1 + 1 + 1, 0, none⟩), .pointer (some ⟨w.heap.size, 0, none⟩), .pointer (some ⟨w.heap.size + 1 + 1 + 1 + 1, 0, none⟩)]] 63) := ⟨_, rfl⟩
  have s3 : w3.heap.size = w.heap.size + 1 + 1 + 1 := by rw [hw3]; simp
  have s5 : w5.heap.size = w.heap.size + 1 + 1 + 1 + 1 + 1 := by rw [hw5]; simp [s3]
  have b3 : Below w.heap.size w w3 := by rw [hw3]; exact (((Below.refl _ w).alloc (Nat.le_refl _) _).alloc (by simp) _).alloc (by simp; omega) _
  have b35 : Below w3.heap.size w3 w5 := by rw [hw5]; exact ((Below.refl _ w3).alloc (Nat.le_refl _) _).alloc (by simp) _
  have b5 : Below w.heap.size w w5 := b3.trans (b35.mono b3.size)
  have x0 : w3.heap[w.heap.size]? = some (.cells #[.pointer (some ⟨b, 0, none⟩)] 27 (0, 0)) := by rw [hw3]; exact (Below.heap_alloc _ _ _ (by simp; omega)).trans ((Below.heap_alloc _ _ _ (by simp)).trans (World.alloc_heap_new _ _))
  have x1 : w3.heap[w.heap.size + 1]? = some (.cells #[.int .i64 k, .int .i64 n, .string s, .slice a len cap] 25 (0, 0)) := by
    have := World.alloc_heap_new (w.alloc (.cells #[.pointer (some ⟨b, 0, none⟩)] 27)) (.cells #[.int .i64 k, .int .i64 n, .string s, .slice a len cap] 25)
    rw [World.size_alloc] at this
    rw [hw3]; exact (Below.heap_alloc _ _ _ (by simp)).trans this
  have x2 : w3.heap[w.heap.size + 1 + 1]? = some (.cells #[.int .i64 0, .int .i64 0, .string (ByteArray.mk #[]), .slice none 0 0] 25 (0, 0)) := by
    have := World.alloc_heap_new ((w.alloc (.cells #[.pointer (some ⟨b, 0, none⟩)] 27)).alloc (.cells #[.int .i64 k, .int .i64 n, .string s, .slice a len cap] 25)) (.cells #[.int .i64 0, .int .i64 0, .string (ByteArray.mk #[]), .slice none 0 0] 25)
    rw [World.size_alloc, World.size_alloc] at this
    rw [hw3]; exact this
  have x3 : w5.heap[w.heap.size + 1 + 1 + 1]? = some (.cells #[.int .i64 0] 3 (0, 0)) := by
    have := World.alloc_heap_new w3 (.cells #[.int .i64 0] 3)
    rw [s3] at this
    rw [hw5]; exact (Below.heap_alloc _ _ _ (by simp [s3])).trans this
  have x4 : w5.heap[w.heap.size + 1 + 1 + 1 + 1]? = some (.cells #[.func (.func 28) #[] #[.pointer (some ⟨w.heap.size + 1 + 1 + 1, 0, none⟩), .pointer (some ⟨w.heap.size, 0, none⟩), .pointer (some ⟨w.heap.size + 1 + 1 + 1 + 1, 0, none⟩)]] 63 (0, 0)) := by
    have := World.alloc_heap_new (w3.alloc (.cells #[.int .i64 0] 3)) (.cells #[.func (.func 28) #[] #[.pointer (some ⟨w.heap.size + 1 + 1 + 1, 0, none⟩), .pointer (some ⟨w.heap.size, 0, none⟩), .pointer (some ⟨w.heap.size + 1 + 1 + 1 + 1, 0, none⟩)]] 63)
    rw [World.size_alloc, s3] at this
    rw [hw5]; exact this
  have y1 := tbox_below x1 b35
  have y2 := tbox_below x2 b35
  obtain ⟨xs, hr, hok⟩ := h.rV
  have H5 : FillAt (Oth w b V L) n₀ w.heap.size w5 b V L σ (w.heap.size + 1 + 1 + 1) w.heap.size (w.heap.size + 1 + 1 + 1 + 1) :=
    ⟨h.below b5, fun c hc => hc.1, h.lt, fun c hc => (hr.lt c hc).2, fun c hc => (h.rL.lt c hc).2, by omega, by omega, tbox_below x0 b35, x4, by omega, by omega⟩
  have hcall := fill1_at (Oth w b V L) n₀ w.heap.size b V L σ _ _ _ 60 1000 T _ w5 (Nat.le_refl _) (Nat.le_refl _) H5 (IsTm.later b5 (Nat.le_refl _) hv) (by rw [x3]; rfl)
  obtain ⟨p0, p1, p2, p3⟩ := tbox_cells y1
  obtain ⟨r0, r1, r2, r3⟩ := tbox_cells y2
  have rf : ∀ j, w5.frozen? ⟨w.heap.size + 1 + 1, j, none⟩ = false := fun j => by simp [World.frozen?, y2]
  have cf : w5.cell? ⟨w.heap.size + 1 + 1 + 1 + 1, 0, none⟩ = some (.func (.func 28) #[] #[.pointer (some ⟨w.heap.size + 1 + 1 + 1, 0, none⟩), .pointer (some ⟨w.heap.size, 0, none⟩), .pointer (some ⟨w.heap.size + 1 + 1 + 1 + 1, 0, none⟩)]) := by simp [World.cell?, x4]
  have q0 : w3.cell? ⟨w.heap.size, 0, none⟩ = some (.pointer (some ⟨b, 0, none⟩)) := by simp [World.cell?, x0]
  have hcall' : Calls Try.prog 28 #[.agg #[.int .i64 k, .int .i64 n, .string s, .slice a len cap], .int .i64 1, .pointer (some ⟨w.heap.size + 1 + 1 + 1, 0, none⟩), .pointer (some ⟨w.heap.size, 0, none⟩), .pointer (some ⟨w.heap.size + 1 + 1 + 1 + 1, 0, none⟩)] w5 fun e w6 =>
      ∃ k6 n6 s6 a6 l6 c6 x6, e = .returned (.tuple #[.agg #[.int .i64 k6, .int .i64 n6, .string s6, .slice a6 l6 c6], .int .i64 x6]) ∧ w6.cell? ⟨w.heap.size + 1 + 1, 0, none⟩ = some (.int .i64 0) ∧ w6.cell? ⟨w.heap.size + 1 + 1, 1, none⟩ = some (.int .i64 0) ∧ w6.cell? ⟨w.heap.size + 1 + 1, 2, none⟩ = some (.string (ByteArray.mk #[])) ∧ w6.cell? ⟨w.heap.size + 1 + 1, 3, none⟩ = some (.slice none 0 0) ∧ (∀ j, w6.frozen? ⟨w.heap.size + 1 + 1, j, none⟩ = false) ∧
        Hid (∃ w7, w7 = (((w6.setCell ⟨w.heap.size + 1 + 1, 0, none⟩ (.int .i64 k6)).setCell ⟨w.heap.size + 1 + 1, 1, none⟩ (.int .i64 n6)).setCell ⟨w.heap.size + 1 + 1, 2, none⟩ (.string s6)).setCell ⟨w.heap.size + 1 + 1, 3, none⟩ (.slice a6 l6 c6) ∧
          w7.heap[w.heap.size + 1 + 1]? = some (.cells #[.int .i64 k6, .int .i64 n6, .string s6, .slice a6 l6 c6] 25 (0, 0)) ∧ FullPost (σ.fill 60 1000 T) w (.returned (.tuple #[.agg #[.int .i64 k6, .int .i64 n6, .string s6, .slice a6 l6 c6], .int .i64 x6])) w7) := by
    refine hcall.mono ?_
    rintro e w6 ⟨hb6, hm⟩
    have hbw : Below w.heap.size w w6 := b5.trans (hb6.below b5.size (by omega))
    have y6 : w6.heap[w.heap.size + 1 + 1]? = some (.cells #[.int .i64 0, .int .i64 0, .string (ByteArray.mk #[]), .slice none 0 0] 25 (0, 0)) := (hb6.same _ (by omega) (by omega)).trans y2
    obtain ⟨z0, z1, z2, z3⟩ := tbox_cells y6
    have hs6 := hb6.size
    cases hr : σ.fill 60 1000 T with
    | bad x =>
      rw [hr] at hm
      obtain ⟨w7, hw7, hb7, hB7, ho7, hs7⟩ := box_but (B := w.heap.size + 1 + 1) (Bn := w.heap.size) (ButN.of hbw) (by omega) y6 (.int .i64 0) (.int .i64 0) (.string (ByteArray.mk #[])) (.slice none 0 0)
      have hbel : Below w.heap.size w w7 := ⟨hB7.os, hB7.tape, hB7.output, hB7.size, fun c hc => hB7.same c hc (by omega)⟩
      exact ⟨_, _, _, _, _, _, _, hm, z0, z1, z2, z3, (fun j => by simp [World.frozen?, y6]), w7, hw7, hb7, hbel, rfl⟩
    | ok u l =>
      rw [hr] at hm
      obtain ⟨k6, n6, s6, a6, l6, c6, rfl, hT6, hn6⟩ := hm
      obtain ⟨w7, hw7, hb7, hB7, ho7, hs7⟩ := box_but (B := w.heap.size + 1 + 1) (Bn := w.heap.size) (ButN.of hbw) (by omega) y6 (.int .i64 k6) (.int .i64 n6) (.string s6) (.slice a6 l6 c6)
      have hbel : Below w.heap.size w w7 := ⟨hB7.os, hB7.tape, hB7.output, hB7.size, fun c hc => hB7.same c hc (by omega)⟩
      refine ⟨_, _, _, _, _, _, _, rfl, z0, z1, z2, z3, (fun j => by simp [World.frozen?, y6]), w7, hw7, hb7, hbel, _, _, _, _, _, _, rfl, hT6.carry (fun c hc => ho7 c (by have := hc.1; omega)) fun c hc => ⟨by have := hc.1; omega, by rw [hs7]; exact hc.2⟩⟩
  have hz := zeroTerm
  have HW := Lib.hid (And.intro hw5 hw3)
  have HS := Lib.hid (And.intro s3 s5)
  clear hv e h hcall x0 x1 x2 x3 x4 y1 y2 hr hok H5 b3 b35 b5 hw3 hw5 s3 s5
  go_enter Try.func14, Try.ntmps14
  go_upto_region 1 with fail
  rw [← HW.out.2]
  go_upto_region 6 with fail
  rw [HS.out.1, ← HW.out.1]
  clear q0
  go_wp2_with (go_at_call 28; (with_reducible refine hcall'.mono ?_); clear hcall'; rintro e w6 ⟨k6, n6, s6, a6, l6, c6, x6, rfl, z0, z1, z2, z3, zf, HZ⟩)
  obtain ⟨w7, hw7, hb7, hP⟩ := HZ.out
  rw [← hw7]
  obtain ⟨f0, f1, f2, f3⟩ := tbox_cells hb7
  refine bodyPost_ret (v := .tuple #[.agg #[.int .i64 k6, .int .i64 n6, .string s6, .slice a6 l6 c6], .int .i64 x6]) (by simp [results, Try.f14, go_sem, f0, f1, f2, f3]) rfl ?_
  exact hP

set_option maxRecDepth 100000 in
set_option maxHeartbeats 1000000 in
theorem value_nil (k n : Int) (s : ByteArray) (a : Option Addr) (len cap : Nat) (w : World) : Calls Try.prog 34 #[.pointer none, .agg #[.int .i64 k, .int .i64 n, .string s, .slice a len cap]] w fun e w' => e = .returned (.tuple #[.agg #[.int .i64 0, .int .i64 0, .string (ByteArray.mk #[]), .slice none 0 0], .bool false]) ∧ Below w.heap.size w w' := by
  have hz := zeroTerm
  have hx2 := World.alloc_heap_new (w.alloc (.cells #[.int .i64 k, .int .i64 n, .string s, .slice a len cap] 25)) (.cells #[.int .i64 0, .int .i64 0, .string (ByteArray.mk #[]), .slice none 0 0] 25)
  rw [World.size_alloc] at hx2
  have hb2 : Below w.heap.size w ((w.alloc (.cells #[.int .i64 k, .int .i64 n, .string s, .slice a len cap] 25)).alloc (.cells #[.int .i64 0, .int .i64 0, .string (ByteArray.mk #[]), .slice none 0 0] 25)) := ((Below.refl _ w).alloc (Nat.le_refl _) _).alloc (by simp) _
  have fin : ∀ nq : Nat, Hid (∃ w5, w5 = ((((((w.alloc (.cells #[.int .i64 k, .int .i64 n, .string s, .slice a len cap] 25)).alloc (.cells #[.int .i64 0, .int .i64 0, .string (ByteArray.mk #[]), .slice none 0 0] 25)).drewN nq).setCell ⟨w.heap.size + 1, 0, none⟩ (.int .i64 0)).setCell ⟨w.heap.size + 1, 1, none⟩ (.int .i64 0)).setCell ⟨w.heap.size + 1, 2, none⟩ (.string (ByteArray.mk #[]))).setCell ⟨w.heap.size + 1, 3, none⟩ (.slice none 0 0) ∧
      w5.heap[w.heap.size + 1]? = some (.cells #[.int .i64 0, .int .i64 0, .string (ByteArray.mk #[]), .slice none 0 0] 25 (0, 0)) ∧ Below w.heap.size w w5) := fun nq => by
    refine ⟨_, rfl, four_block (W := ((w.alloc (.cells #[.int .i64 k, .int .i64 n, .string s, .slice a len cap] 25)).alloc (.cells #[.int .i64 0, .int .i64 0, .string (ByteArray.mk #[]), .slice none 0 0] 25)).drewN nq) hx2 _ _ _ _, ?_⟩
    have hB := dr_below hb2 nq
    exact (((hB.setCell (p := ⟨w.heap.size + 1, 0, none⟩) (Nat.le_succ _) _).setCell (p := ⟨w.heap.size + 1, 1, none⟩) (Nat.le_succ _) _).setCell (p := ⟨w.heap.size + 1, 2, none⟩) (Nat.le_succ _) _).setCell (p := ⟨w.heap.size + 1, 3, none⟩) (Nat.le_succ _) _
  clear hx2 hb2
  go_enter Try.func34, Try.ntmps34
  go_wp2_with fail
  go_quiet (fail)
  go_wp2_with fail
  obtain ⟨w5, hw5, hb5, hB5⟩ := (fin nq).out
  rw [← hw5]
  obtain ⟨f0, f1, f2, f3⟩ := tbox_cells hb5
  refine bodyPost_ret (v := .tuple #[.agg #[.int .i64 0, .int .i64 0, .string (ByteArray.mk #[]), .slice none 0 0], .bool false]) (by simp [results, Try.f34, go_sem, f0, f1, f2, f3]) rfl ?_
  exact ⟨rfl, hB5⟩

set_option maxRecDepth 100000 in
set_option maxHeartbeats 1000000 in
theorem full_nil (v : Value) (T : Tm) (w : World) (hv : Has w v T) (hs : T.size ≤ 1000000000000) : Calls Try.prog 14 #[.pointer none, v] w (FullPost (.ok T 0) w) := by
  obtain ⟨k, n, s, a, len, cap, ks, rfl, e, -⟩ := hv.form
  obtain ⟨w3, hw3⟩ : ∃ w3, w3 = ((w.alloc (.cells #[.pointer none] 27)).alloc (.cells #[.int .i64 k, .int .i64 n, .string s, .slice a len cap] 25)).alloc (.cells #[.int .i64 0, .int .i64 0, .string (ByteArray.mk #[]), .slice none 0 0] 25) := ⟨_, rfl⟩
  have b3 : Below w.heap.size w w3 := by rw [hw3]; exact (((Below.refl _ w).alloc (Nat.le_refl _) _).alloc (by simp) _).alloc (by simp; omega) _
  have x0 : w3.heap[w.heap.size]? = some (.cells #[.pointer none] 27 (0, 0)) := by rw [hw3]; exact (Below.heap_alloc _ _ _ (by simp; omega)).trans ((Below.heap_alloc _ _ _ (by simp)).trans (World.alloc_heap_new _ _))
  have x1 : w3.heap[w.heap.size + 1]? = some (.cells #[.int .i64 k, .int .i64 n, .string s, .slice a len cap] 25 (0, 0)) := by
    have := World.alloc_heap_new (w.alloc (.cells #[.pointer none] 27)) (.cells #[.int .i64 k, .int .i64 n, .string s, .slice a len cap] 25)
    rw [World.size_alloc] at this
    rw [hw3]; exact (Below.heap_alloc _ _ _ (by simp)).trans this
  have x2 : w3.heap[w.heap.size + 1 + 1]? = some (.cells #[.int .i64 0, .int .i64 0, .string (ByteArray.mk #[]), .slice none 0 0] 25 (0, 0)) := by
    have := World.alloc_heap_new ((w.alloc (.cells #[.pointer none] 27)).alloc (.cells #[.int .i64 k, .int .i64 n, .string s, .slice a len cap] 25)) (.cells #[.int .i64 0, .int .i64 0, .string (ByteArray.mk #[]), .slice none 0 0] 25)
    rw [World.size_alloc, World.size_alloc] at this
    rw [hw3]; exact this
  have hcall : Calls Try.prog 27 #[.agg #[.int .i64 k, .int .i64 n, .string s, .slice a len cap]] w3 fun e w6 => ∃ k6 n6 s6 a6 l6 c6, e = .returned (.agg #[.int .i64 k6, .int .i64 n6, .string s6, .slice a6 l6 c6]) ∧ w6.cell? ⟨w.heap.size + 1 + 1, 0, none⟩ = some (.int .i64 0) ∧ w6.cell? ⟨w.heap.size + 1 + 1, 1, none⟩ = some (.int .i64 0) ∧ w6.cell? ⟨w.heap.size + 1 + 1, 2, none⟩ = some (.string (ByteArray.mk #[])) ∧ w6.cell? ⟨w.heap.size + 1 + 1, 3, none⟩ = some (.slice none 0 0) ∧ (∀ j, w6.frozen? ⟨w.heap.size + 1 + 1, j, none⟩ = false) ∧
      Hid (w6.heap[w.heap.size + 1 + 1]? = some (.cells #[.int .i64 0, .int .i64 0, .string (ByteArray.mk #[]), .slice none 0 0] 25 (0, 0)) ∧ TmIn (fun c => w3.heap.size ≤ c ∧ c < w6.heap.size) w6 (.agg #[.int .i64 k6, .int .i64 n6, .string s6, .slice a6 l6 c6]) T ∧ Below w.heap.size w w6) := by
    refine (swhole_at _ T w3 (Has.below hv b3) hs).mono ?_
    rintro e w6 ⟨r, rfl, hr, hb6⟩
    obtain ⟨k6, n6, s6, a6, l6, c6, ks6, rfl, -⟩ := hr.form
    have y2 := tbox_below x2 hb6
    obtain ⟨z0, z1, z2, z3⟩ := tbox_cells y2
    exact ⟨k6, n6, s6, a6, l6, c6, rfl, z0, z1, z2, z3, (fun j => by simp [World.frozen?, y2]), y2, hr, b3.trans (hb6.mono b3.size)⟩
  have q0 : w3.cell? ⟨w.heap.size, 0, none⟩ = some (.pointer none) := by simp [World.cell?, x0]
  obtain ⟨p0, p1, p2, p3⟩ := tbox_cells x1
  have hz := zeroTerm
  have s3 : w3.heap.size = w.heap.size + 1 + 1 + 1 := by rw [hw3]; simp
  have HW := Lib.hid hw3
  have HS := Lib.hid s3
  clear hv b3 x0 x1 x2 hw3 s3 e
  go_enter Try.func14, Try.ntmps14
  go_upto_region 1 with fail
  rw [← HW.out]
  go_wp2_with (go_at_call 27; (with_reducible refine hcall.mono ?_); clear hcall; rintro e w6 ⟨k6, n6, s6, a6, l6, c6, rfl, z0, z1, z2, z3, zf, HZ⟩)
  obtain ⟨w7, hw7, hb7, hT7, hB7, hs7⟩ := boxed_new (B := w.heap.size + 1 + 1) (q := fun c => w.heap.size ≤ c ∧ c < w6.heap.size) HZ.out.1 HZ.out.2.1 (fun c hc => by have := HS.out; have := hc.1; omega) (fun c hc => by have := HS.out; have := hc.1; have := hc.2; omega) HZ.out.2.2 (by omega)
  rw [← hw7]
  obtain ⟨f0, f1, f2, f3⟩ := tbox_cells hb7
  refine bodyPost_ret (v := .tuple #[.agg #[.int .i64 k6, .int .i64 n6, .string s6, .slice a6 l6 c6], .int .i64 0]) (by simp [results, Try.f14, go_sem, f0, f1, f2, f3]) rfl ?_
  exact ⟨hB7, _, _, _, _, _, _, rfl, by rw [hs7]; exact hT7⟩

set_option maxRecDepth 100000 in
set_option maxHeartbeats 2000000 in
theorem end_nil (v : Value) (T : Tm) (q : Nat → Prop) (w : World) (hq : ∀ k, q k → k < w.heap.size) (hv : TmIn q w v T) : Calls Try.prog 29 #[.pointer none, v] w (GotT q T w) := by
  obtain ⟨k, n, s, a, len, cap, ks, rfl, e, -⟩ := hv.form
  obtain ⟨w2, hw2⟩ : ∃ w2, w2 = ((w.alloc (.cells #[.int .i64 k, .int .i64 n, .string s, .slice a len cap] 25)).alloc (.cells #[.int .i64 0, .int .i64 0, .string (ByteArray.mk #[]), .slice none 0 0] 25)) := ⟨_, rfl⟩
  have hb2 : Below w.heap.size w w2 := by rw [hw2]; exact ((Below.refl _ w).alloc (Nat.le_refl _) _).alloc (by simp) _
  have hx2 : w2.heap[w.heap.size + 1]? = some (.cells #[.int .i64 0, .int .i64 0, .string (ByteArray.mk #[]), .slice none 0 0] 25 (0, 0)) := by rw [hw2]; simpa using World.alloc_heap_new (w.alloc (.cells #[.int .i64 k, .int .i64 n, .string s, .slice a len cap] 25)) (.cells #[.int .i64 0, .int .i64 0, .string (ByteArray.mk #[]), .slice none 0 0] 25)
  have hx1 : w2.heap[w.heap.size]? = some (.cells #[.int .i64 k, .int .i64 n, .string s, .slice a len cap] 25 (0, 0)) := by rw [hw2]; exact (Below.heap_alloc _ _ _ (by simp)).trans (World.alloc_heap_new _ _)
  have HH := Lib.hid (And.intro hb2 (And.intro hx2 (And.intro hx1 hv)))
  have HW := Lib.hid hw2
  have hz := zeroTerm
  clear hv e hb2 hx2 hx1 hw2
  go_enter Try.func29, Try.ntmps29
  go_wp2_with fail
  rw [← HW.out]
  go_loopg [] 0 (fun gg wr => wr = w2)
  case atStart => rfl
  case round =>
    subst hrel
    obtain ⟨x0, x1, x2, x3⟩ := tbox_cells HH.out.2.2.1
    have hcall : Calls Try.prog 34 #[.pointer none, .agg #[.int .i64 k, .int .i64 n, .string s, .slice a len cap]] wr fun e w5 => e = .returned (.tuple #[.agg #[.int .i64 0, .int .i64 0, .string (ByteArray.mk #[]), .slice none 0 0], .bool false]) ∧
        (∀ o, (w5.alloc o).cell? ⟨w.heap.size, 0, none⟩ = some (.int .i64 k)) ∧ (∀ o, (w5.alloc o).cell? ⟨w.heap.size, 1, none⟩ = some (.int .i64 n)) ∧ (∀ o, (w5.alloc o).cell? ⟨w.heap.size, 2, none⟩ = some (.string s)) ∧ (∀ o, (w5.alloc o).cell? ⟨w.heap.size, 3, none⟩ = some (.slice a len cap)) ∧
        (∀ o, (w5.alloc o).cell? ⟨w.heap.size + 1, 0, none⟩ = some (.int .i64 0)) ∧ (∀ o, (w5.alloc o).cell? ⟨w.heap.size + 1, 1, none⟩ = some (.int .i64 0)) ∧ (∀ o, (w5.alloc o).cell? ⟨w.heap.size + 1, 2, none⟩ = some (.string (ByteArray.mk #[]))) ∧ (∀ o, (w5.alloc o).cell? ⟨w.heap.size + 1, 3, none⟩ = some (.slice none 0 0)) ∧ (∀ o j, (w5.alloc o).frozen? ⟨w.heap.size + 1, j, none⟩ = false) ∧
        Hid (w5.heap[w.heap.size + 1]? = some (.cells #[.int .i64 0, .int .i64 0, .string (ByteArray.mk #[]), .slice none 0 0] 25 (0, 0)) ∧ Below w.heap.size w w5) := by
      refine (value_nil k n s a len cap wr).mono ?_
      rintro e w5 ⟨rfl, hb5⟩
      have g1 := tbox_below HH.out.2.2.1 hb5
      have g2 := tbox_below HH.out.2.1 hb5
      obtain ⟨p0, p1, p2, p3⟩ := tbox_cells g1
      obtain ⟨r0, r1, r2, r3⟩ := tbox_cells g2
      exact ⟨rfl, fun o => cell_al p0 o, fun o => cell_al p1 o, fun o => cell_al p2 o, fun o => cell_al p3 o, fun o => cell_al r0 o, fun o => cell_al r1 o, fun o => cell_al r2 o, fun o => cell_al r3 o, (fun o j => by simp [World.frozen?, (Below.heap_alloc w5 o _ (Array.getElem?_eq_some_iff.1 g2).1).trans g2]), g2, HH.out.1.trans (hb5.mono HH.out.1.size)⟩
    clear x0 x1 x2 x3
    obtain ⟨x0, x1, x2, x3⟩ := tbox_cells HH.out.2.2.1
    go_wp2_with (go_at_call 34; refine hcall.mono ?_; clear hcall; rintro e w5 ⟨rfl, p0, p1, p2, p3, r0, r1, r2, r3, rf, HZ⟩)
    have hb6 := HZ.out.2.alloc HZ.out.2.size (.cells #[.int .i64 0, .int .i64 0, .string (ByteArray.mk #[]), .slice none 0 0] 25)
    obtain ⟨w7, hw7, hb7, hB7, ho7, hs7⟩ := box_but (w := w) (B := w.heap.size + 1) (Bn := w.heap.size) (ButN.of hb6) (Nat.le_succ _) ((Below.heap_alloc w5 (.cells #[.int .i64 0, .int .i64 0, .string (ByteArray.mk #[]), .slice none 0 0] 25) _ (Array.getElem?_eq_some_iff.1 HZ.out.1).1).trans HZ.out.1) (.int .i64 k) (.int .i64 n) (.string s) (.slice a len cap)
    rw [← hw7]
    obtain ⟨f0, f1, f2, f3⟩ := tbox_cells hb7
    refine bodyPost_ret (v := .agg #[.int .i64 k, .int .i64 n, .string s, .slice a len cap]) (by simp [results, Try.f29, go_sem, f0, f1, f2, f3]) rfl ?_
    exact ⟨_, _, _, _, _, _, rfl, HH.out.2.2.2.carry (fun c hc => hB7.same c (hq c hc) (by have := hq c hc; omega)) fun c hc => hc, ⟨hB7.os, hB7.tape, hB7.output, hB7.size, fun c hc => hB7.same c hc (by omega)⟩⟩
end Go.Proofs.Ytnaopkkdidngoaa
