/-
  sentence: a term and an end.
-/
import Derived.Test.YtfencolokfghfaaGreatDoorReadP
import Derived.Test.YtfencolokfghfaaGreatDoorReadO
namespace Go.Proofs.YtfencolokfghfaaGreatDoor
open Go.RowKit Go.Maps
set_option linter.unusedVariables false
set_option linter.unusedSectionVars false

/-- What a sentence comes to, in memory. -/
def SPost (c : Cx) : Out Tm → Ending → World → Prop
  | .ok T i' _, e, W' => ∃ k n s a l cp na l' cap', e = .returned (.tuple #[.agg #[.int .i64 k, .int .i64 n, .string s, .slice a l cp], .slice na l' cap', .int .i64 i', .int .i64 0]) ∧ Below c.w0.heap.size c.w0 W' ∧ TmIn (fun j => c.w0.heap.size ≤ j ∧ j < W'.heap.size) W' (.agg #[.int .i64 k, .int .i64 n, .string s, .slice a l cp]) T
  | .bad i' code, e, W' => e = .returned (.tuple #[.agg #[.int .i64 0, .int .i64 0, .string (ByteArray.mk #[]), .slice none 0 0], .slice none 0 0, .int .i64 i', .int .i64 code]) ∧ Below c.w0.heap.size c.w0 W'

section
variable (c : Cx) (hc : c.Ok) {W : World} {na : Option Addr} {nc i : Nat} (h : PAt c W na nc i 0 [])
include hc h
/-- The four boxes. -/
theorem four_boxes : ∃ V, V = (((W.alloc (.cells #[.int .i64 0, .int .i64 0, .string (ByteArray.mk #[]), .slice none 0 0] 24)).alloc (.cells #[.slice none 0 0] 41)).alloc (.cells #[.int .i64 0] 3)).alloc (.cells #[.int .i64 0] 27) ∧ PAt c V na nc i 0 [] ∧ Fr c W na V na ∧
    c.stays V na W.heap.size ∧ c.stays V na (W.heap.size + 1) ∧ c.stays V na (W.heap.size + 2) ∧ c.stays V na (W.heap.size + 3) ∧
    V.heap[W.heap.size]? = some (.cells #[.int .i64 0, .int .i64 0, .string (ByteArray.mk #[]), .slice none 0 0] 24 (0, 0)) ∧ V.heap[W.heap.size + 1]? = some (.cells #[.slice none 0 0] 41 (0, 0)) ∧ V.heap[W.heap.size + 2]? = some (.cells #[.int .i64 0] 3 (0, 0)) ∧ V.heap[W.heap.size + 3]? = some (.cells #[.int .i64 0] 27 (0, 0)) ∧ V.heap.size = W.heap.size + 4 := by
  obtain ⟨h1, s1, x1, f1⟩ := h.fresh hc #[.int .i64 0, .int .i64 0, .string (ByteArray.mk #[]), .slice none 0 0] 24
  obtain ⟨h2, s2, x2, f2⟩ := h1.fresh hc #[.slice none 0 0] 41
  obtain ⟨h3, s3, x3, f3⟩ := h2.fresh hc #[.int .i64 0] 3
  obtain ⟨h4, s4, x4, f4⟩ := h3.fresh hc #[.int .i64 0] 27
  have e1 : (W.alloc (.cells #[.int .i64 0, .int .i64 0, .string (ByteArray.mk #[]), .slice none 0 0] 24)).heap.size = W.heap.size + 1 := by simp
  have e2 : ((W.alloc (.cells #[.int .i64 0, .int .i64 0, .string (ByteArray.mk #[]), .slice none 0 0] 24)).alloc (.cells #[.slice none 0 0] 41)).heap.size = W.heap.size + 2 := by simp
  have e3 : (((W.alloc (.cells #[.int .i64 0, .int .i64 0, .string (ByteArray.mk #[]), .slice none 0 0] 24)).alloc (.cells #[.slice none 0 0] 41)).alloc (.cells #[.int .i64 0] 3)).heap.size = W.heap.size + 3 := by simp
  rw [e1] at s2 x2
  rw [e2] at s3 x3
  rw [e3] at s4 x4
  have g1 := (f2.trans (f3.trans f4)).keep _ s1
  have g2 := (f3.trans f4).keep _ s2
  have g3 := f4.keep _ s3
  exact ⟨_, rfl, h4, f1.trans (f2.trans (f3.trans f4)), g1.2, g2.2, g3.2, s4, g1.1.trans x1, g2.1.trans x2, g3.1.trans x3, x4, by simp⟩
set_option maxRecDepth 100000 in
set_option maxHeartbeats 4000000 in
theorem sentence_bad1 {i' : Nat} {code : Int} (hu : rd c.L c.lv 60 1200 i [] = .bad i' code) : Calls Tryz.prog 44 #[.pointer (some ⟨c.b, 0, none⟩)] W (SPost c (.bad i' code)) := by
  obtain ⟨V, hV, hP, fV, s2, s3, s4, s5, x2, x3, x4, x5, hsz⟩ := four_boxes c hc h
  have hter := rd_at c hc 60 0 rfl V na nc i [] 1200 hP (Nat.le_refl _)
  rw [hu] at hter
  unfold OPost at hter
  have hz := zeroTerm
  have hmf : ∀ (fn : Fn) (first cap : Array Value) (w : World), (Instr.makeFunc fn first cap).run Tryz.prog w = .ok (.func fn first cap) w := fun _ _ _ _ => rfl
  have hw0 := h.bel.size
  go_enter_defers Tryz.func44, Tryz.ntmps44
  go_wp2_with (rw [← hV]; go_at_call 66; refine hter.mono ?_; rintro e W5 ⟨he, hK⟩; unfold faultE at he; subst he)
  have b2 := (hK.2.2 _ s2).trans x2
  have b3 := (hK.2.2 _ s3).trans x3
  have b4 := (hK.2.2 _ s4).trans x4
  have b5 := (hK.2.2 _ s5).trans x5
  refine leaves_cons (f := 65) (args := #[.pointer (some ⟨W.heap.size, 0, none⟩), .pointer (some ⟨W.heap.size + 1, 0, none⟩), .pointer (some ⟨W.heap.size + 2, 0, none⟩), .pointer (some ⟨W.heap.size + 3, 0, none⟩)]) (by simp) (by simp [go_sem]) ?_
  refine (caught7_at W.heap.size i' code W5 _ _ _ _ _ _ _ b2 b3 b4 b5).mono ?_
  rintro e u' w'' ⟨rfl, rfl, hbw, r2, r3, r4, r5⟩
  obtain ⟨o0, o1, o2, o3⟩ := tbox_cells r2
  have o4 : w''.cell? ⟨W.heap.size + 1, 0, none⟩ = some (.slice none 0 0) := by simp [World.cell?, r3]
  have o5 : w''.cell? ⟨W.heap.size + 2, 0, none⟩ = some (.int .i64 (i' : Nat)) := by simp [World.cell?, r4]
  have o6 : w''.cell? ⟨W.heap.size + 3, 0, none⟩ = some (.int .i64 code) := by simp [World.cell?, r5]
  have hfin : SPost c (.bad (i') (code)) (.returned (.tuple #[.agg #[.int .i64 0, .int .i64 0, .string (ByteArray.mk #[]), .slice none 0 0], .slice none 0 0, .int .i64 (i' : Nat), .int .i64 code])) w'' := ⟨rfl, hK.1.trans (hbw.mono (by omega))⟩
  simp [Leaves, settle, results, Tryz.results44, go_sem, o0, o1, o2, o3, o4, o5, o6]
  exact hfin
set_option maxRecDepth 100000 in
set_option maxHeartbeats 4000000 in
theorem sentence_bad2 {T : Tm} {i1 : Nat} {ns1 : Nms} (hu : rd c.L c.lv 60 1200 i [] = .ok T i1 ns1) (hk : ¬ (ahd c.L i1).kind = 5) : Calls Tryz.prog 44 #[.pointer (some ⟨c.b, 0, none⟩)] W (SPost c (.bad i1 4)) := by
  obtain ⟨V, hV, hP, fV, s2, s3, s4, s5, x2, x3, x4, x5, hsz⟩ := four_boxes c hc h
  have hter := rd_at c hc 60 0 rfl V na nc i [] 1200 hP (Nat.le_refl _)
  rw [hu] at hter
  unfold OPost at hter
  have hz := zeroTerm
  have hmf : ∀ (fn : Fn) (first cap : Array Value) (w : World), (Instr.makeFunc fn first cap).run Tryz.prog w = .ok (.func fn first cap) w := fun _ _ _ _ => rfl
  have hw0 := h.bel.size
  have hf0 := field0
  have hlen := hc.len
  have hah := fun W' na' nc' (h' : PAt c W' na' nc' i1 0 ns1) => ahead_at c hc h' 0 (by omega)
  simp only [Nat.add_zero] at hah
  have hsT := (rd_seg c.L c.lv 60 _ _ _ _ _ _ hu).1
  have hszT := hsT.size
  have hlT := hsT.len
  rw [Tm.sizes_cons, Tm.sizes_nil] at hszT
  have hfa := fun W' na' nc' (h' : PAt c W' na' nc' i1 0 ns1) => fail_at c hc h' 4
  go_enter_defers Tryz.func44, Tryz.ntmps44
  go_wp2_with (first
    | (rw [← hV]; go_at_call 66; refine hter.mono ?_; rintro e W5 ⟨na5, nc5, k, n, s, a, l, cp, rfl, h5, f5, hT5⟩; obtain ⟨s2', x2', z0, z1, z2, z3, zf⟩ := f5.box s2 x2; obtain ⟨Z, hZ, hzb, hPZ, hFZ, hkZ, hsZ⟩ := h5.box4 hc h (fV.trans f5) (Nat.le_refl _) s2' x2' (.int .i64 k) (.int .i64 n) (.string s) (.slice a l cp))
    | (rw [← hZ]; go_at_call 67; refine (hah _ _ _ hPZ).mono ?_; rintro e W6 ⟨rfl, hb6⟩; have h6 := hPZ.later hc hb6; obtain ⟨b0, b1, b2', b3', b4', b5', bf⟩ := h6.cells)
    | (go_at_call 68; refine (hfa _ _ _ h6).mono ?_; rintro e W7 ⟨he, hw7⟩; unfold faultE at he; subst he; subst hw7))
  have hstB : ∀ j, c.stays V na j → j ≠ W.heap.size → Z.heap[j]? = V.heap[j]? ∧ c.stays Z na5 j := fun j hj hne => ⟨(hkZ j hne).trans (f5.keep j hj).1, by have := (f5.keep j hj).2; exact ⟨by rw [hsZ]; exact this.1, this.2⟩⟩
  have sZ2 : c.stays Z na5 W.heap.size := ⟨by rw [hsZ]; exact s2'.1, s2'.2⟩
  have f6 : Fr c Z na5 W7 na5 := Fr.below hb6
  have w2 := (f6.keep _ sZ2).1.trans hzb
  have w3 := (f6.keep _ (hstB _ s3 (by omega)).2).1.trans ((hstB _ s3 (by omega)).1.trans x3)
  have w4 := (f6.keep _ (hstB _ s4 (by omega)).2).1.trans ((hstB _ s4 (by omega)).1.trans x4)
  have w5 := (f6.keep _ (hstB _ s5 (by omega)).2).1.trans ((hstB _ s5 (by omega)).1.trans x5)
  have b2 := w2
  have b3 := w3
  have b4 := w4
  have b5 := w5
  refine leaves_cons (f := 65) (args := #[.pointer (some ⟨W.heap.size, 0, none⟩), .pointer (some ⟨W.heap.size + 1, 0, none⟩), .pointer (some ⟨W.heap.size + 2, 0, none⟩), .pointer (some ⟨W.heap.size + 3, 0, none⟩)]) (by simp) (by simp [go_sem]) ?_
  refine (caught7_at W.heap.size i1 4 W7 _ _ _ _ _ _ _ b2 b3 b4 b5).mono ?_
  rintro e u' w'' ⟨rfl, rfl, hbw, r2, r3, r4, r5⟩
  obtain ⟨o0, o1, o2, o3⟩ := tbox_cells r2
  have o4 : w''.cell? ⟨W.heap.size + 1, 0, none⟩ = some (.slice none 0 0) := by simp [World.cell?, r3]
  have o5 : w''.cell? ⟨W.heap.size + 2, 0, none⟩ = some (.int .i64 (i1 : Nat)) := by simp [World.cell?, r4]
  have o6 : w''.cell? ⟨W.heap.size + 3, 0, none⟩ = some (.int .i64 4) := by simp [World.cell?, r5]
  have hfin : SPost c (.bad (i1) (4)) (.returned (.tuple #[.agg #[.int .i64 0, .int .i64 0, .string (ByteArray.mk #[]), .slice none 0 0], .slice none 0 0, .int .i64 (i1 : Nat), .int .i64 4])) w'' := ⟨rfl, h6.bel.trans (hbw.mono (by omega))⟩
  simp [Leaves, settle, results, Tryz.results44, go_sem, o0, o1, o2, o3, o4, o5, o6]
  exact hfin
set_option maxRecDepth 100000 in
set_option maxHeartbeats 4000000 in
theorem sentence_bad3 {T : Tm} {i1 : Nat} {ns1 : Nms} (hu : rd c.L c.lv 60 1200 i [] = .ok T i1 ns1) (hk : (ahd c.L i1).kind = 5) (hc0 : ¬ T.check c.lv = 0) : Calls Tryz.prog 44 #[.pointer (some ⟨c.b, 0, none⟩)] W (SPost c (.bad (i1 + 1) (T.check c.lv))) := by
  obtain ⟨V, hV, hP, fV, s2, s3, s4, s5, x2, x3, x4, x5, hsz⟩ := four_boxes c hc h
  have hter := rd_at c hc 60 0 rfl V na nc i [] 1200 hP (Nat.le_refl _)
  rw [hu] at hter
  unfold OPost at hter
  have hz := zeroTerm
  have hmf : ∀ (fn : Fn) (first cap : Array Value) (w : World), (Instr.makeFunc fn first cap).run Tryz.prog w = .ok (.func fn first cap) w := fun _ _ _ _ => rfl
  have hw0 := h.bel.size
  have hf0 := field0
  have hlen := hc.len
  have hah := fun W' na' nc' (h' : PAt c W' na' nc' i1 0 ns1) => ahead_at c hc h' 0 (by omega)
  simp only [Nat.add_zero] at hah
  have hsT := (rd_seg c.L c.lv 60 _ _ _ _ _ _ hu).1
  have hszT := hsT.size
  have hlT := hsT.len
  rw [Tm.sizes_cons, Tm.sizes_nil] at hszT
  have hi1 : i1 < c.L.length := ahd_lt (by rw [hk]; decide)
  have hii : (i1 : Int) < 4096 := by omega
  have hfa := fun W' na' nc' (h' : PAt c W' na' nc' (i1 + 1) 0 ns1) => fail_at c hc h' (T.check c.lv)
  go_enter_defers Tryz.func44, Tryz.ntmps44
  go_wp2_with (first
    | (rw [← hV]; go_at_call 66; refine hter.mono ?_; rintro e W5 ⟨na5, nc5, k, n, s, a, l, cp, rfl, h5, f5, hT5⟩; obtain ⟨s2', x2', z0, z1, z2, z3, zf⟩ := f5.box s2 x2; obtain ⟨Z, hZ, hzb, hPZ, hFZ, hkZ, hsZ⟩ := h5.box4 hc h (fV.trans f5) (Nat.le_refl _) s2' x2' (.int .i64 k) (.int .i64 n) (.string s) (.slice a l cp))
    | (rw [← hZ]; go_at_call 67; refine (hah _ _ _ hPZ).mono ?_; rintro e W6 ⟨rfl, hb6⟩; have h6 := hPZ.later hc hb6; obtain ⟨b0, b1, b2', b3', b4', b5', bf⟩ := h6.cells)
)
  have hstB : ∀ j, c.stays V na j → j ≠ W.heap.size → Z.heap[j]? = V.heap[j]? ∧ c.stays Z na5 j := fun j hj hne => ⟨(hkZ j hne).trans (f5.keep j hj).1, by have := (f5.keep j hj).2; exact ⟨by rw [hsZ]; exact this.1, this.2⟩⟩
  have sZ2 : c.stays Z na5 W.heap.size := ⟨by rw [hsZ]; exact s2'.1, s2'.2⟩
  have f6 : Fr c Z na5 W6 na5 := Fr.below hb6
  have w2 := (f6.keep _ sZ2).1.trans hzb
  have w3 := (f6.keep _ (hstB _ s3 (by omega)).2).1.trans ((hstB _ s3 (by omega)).1.trans x3)
  have w4 := (f6.keep _ (hstB _ s4 (by omega)).2).1.trans ((hstB _ s4 (by omega)).1.trans x4)
  have w5 := (f6.keep _ (hstB _ s5 (by omega)).2).1.trans ((hstB _ s5 (by omega)).1.trans x5)
  obtain ⟨h7, f7⟩ := step_at c hc h6 hi1
  generalize hV7 : W6.setCell ⟨c.b, 1, none⟩ (.int .i64 ((i1 : Int) + 1)) = V7 at *
  obtain ⟨s72, x72, q0, q1, q2, q3, qf⟩ := (f6.trans f7).box sZ2 hzb
  obtain ⟨e0, e1, e2, e3, e4, e5, ef⟩ := h7.cells
  have hT7 : TmIn (Nw c V V7 na5) V7 (.agg #[.int .i64 k, .int .i64 n, .string s, .slice a l cp]) T := hT5.carry (fun j hj => (((f6.trans f7).keep j ⟨by rw [hsZ]; exact hj.1.1, hj.1.2⟩).1).trans (hkZ j (by have := hj.2; omega))) (fun j hj => ⟨((f6.trans f7).keep j ⟨by rw [hsZ]; exact hj.1.1, hj.1.2⟩).2, hj.2⟩)
  have hck := check_at (.agg #[.int .i64 k, .int .i64 n, .string s, .slice a l cp]) T c.lv V7.drew (TmIn.carry (A := V7) (B := V7.drew) (fun _ _ => rfl) (fun j hj => hj.1.1) hT7) (by omega)
  go_wp2
  go_still_tail 5, (by kernel_rfl)
  change wpList _ _ _ _ _ V7.drew
  go_wp2_with (first
    | (go_at_call 6; refine hck.mono ?_; rintro e W8 ⟨rfl, hb8⟩; have h8 := (h7.later hc (Below.refl _ _).drew).later hc hb8)
    | (go_at_call 68; refine (hfa _ _ _ h8).mono ?_; rintro e W9 ⟨he, hw9⟩; unfold faultE at he; subst he; subst hw9))
  have f8 : Fr c Z na5 W9 na5 := (f6.trans f7).trans ((Fr.below (Below.refl _ _).drew).trans (Fr.below hb8))
  have b2 := (f8.keep _ sZ2).1.trans hzb
  have b3 := (f8.keep _ (hstB _ s3 (by omega)).2).1.trans ((hstB _ s3 (by omega)).1.trans x3)
  have b4 := (f8.keep _ (hstB _ s4 (by omega)).2).1.trans ((hstB _ s4 (by omega)).1.trans x4)
  have b5 := (f8.keep _ (hstB _ s5 (by omega)).2).1.trans ((hstB _ s5 (by omega)).1.trans x5)
  refine leaves_cons (f := 65) (args := #[.pointer (some ⟨W.heap.size, 0, none⟩), .pointer (some ⟨W.heap.size + 1, 0, none⟩), .pointer (some ⟨W.heap.size + 2, 0, none⟩), .pointer (some ⟨W.heap.size + 3, 0, none⟩)]) (by simp) (by simp [go_sem]) ?_
  refine (caught7_at W.heap.size (i1 + 1) (T.check c.lv) W9 _ _ _ _ _ _ _ b2 b3 b4 b5).mono ?_
  rintro e u' w'' ⟨rfl, rfl, hbw, r2, r3, r4, r5⟩
  obtain ⟨o0, o1, o2, o3⟩ := tbox_cells r2
  have o4 : w''.cell? ⟨W.heap.size + 1, 0, none⟩ = some (.slice none 0 0) := by simp [World.cell?, r3]
  have o5 : w''.cell? ⟨W.heap.size + 2, 0, none⟩ = some (.int .i64 ((i1 + 1 : Nat) : Int)) := by simp [World.cell?, r4]
  have o6 : w''.cell? ⟨W.heap.size + 3, 0, none⟩ = some (.int .i64 (T.check c.lv)) := by simp [World.cell?, r5]
  have hfin : SPost c (.bad (i1 + 1) (T.check c.lv)) (.returned (.tuple #[.agg #[.int .i64 0, .int .i64 0, .string (ByteArray.mk #[]), .slice none 0 0], .slice none 0 0, .int .i64 ((i1 + 1 : Nat) : Int), .int .i64 (T.check c.lv)])) w'' := ⟨rfl, h8.bel.trans (hbw.mono (by omega))⟩
  simp only [Int.natCast_add, Int.cast_ofNat_Int] at o5 hfin
  simp [Leaves, settle, results, Tryz.results44, go_sem, o0, o1, o2, o3, o4, o5, o6]
  exact hfin
set_option maxRecDepth 100000 in
set_option maxHeartbeats 4000000 in
theorem sentence_ok {T : Tm} {i1 : Nat} {ns1 : Nms} (hu : rd c.L c.lv 60 1200 i [] = .ok T i1 ns1) (hk : (ahd c.L i1).kind = 5) (hc0 : T.check c.lv = 0) : Calls Tryz.prog 44 #[.pointer (some ⟨c.b, 0, none⟩)] W (SPost c (.ok T (i1 + 1) ns1)) := by
  obtain ⟨V, hV, hP, fV, s2, s3, s4, s5, x2, x3, x4, x5, hsz⟩ := four_boxes c hc h
  have hter := rd_at c hc 60 0 rfl V na nc i [] 1200 hP (Nat.le_refl _)
  rw [hu] at hter
  unfold OPost at hter
  have hz := zeroTerm
  have hmf : ∀ (fn : Fn) (first cap : Array Value) (w : World), (Instr.makeFunc fn first cap).run Tryz.prog w = .ok (.func fn first cap) w := fun _ _ _ _ => rfl
  have hw0 := h.bel.size
  have hf0 := field0
  have hlen := hc.len
  have hah := fun W' na' nc' (h' : PAt c W' na' nc' i1 0 ns1) => ahead_at c hc h' 0 (by omega)
  simp only [Nat.add_zero] at hah
  have hsT := (rd_seg c.L c.lv 60 _ _ _ _ _ _ hu).1
  have hszT := hsT.size
  have hlT := hsT.len
  rw [Tm.sizes_cons, Tm.sizes_nil] at hszT
  have hi1 : i1 < c.L.length := ahd_lt (by rw [hk]; decide)
  have hii : (i1 : Int) < 4096 := by omega
  go_enter_defers Tryz.func44, Tryz.ntmps44
  go_wp2_with (first
    | (rw [← hV]; go_at_call 66; refine hter.mono ?_; rintro e W5 ⟨na5, nc5, k, n, s, a, l, cp, rfl, h5, f5, hT5⟩; obtain ⟨s2', x2', z0, z1, z2, z3, zf⟩ := f5.box s2 x2; obtain ⟨Z, hZ, hzb, hPZ, hFZ, hkZ, hsZ⟩ := h5.box4 hc h (fV.trans f5) (Nat.le_refl _) s2' x2' (.int .i64 k) (.int .i64 n) (.string s) (.slice a l cp))
    | (rw [← hZ]; go_at_call 67; refine (hah _ _ _ hPZ).mono ?_; rintro e W6 ⟨rfl, hb6⟩; have h6 := hPZ.later hc hb6; obtain ⟨b0, b1, b2', b3', b4', b5', bf⟩ := h6.cells)
)
  have hstB : ∀ j, c.stays V na j → j ≠ W.heap.size → Z.heap[j]? = V.heap[j]? ∧ c.stays Z na5 j := fun j hj hne => ⟨(hkZ j hne).trans (f5.keep j hj).1, by have := (f5.keep j hj).2; exact ⟨by rw [hsZ]; exact this.1, this.2⟩⟩
  have sZ2 : c.stays Z na5 W.heap.size := ⟨by rw [hsZ]; exact s2'.1, s2'.2⟩
  have f6 : Fr c Z na5 W6 na5 := Fr.below hb6
  have w2 := (f6.keep _ sZ2).1.trans hzb
  have w3 := (f6.keep _ (hstB _ s3 (by omega)).2).1.trans ((hstB _ s3 (by omega)).1.trans x3)
  have w4 := (f6.keep _ (hstB _ s4 (by omega)).2).1.trans ((hstB _ s4 (by omega)).1.trans x4)
  have w5 := (f6.keep _ (hstB _ s5 (by omega)).2).1.trans ((hstB _ s5 (by omega)).1.trans x5)
  obtain ⟨h7, f7⟩ := step_at c hc h6 hi1
  generalize hV7 : W6.setCell ⟨c.b, 1, none⟩ (.int .i64 ((i1 : Int) + 1)) = V7 at *
  obtain ⟨s72, x72, q0, q1, q2, q3, qf⟩ := (f6.trans f7).box sZ2 hzb
  obtain ⟨e0, e1, e2, e3, e4, e5, ef⟩ := h7.cells
  have hT7 : TmIn (Nw c V V7 na5) V7 (.agg #[.int .i64 k, .int .i64 n, .string s, .slice a l cp]) T := hT5.carry (fun j hj => (((f6.trans f7).keep j ⟨by rw [hsZ]; exact hj.1.1, hj.1.2⟩).1).trans (hkZ j (by have := hj.2; omega))) (fun j hj => ⟨((f6.trans f7).keep j ⟨by rw [hsZ]; exact hj.1.1, hj.1.2⟩).2, hj.2⟩)
  have hck := check_at (.agg #[.int .i64 k, .int .i64 n, .string s, .slice a l cp]) T c.lv V7.drew (TmIn.carry (A := V7) (B := V7.drew) (fun _ _ => rfl) (fun j hj => hj.1.1) hT7) (by omega)
  rw [hc0] at hck
  go_wp2
  go_still_tail 5, (by kernel_rfl)
  change wpList _ _ _ _ _ V7.drew
  go_wp2_with (go_at_call 6; refine hck.mono ?_; rintro e W8 ⟨rfl, hb8⟩; have h8 := (h7.later hc (Below.refl _ _).drew).later hc hb8)
  have f8 : Fr c Z na5 W8 na5 := (f6.trans f7).trans ((Fr.below (Below.refl _ _).drew).trans (Fr.below hb8))
  have b2 := (f8.keep _ sZ2).1.trans hzb
  have b3 := (f8.keep _ (hstB _ s3 (by omega)).2).1.trans ((hstB _ s3 (by omega)).1.trans x3)
  have b4 := (f8.keep _ (hstB _ s4 (by omega)).2).1.trans ((hstB _ s4 (by omega)).1.trans x4)
  have b5 := (f8.keep _ (hstB _ s5 (by omega)).2).1.trans ((hstB _ s5 (by omega)).1.trans x5)
  obtain ⟨g0, g1, g2, g3, g4, g5, gf⟩ := h8.cells
  obtain ⟨r0, r1, r2, r3⟩ := tbox_cells b2
  have r4 : W8.cell? ⟨W.heap.size + 1, 0, none⟩ = some (.slice none 0 0) := by simp [World.cell?, b3]
  have r5 : W8.cell? ⟨W.heap.size + 2, 0, none⟩ = some (.int .i64 0) := by simp [World.cell?, b4]
  have r6 : W8.cell? ⟨W.heap.size + 3, 0, none⟩ = some (.int .i64 0) := by simp [World.cell?, b5]
  have l2 : ∀ j, W8.frozen? ⟨W.heap.size, j, none⟩ = false := fun j => by simp [World.frozen?, b2]
  have l3 : W8.frozen? ⟨W.heap.size + 1, 0, none⟩ = false := by simp [World.frozen?, b3]
  have l4 : W8.frozen? ⟨W.heap.size + 2, 0, none⟩ = false := by simp [World.frozen?, b4]
  have l5 : W8.frozen? ⟨W.heap.size + 3, 0, none⟩ = false := by simp [World.frozen?, b5]
  obtain ⟨Y, hY, m2, m3, m4, m5, hYo, hYs, hYb⟩ := sent_sets b2 b3 b4 b5 (.int .i64 k) (.int .i64 n) (.string s) (.slice a l cp) (.slice na5 ns1.length nc5) (.int .i64 ((i1 : Int) + 1)) (.int .i64 0)
  have hbne : c.b ≠ W.heap.size ∧ c.b ≠ W.heap.size + 1 ∧ c.b ≠ W.heap.size + 2 ∧ c.b ≠ W.heap.size + 3 := by
    have := (h.form hc).2.1; omega
  obtain ⟨bn0, bn1, bn2, bn3⟩ := hbne
  have hT8 : TmIn (fun j => c.w0.heap.size ≤ j ∧ j < Y.drew.heap.size) Y.drew (.agg #[.int .i64 k, .int .i64 n, .string s, .slice a l cp]) T := by
    have f78 : Fr c V7 na5 W8 na5 := (Fr.below (Below.refl _ _).drew).trans (Fr.below hb8)
    have hVs : V.heap.size = W.heap.size + 4 := hsz
    refine TmIn.carry (A := V7) (B := Y.drew) (fun j hj => ?_) (fun j hj => ?_) hT7
    · have h91 := hj.2
      exact (hYo j (by omega) (by omega) (by omega) (by omega)).trans (f78.keep j hj.1).1
    · have h91 := hj.2
      have h92 := (f78.keep j hj.1).2.1
      exact ⟨by omega, by show j < Y.heap.size; omega⟩
  have hfin : SPost c (.ok T (i1 + 1) ns1) (.returned (.tuple #[.agg #[.int .i64 k, .int .i64 n, .string s, .slice a l cp], .slice na5 ns1.length nc5, .int .i64 ((i1 + 1 : Nat) : Int), .int .i64 0])) Y.drew := ⟨k, n, s, a, l, cp, na5, ns1.length, nc5, rfl, (h8.bel.trans (hYb.mono hw0)).drew, hT8⟩
  have HF := Lib.hid hfin
  obtain ⟨o0, o1, o2, o3⟩ := tbox_cells m2
  have o4 : Y.cell? ⟨W.heap.size + 1, 0, none⟩ = some (.slice na5 ns1.length nc5) := by simp [World.cell?, m3]
  have o5 : Y.cell? ⟨W.heap.size + 2, 0, none⟩ = some (.int .i64 ((i1 : Int) + 1)) := by simp [World.cell?, m4]
  have o6 : Y.cell? ⟨W.heap.size + 3, 0, none⟩ = some (.int .i64 0) := by simp [World.cell?, m5]
  clear hfin hT8 hT7 hT5 hter
  go_region
  rw [← hY]
  go_wp2
  refine leaves_cons (f := 65) (args := #[.pointer (some ⟨W.heap.size, 0, none⟩), .pointer (some ⟨W.heap.size + 1, 0, none⟩), .pointer (some ⟨W.heap.size + 2, 0, none⟩), .pointer (some ⟨W.heap.size + 3, 0, none⟩)]) (by simp) (by simp [go_sem]) ?_
  refine (idle_at ⟨W.heap.size, 0, none⟩ ⟨W.heap.size + 1, 0, none⟩ ⟨W.heap.size + 2, 0, none⟩ ⟨W.heap.size + 3, 0, none⟩ _).mono ?_
  rintro e u' w'' ⟨rfl, rfl, rfl⟩
  have hfin := HF.out
  simp only [Int.natCast_add, Int.cast_ofNat_Int] at hfin
  simp [Leaves, settle, results, Tryz.results44, go_sem, o0, o1, o2, o3, o4, o5, o6]
  exact hfin
theorem sentence_at : Calls Tryz.prog 44 #[.pointer (some ⟨c.b, 0, none⟩)] W (SPost c (readG c.L c.lv i)) := by
  unfold readG
  cases hu : rd c.L c.lv 60 1200 i [] with
  | bad i' code => exact sentence_bad1 c hc h hu
  | ok T i1 ns1 =>
    dsimp only [Out.bind]
    by_cases hk : (ahd c.L i1).kind = 5
    · rw [if_neg (fun e => e hk)]
      by_cases hc0 : T.check c.lv = 0
      · rw [if_neg (fun e => e hc0)]; exact sentence_ok c hc h hu hk hc0
      · rw [if_pos hc0]; exact sentence_bad3 c hc h hu hk hc0
    · rw [if_pos hk]; exact sentence_bad2 c hc h hu hk
end
end Go.Proofs.YtfencolokfghfaaGreatDoor
