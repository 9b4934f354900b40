/-
  The document's example, which stands at the head of all laws; the law's few.
-/
import Derived.Test.YtllggpmmcamkmaaRefA
namespace Go.Proofs.Ytllggpmmcamkmaa
open Go.RowKit Go.Shelf
set_option linter.unusedVariables false

theorem two_terms {w : World} {k1 n1 k2 n2 : Int} {s1 s2 : ByteArray} {a1 a2 : Option Addr} {l1 c1 l2 c2 : Nat} {T1 T2 : Tm} (h1 : Has w (.agg #[.int .i64 k1, .int .i64 n1, .string s1, .slice a1 l1 c1]) T1) (h2 : Has w (.agg #[.int .i64 k2, .int .i64 n2, .string s2, .slice a2 l2 c2]) T2) :
    HasTs (w.alloc (.cells #[.int .i64 k1, .int .i64 n1, .string s1, .slice a1 l1 c1, .int .i64 k2, .int .i64 n2, .string s2, .slice a2 l2 c2] 24)) (.slice (some ⟨w.heap.size, 0, none⟩) 2 2) [T1, T2] := by
  have hb : Below w.heap.size w (w.alloc (.cells #[.int .i64 k1, .int .i64 n1, .string s1, .slice a1 l1 c1, .int .i64 k2, .int .i64 n2, .string s2, .slice a2 l2 c2] 24)) := (Below.refl _ w).alloc (Nat.le_refl _) _
  refine ⟨some ⟨w.heap.size, 0, none⟩, 2, rfl, by simp, by unfold maxLen; omega, (fun h => by cases h), fun i hi => ?_⟩
  have hi' : i = 0 ∨ i = 1 := by simp at hi; omega
  rcases hi' with rfl | rfl
  · exact ⟨w.heap.size, 0, k1, n1, s1, a1, l1, c1, rfl, by simp, (World.cell?_alloc_new w _ _ _).trans rfl, (World.cell?_alloc_new w _ _ _).trans rfl, (World.cell?_alloc_new w _ _ _).trans rfl, (World.cell?_alloc_new w _ _ _).trans rfl, Has.below h1 hb⟩
  · exact ⟨w.heap.size, 0, k2, n2, s2, a2, l2, c2, rfl, by simp, (World.cell?_alloc_new w _ _ _).trans rfl, (World.cell?_alloc_new w _ _ _).trans rfl, (World.cell?_alloc_new w _ _ _).trans rfl, (World.cell?_alloc_new w _ _ _).trans rfl, Has.below h2 hb⟩

theorem one_term {w : World} {k1 n1 : Int} {s1 : ByteArray} {a1 : Option Addr} {l1 c1 : Nat} {T1 : Tm} (h1 : Has w (.agg #[.int .i64 k1, .int .i64 n1, .string s1, .slice a1 l1 c1]) T1) :
    HasTs (w.alloc (.cells #[.int .i64 k1, .int .i64 n1, .string s1, .slice a1 l1 c1] 24)) (.slice (some ⟨w.heap.size, 0, none⟩) 1 1) [T1] := by
  have hb : Below w.heap.size w (w.alloc (.cells #[.int .i64 k1, .int .i64 n1, .string s1, .slice a1 l1 c1] 24)) := (Below.refl _ w).alloc (Nat.le_refl _) _
  refine ⟨some ⟨w.heap.size, 0, none⟩, 1, rfl, by simp, by unfold maxLen; omega, (fun h => by cases h), fun i hi => ?_⟩
  have hi' : i = 0 := by simp at hi; omega
  subst hi'
  exact ⟨w.heap.size, 0, k1, n1, s1, a1, l1, c1, rfl, by simp, (World.cell?_alloc_new w _ _ _).trans rfl, (World.cell?_alloc_new w _ _ _).trans rfl, (World.cell?_alloc_new w _ _ _).trans rfl, (World.cell?_alloc_new w _ _ _).trans rfl, Has.below h1 hb⟩

def exG : Tm := .mk 3 0 (ByteArray.mk #[103]) [.mk 1 2 (ByteArray.mk #[]) [], .mk 1 4 (ByteArray.mk #[]) []]
def exF : Tm := .mk 3 0 (ByteArray.mk #[102]) [.mk 1 4 (ByteArray.mk #[]) [], exG]
theorem exF_size : exF.size = 5 := by decide
theorem exF_deep : exF.deep = 3 := by decide
theorem exF_vars : exF.vars = [4, 2] := by decide
theorem empty_toList : (ByteArray.mk #[]).toList = [] := by
  unfold ByteArray.toList
  rw [ByteArray.toList.loop]
  rfl
theorem exF_valid : exF.valid 1 = true := by
  have h1 : (ByteArray.mk #[102]).size = 1 := rfl
  have h2 : (ByteArray.mk #[103]).size = 1 := rfl
  simp [Tm.valid, validL, exF, exG, Tm.parts_mk, Tm.partss_cons, Tm.partss_nil, Tm.formed, Tm.kind, Tm.num, Tm.name, Tm.kids, h1, h2]
theorem exF_check : exF.check 1 = 0 := by
  rw [Tm.check, exF_size, exF_deep, exF_valid]; decide

theorem two_ints (w : World) (x y : Int) : IntsAt (w.alloc (.cells #[.int .i64 x, .int .i64 y] 3)) (.slice (some ⟨w.heap.size, 0, none⟩) 2 2) [x, y] := by
  refine ⟨some ⟨w.heap.size, 0, none⟩, 2, rfl, by simp, by unfold maxLen; omega, (fun h => by cases h), fun i hi => ?_⟩
  have hi' : i = 0 ∨ i = 1 := by simp at hi; omega
  rcases hi' with rfl | rfl
  · exact ⟨w.heap.size, 0, rfl, by simp, (World.cell?_alloc_new w _ _ _).trans rfl⟩
  · exact ⟨w.heap.size, 0, rfl, by simp, (World.cell?_alloc_new w _ _ _).trans rfl⟩
theorem one_int (w : World) (x : Int) : IntsAt (w.alloc (.cells #[.int .i64 x] 3)) (.slice (some ⟨w.heap.size, 0, none⟩) 1 1) [x] := by
  refine ⟨some ⟨w.heap.size, 0, none⟩, 1, rfl, by simp, by unfold maxLen; omega, (fun h => by cases h), fun i hi => ?_⟩
  have hi' : i = 0 := by simp at hi; omega
  subst hi'
  exact ⟨w.heap.size, 0, rfl, by simp, (World.cell?_alloc_new w _ _ _).trans rfl⟩

set_option maxRecDepth 100000 in
theorem few_at (v : Value) (T : Tm) (w : World) (hv : Has w v T) (hs : T.size ≤ 1000000000000) :
    Calls Try.prog 11 #[v] w (Gets w (.bool (decide (T.size ≤ 3000)))) := by
  obtain ⟨k, n, s, a, len, cap, ks, rfl, e, -⟩ := hv.form
  clear e
  have hb : Below w.heap.size w (w.alloc (.cells #[.int .i64 k, .int .i64 n, .string s, .slice a len cap] 24)) := (Below.refl _ w).alloc (Nat.le_refl _) _
  have h := (rsize_at T _ _ (Has.below hv hb) hs).mono (R' := Gets w (.int .i64 (T.size : Int))) (fun e w2 h => ⟨h.1, hb.trans (h.2.mono hb.size)⟩)
  clear hv hb
  go_enter Try.func11, Try.ntmps11
  go_wp2_with (go_at_call 15; refine h.mono ?_; clear h; rintro e w2 ⟨rfl, hB⟩)
  go_ret
  refine ⟨congrArg (fun b => Ending.returned (Value.bool b)) (?_ : decide ((T.size : Int) ≤ 3000) = decide (T.size ≤ 3000)), hB⟩
  rw [decide_eq_decide]
  omega

set_option maxRecDepth 100000 in
set_option maxHeartbeats 4000000 in
theorem shown_at (w : World) : Calls Try.prog 10 #[] w (Gets w (.bool true)) := by
  go_enter Try.func10, Try.ntmps10
  go_wp2_with fail
  refine (let_at 4 w ⟨by decide, by decide⟩).mono ?_
  intro e w1 h1
  obtain ⟨k1, n1, s1, a1, l1, c1, rfl, hT1, hB1⟩ := h1.has
  have HB1 := Lib.hid hB1
  clear h1 hB1
  go_wp2_with fail
  refine (let_at 2 w1 ⟨by decide, by decide⟩).mono ?_
  intro e w2 h2
  obtain ⟨k2, n2, s2, a2, l2, c2, rfl, hT2, hB2⟩ := h2.has
  have hT1' := Has.below hT1 hB2
  have HB2 := Lib.hid (HB1.out.trans (hB2.mono HB1.out.size))
  clear h2 hB2 hT1 HB1
  go_wp2_with fail
  refine (let_at 4 w2 ⟨by decide, by decide⟩).mono ?_
  intro e w3 h3
  obtain ⟨k3, n3, s3, a3, l3, c3, rfl, hT3, hB3⟩ := h3.has
  have hT1 := Has.below hT1' hB3
  have hT2' := Has.below hT2 hB3
  have HB3 := Lib.hid (HB2.out.trans (hB3.mono HB2.out.size))
  clear h3 hB3 hT1' hT2 HB2
  go_wp2_with fail
  refine (make_at (ByteArray.mk #[103]) _ [.mk 1 2 (ByteArray.mk #[]) [], .mk 1 4 (ByteArray.mk #[]) []] _ (by unfold maxLen; decide) (two_terms hT2' hT3) (by decide)).mono ?_
  intro e w4 h4
  obtain ⟨k4, n4, s4, a4, l4, c4, rfl, hT4, hB4⟩ := h4.has
  have hA3 := (Below.refl w3.heap.size w3).alloc (Nat.le_refl _) (.cells #[.int .i64 k2, .int .i64 n2, .string s2, .slice a2 l2 c2, .int .i64 k3, .int .i64 n3, .string s3, .slice a3 l3 c3] 24)
  have hB34 := hA3.trans (hB4.mono hA3.size)
  have hT1' := Has.below hT1 hB34
  have HB4 := Lib.hid (HB3.out.trans (hB34.mono HB3.out.size))
  clear h4 hB4 hA3 hB34 hT1 hT2' hT3 HB3
  go_wp2_with fail
  refine (make_at (ByteArray.mk #[102]) _ [.mk 1 4 (ByteArray.mk #[]) [], exG] _ (by unfold maxLen; decide) (two_terms hT1' hT4) (by decide)).mono ?_
  intro e w5 h5
  obtain ⟨k5, n5, s5, a5, l5, c5, rfl, hT5, hB5⟩ := h5.has
  have hA4 := (Below.refl w4.heap.size w4).alloc (Nat.le_refl _) (.cells #[.int .i64 k1, .int .i64 n1, .string s1, .slice a1 l1 c1, .int .i64 k4, .int .i64 n4, .string s4, .slice a4 l4 c4] 24)
  have hB45 := hA4.trans (hB5.mono hA4.size)
  have HB5 := Lib.hid (HB4.out.trans (hB45.mono HB4.out.size))
  clear h5 hB5 hA4 hB45 hT1' hT4 HB4
  obtain ⟨w6, hw6⟩ : ∃ w6, w6 = w5.alloc (.cells #[.int .i64 k5, .int .i64 n5, .string s5, .slice a5 l5 c5] 24) := ⟨_, rfl⟩
  have hA6 : Below w5.heap.size w5 w6 := by rw [hw6]; exact (Below.refl _ _).alloc (Nat.le_refl _) _
  have hbox6 : w6.heap[w5.heap.size]? = some (.cells #[.int .i64 k5, .int .i64 n5, .string s5, .slice a5 l5 c5] 24 (0, 0)) := by rw [hw6]; exact World.alloc_heap_new _ _
  have hT6 : Has w6 (.agg #[.int .i64 k5, .int .i64 n5, .string s5, .slice a5 l5 c5]) exF := Has.below hT5 hA6
  have HB6 := Lib.hid (HB5.out.trans (hA6.mono HB5.out.size))
  have HBX := Lib.hid hbox6
  have HW := Lib.hid hw6
  clear hT5 hA6 HB5 hw6 hbox6
  go_wp2_with fail
  rw [← HW.out]
  refine (vars_at _ exF w6 hT6 (by rw [exF_size]; decide)).mono ?_
  rintro e w7 ⟨r7, rfl, hr7, hB7⟩
  rw [exF_vars] at hr7
  obtain ⟨a7, c7, rfl, h7⟩ := id hr7
  obtain ⟨w8, hw8⟩ : ∃ w8, w8 = w7.alloc (.cells #[.int .i64 4, .int .i64 2] 3) := ⟨_, rfl⟩
  have hA8 : Below w7.heap.size w7 w8 := by rw [hw8]; exact (Below.refl _ _).alloc (Nat.le_refl _) _
  have hB68 := hB7.trans (hA8.mono hB7.size)
  have hT8 := Has.below hT6 hB68
  have hi8 : IntsAt w8 (.slice (some ⟨w7.heap.size, 0, none⟩) 2 2) [4, 2] := by rw [hw8]; exact two_ints w7 4 2
  have hr8 := hr7.below hA8
  have hb8 := tbox_below HBX.out hB68
  have HB8 := Lib.hid (HB6.out.trans (hB68.mono HB6.out.size))
  have hints := (ints_at _ _ _ _ w8 hr8 hi8 (by decide) (by decide)).mono (R' := fun e w9 => e = .returned (.bool true) ∧ Below w8.heap.size w8 w9) (fun e w9 h => ⟨h.1, h.2⟩)
  have HW8 := Lib.hid hw8
  have HBX8 := Lib.hid hb8
  clear hT6 HW HBX HB6 hr7 h7 hB7 hA8 hB68 hi8 hr8 hw8 hb8
  go_wp2_with fail
  rw [← HW8.out]
  refine hints.mono ?_
  rintro e w9 ⟨rfl, hB9⟩
  have hT9 := Has.below hT8 hB9
  have hb9 := tbox_below HBX8.out hB9
  obtain ⟨x0, x1, x2, x3⟩ := tbox_cells hb9
  have HB9 := Lib.hid (HB8.out.trans (hB9.mono HB8.out.size))
  have HBX9 := Lib.hid hb9
  clear hints hB9 hb9 hT8 HB8 HBX8 HW8
  go_wp2_with fail
  refine (size_at _ exF w9 hT9 (by rw [exF_size]; decide)).mono ?_
  rintro e w10 ⟨rfl, hB10⟩
  have hT10 := Has.below hT9 hB10
  have hb10 := tbox_below HBX9.out hB10
  obtain ⟨y0, y1, y2, y3⟩ := tbox_cells hb10
  have HB10 := Lib.hid (HB9.out.trans (hB10.mono HB9.out.size))
  have HBX10 := Lib.hid hb10
  clear hB10 hb10 hT9 HB9 HBX9 x0 x1 x2 x3
  rw [exF_size]
  go_wp2_with fail
  refine (deep_at _ exF w10 hT10 (by rw [exF_size]; decide)).mono ?_
  rintro e w11 ⟨rfl, hB11⟩
  have hT11 := Has.below hT10 hB11
  have hb11 := tbox_below HBX10.out hB11
  obtain ⟨z0, z1, z2, z3⟩ := tbox_cells hb11
  have HB11 := Lib.hid (HB10.out.trans (hB11.mono HB10.out.size))
  clear hB11 hb11 hT10 HB10 HBX10 y0 y1 y2 y3
  rw [exF_deep]
  go_wp2_with fail
  refine (check_at _ exF 1 w11 hT11 (by rw [exF_size]; decide)).mono ?_
  rintro e w12 ⟨rfl, hB12⟩
  have HB12 := Lib.hid (HB11.out.trans (hB12.mono HB11.out.size))
  clear hB12 hT11 HB11 z0 z1 z2 z3
  rw [exF_check]
  go_wp2_with fail
  go_ret
  exact ⟨rfl, HB12.out⟩

end Go.Proofs.Ytllggpmmcamkmaa
