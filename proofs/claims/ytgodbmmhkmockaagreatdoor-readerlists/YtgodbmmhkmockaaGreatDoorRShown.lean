/-
  The document's examples of layer 7, at the head of all statements.
-/
import Derived.Test.YtgodbmmhkmockaaGreatDoorReadS
import Derived.Test.YtgodbmmhkmockaaGreatDoorReadT
import Derived.Test.YtgodbmmhkmockaaGreatDoorSame
namespace Go.Proofs.YtgodbmmhkmockaaGreatDoor
open Go.RowKit Go.Maps
set_option linter.unusedVariables false

theorem two_has {w : World} {v : Value} {x y : Tm} (hk : HasTs w v [x, y]) : ∃ b o cap k0 n0 s0 a0 l0 c0 k1 n1 s1 a1 l1 c1, v = .slice (some ⟨b, o, none⟩) 2 cap ∧ 2 ≤ cap ∧ b < w.heap.size ∧
    w.cell? ⟨b, o, none⟩ = some (.int .i64 k0) ∧ w.cell? ⟨b, o + 1, none⟩ = some (.int .i64 n0) ∧ w.cell? ⟨b, o + 2, none⟩ = some (.string s0) ∧ w.cell? ⟨b, o + 3, none⟩ = some (.slice a0 l0 c0) ∧ Has w (.agg #[.int .i64 k0, .int .i64 n0, .string s0, .slice a0 l0 c0]) x ∧
    w.cell? ⟨b, o + 4, none⟩ = some (.int .i64 k1) ∧ w.cell? ⟨b, o + 4 + 1, none⟩ = some (.int .i64 n1) ∧ Has w (.agg #[.int .i64 k1, .int .i64 n1, .string s1, .slice a1 l1 c1]) y := by
  obtain ⟨a, cap, rfl, hl, hm, ha, hx⟩ := hk
  obtain ⟨b, o, k0, n0, s0, a0, l0, c0, rfl, hb, q0, q1, q2, q3, hT0⟩ := hx 0 (by simp)
  obtain ⟨b', o', k1, n1, s1, a1, l1, c1, e, hb', r0, r1, r2, r3, hT1⟩ := hx 1 (by simp)
  cases e
  exact ⟨b, o, cap, k0, n0, s0, a0, l0, c0, k1, n1, s1, a1, l1, c1, rfl, hl, hb, q0, q1, q2, q3, hT0, by simpa using r0, by simpa using r1, hT1⟩
theorem Has.later {w w' : World} {v : Value} {T : Tm} (h : Has w v T) (hb : Below w.heap.size w w') : Has w' v T := Has.below h hb
theorem hasNew {w w' : World} {v : Value} {T : Tm} (h : TmIn (fun b => w.heap.size ≤ b ∧ b < w'.heap.size) w' v T) : Has w' v T := h.carry (fun _ _ => rfl) (fun b hb => hb.2)
/-- Two terms in a new block. -/
theorem two_new {w : World} {k n : Int} {s : ByteArray} {a : Option Addr} {l c : Nat} {k' n' : Int} {s' : ByteArray} {a' : Option Addr} {l' c' : Nat} {x y : Tm} (hx : Has w (.agg #[.int .i64 k, .int .i64 n, .string s, .slice a l c]) x) (hy : Has w (.agg #[.int .i64 k', .int .i64 n', .string s', .slice a' l' c']) y) :
    HasTs (w.alloc (.cells #[.int .i64 k, .int .i64 n, .string s, .slice a l c, .int .i64 k', .int .i64 n', .string s', .slice a' l' c'] 32)) (.slice (some ⟨w.heap.size, 0, none⟩) 2 2) [x, y] := by
  have hb := bel_al (Below.refl w.heap.size w) (.cells #[.int .i64 k, .int .i64 n, .string s, .slice a l c, .int .i64 k', .int .i64 n', .string s', .slice a' l' c'] 32)
  exact two_ts (alloc_new _ _) (by simp) (hx.below hb) (hy.below hb)
set_option maxRecDepth 100000 in
set_option maxHeartbeats 4000000 in
theorem shown7_at (w : World) (L : Laid w) (T : Tab w) (E : ErrT w) : Calls Tryz.prog 8 #[] w (Gets w (.bool true)) := by
  have hA := all_at (ByteArray.mk #[49, 32, 45, 32, 50, 32, 45, 32, 51, 46, 32, 97, 64, 50, 46]) exT7 rfl w L T E (by decide) 4
  rw [ex_allG7] at hA
  unfold AllPost at hA
  have hn1 := fun W => num_at 1 W ⟨by decide, by decide⟩
  have hn2 := fun W => num_at 2 W ⟨by decide, by decide⟩
  have hn3 := fun W => num_at 3 W ⟨by decide, by decide⟩
  have hz := zeroTerm
  go_enter Tryz.func8, Tryz.ntmps8
  go_wp2_with (first
    | (go_at_call 9; refine hA.mono ?_; rintro e W1 ⟨a0, cap0, rfl, hb1, hts⟩)
    | (go_at_call 12; refine (hn1 _).mono ?_; rintro e W2 h4; obtain ⟨k1, m1, s1, a1, l1, c1, rfl, hT1, hb2⟩ := h4.form4)
    | (go_at_call 12; refine (hn2 _).mono ?_; rintro e W3 h4; obtain ⟨k2, m2, s2, a2, l2, c2, rfl, hT2, hb3⟩ := h4.form4; have hm1 := two_new ((hasNew hT1).below hb3) (hasNew hT2); have hk1 := make_at (ByteArray.mk #[45]) _ _ _ (by decide) hm1 (by decide +kernel))
    | (go_at_call 13; refine hk1.mono ?_; rintro e W4 h4; obtain ⟨k3, m3, s3, a3, l3, c3, rfl, hT3, hb4⟩ := h4.form4)
    | (go_at_call 12; refine (hn3 _).mono ?_; rintro e W5 h4; obtain ⟨k5, m5, s5, a5, l5, c5, rfl, hT5, hb5⟩ := h4.form4; have hm2 := two_new ((hasNew hT3).below hb5) (hasNew hT5); have hk2 := make_at (ByteArray.mk #[45]) _ _ _ (by decide) hm2 (by decide +kernel))
    | (go_at_call 13; refine hk2.mono ?_; rintro e W6 h4; obtain ⟨k6, m6, s6, a6, l6, c6, rfl, hT6, hb6⟩ := h4.form4))
  obtain ⟨V, hV⟩ : ∃ V, V = W6.alloc (.cells #[.int .i64 k6, .int .i64 m6, .string s6, .slice a6 l6 c6] 32) := ⟨_, rfl⟩
  rw [← hV]
  have hbV : Below W6.heap.size W6 V := by rw [hV]; exact bel_al (Below.refl _ _) _
  have xV : V.heap[W6.heap.size]? = some (.cells #[.int .i64 k6, .int .i64 m6, .string s6, .slice a6 l6 c6] 32 (0, 0)) := by rw [hV]; exact alloc_new _ _
  have hb36 : Below W3.heap.size W3 W6 := bel (bel_al (bel (bel_al (Below.refl _ _) _) (bel hb4 hb5)) _) hb6
  have hb1V : Below W1.heap.size W1 V := bel (bel (bel hb2 hb3) hb36) hbV
  have hone : Has V (.agg #[.int .i64 k6, .int .i64 m6, .string s6, .slice a6 l6 c6]) exOne := Has.below (show Has W6 (.agg #[.int .i64 k6, .int .i64 m6, .string s6, .slice a6 l6 c6]) exOne from hasNew hT6) hbV
  obtain ⟨b, o, cap, x0, y0, z0, a7, l7, c7, x1, y1, z1, a8, l8, c8, hv, hcap, hbl, p0, p1, p2, p3, hL0, p4, p5, hL1⟩ := two_has (hts.below hb1V)
  obtain ⟨e4, e5, -⟩ := tm_head hL1
  have e4' : x1 = 4 := by rw [← e4]; rfl
  have e5' : y1 = 2 := by rw [← e5]; rfl
  subst e4' e5'
  injection hv with hv1 hv2 hv3
  subst hv1 hv3
  have hlV : W6.heap.size < V.heap.size := (Array.getElem?_eq_some_iff.1 xV).1
  obtain ⟨I, inst, F, m0, hF0, hFb, hFc⟩ := op_later_family V
  have hFx := fun i => ((hFb i).block W6.heap.size hlV).trans xV
  have t0 := fun i => (tbox_cells (hFx i)).1
  have t1 := fun i => (tbox_cells (hFx i)).2.1
  have t2 := fun i => (tbox_cells (hFx i)).2.2.1
  have t3 := fun i => (tbox_cells (hFx i)).2.2.2
  have cb := fun i (q : Nat) (u : Value) (hq : V.cell? ⟨b, q, none⟩ = some u) => (World.cell?_of_block (a := ⟨b, q, none⟩) ((hFb i).block b hbl)).trans hq
  have w0 := fun j => cb j _ _ p0
  have w1 := fun j => cb j _ _ p1
  have w2 := fun j => cb j _ _ p2
  have w3 := fun j => cb j _ _ p3
  have w4 := fun j => cb j _ _ p4
  have w5 := fun j => cb j _ _ p5
  have hS : Hid (∀ j, Calls Tryz.prog 14 #[.agg #[.int .i64 x0, .int .i64 y0, .string z0, .slice a7 l7 c7], .agg #[.int .i64 k6, .int .i64 m6, .string s6, .slice a6 l6 c6]] (F j) fun e w'' => e = .returned (.bool true) ∧ ∃ m, w'' = F m) :=
    Lib.hid (fun j => (same_at exOne exOne _ _ (F j) (Has.below hL0 (hFb j)) (Has.below hone (hFb j)) (by decide +kernel) (by decide +kernel)).mono fun e w' hg => ⟨by rw [hg.1]; simp, hFc j _ hg.2⟩)
  have HB := Lib.hid (And.intro (bel hb1 hb1V) hFb)
  clear hFx hFb hFc cb p0 p1 p2 p3 p4 p5 hL0 hL1 hone hts hV xV hk1 hk2 hm1 hm2 hT1 hT2 hT3 hT5 hT6 hA hn1 hn2 hn3 e4 e5
  refine op_region_fam F m0 hF0 (by kernel_rfl) (by kernel_rfl) ?_
  clear hF0
  repeat (go_big_quiet_step (first | (go_at_call 14; (with_reducible exact hS.out _))))
  refine wpQuiet_nil ?_
  intro _ hw'
  obtain ⟨nq, hw''⟩ := hw'
  subst hw''
  go_wp2_with fail
  go_ret
  exact ⟨rfl, bel HB.out.1 (HB.out.2 nq)⟩
end Go.Proofs.YtgodbmmhkmockaaGreatDoor
