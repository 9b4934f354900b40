/-
  fun: the Fun of a name with these Kids, or the Seal that it stands for.
-/
import Derived.Test.YtfencolokfghfaaGreatDoorReadE
import Derived.Test.YtfencolokfghfaaGreatDoorReadC
namespace Go.Proofs.YtfencolokfghfaaGreatDoor
open Go.RowKit Go.Maps
set_option linter.unusedVariables false
set_option linter.unusedSectionVars false

/-- What fun answers: kids in blocks of which p holds. -/
def FPost (c : Cx) (W : World) (na : Option Addr) (nc i d : Nat) (ns : Nms) (p : Nat → Prop) (T : Tm) (e : Ending) (W' : World) : Prop :=
  ∃ k n s a l cp, e = .returned (.agg #[.int .i64 k, .int .i64 n, .string s, .slice a l cp]) ∧ PAt c W' na nc i d ns ∧ Fr c W na W' na ∧ TmIn (fun j => p j ∨ Nw c W W' na j) W' (.agg #[.int .i64 k, .int .i64 n, .string s, .slice a l cp]) T
def FOut (c : Cx) (W : World) (na : Option Addr) (nc i d : Nat) (ns : Nms) (p : Nat → Prop) : Out Tm → Ending → World → Prop
  | .ok T _ _, e, W' => FPost c W na nc i d ns p T e W'
  | .bad i' code, e, W' => e = faultE i' code ∧ Kp c W na W'

section
variable (c : Cx) (hc : c.Ok) {W : World} {na : Option Addr} {nc i d : Nat} {ns : Nms} (h : PAt c W na nc i d ns)
include hc h
set_option maxRecDepth 100000 in
set_option maxHeartbeats 1000000 in
theorem fun_plain (nm : List UInt8) (hn : nm.length ≤ 4096) {p : Nat → Prop} (hp : ∀ j, p j → c.stays W na j) (ks : List Tm) (a : Option Addr) (cap : Nat) (hk : TsIn p W (.slice a ks.length cap) ks) (hm : nm ≠ [64] ∨ ks.length ≠ 2) :
    Calls Tryz.prog 88 #[.pointer (some ⟨c.b, 0, none⟩), .string (strV nm), .slice a ks.length cap] W (FPost c W na nc i d ns p (.mk 3 0 (strV nm) ks)) := by
  have hsl : (strV nm).size ≤ maxLen := by rw [strV_size]; unfold maxLen; omega
  have hT : TmIn p W (.agg #[.int .i64 3, .int .i64 0, .string (strV nm), .slice a ks.length cap]) (.mk 3 0 (strV nm) ks) := hk.term ⟨by decide, by decide⟩ ⟨by decide, by decide⟩ hsl
  obtain ⟨W1, hW1⟩ : ∃ W1, W1 = W.alloc (.cells #[.int .i64 3, .int .i64 0, .string (strV nm), .slice a ks.length cap] 24) := ⟨_, rfl⟩
  obtain ⟨h1, s1, x1, f1⟩ := h.fresh hc #[.int .i64 3, .int .i64 0, .string (strV nm), .slice a ks.length cap] 24
  rw [← hW1] at h1 s1 x1 f1
  obtain ⟨y0, y1, y2, y3⟩ := tbox_cells x1
  have hTZ : TmIn (fun j => p j ∨ Nw c W W1 na j) W1 (.agg #[.int .i64 3, .int .i64 0, .string (strV nm), .slice a ks.length cap]) (.mk 3 0 (strV nm) ks) := hT.carry (fun j hj => (f1.keep j (hp j hj)).1) (fun j hj => .inl hj)
  have hz := zeroTerm
  have hE : ((strV nm).toList == [64]) = decide (nm = [64]) := rd_beq (strV_list nm) _
  have fin : FPost c W na nc i d ns p (.mk 3 0 (strV nm) ks) (.returned (.agg #[.int .i64 3, .int .i64 0, .string (strV nm), .slice a ks.length cap])) W1 := ⟨3, 0, strV nm, a, ks.length, cap, rfl, h1, f1, hTZ⟩
  have HF := Lib.hid fin
  clear fin hTZ hT hk h1 s1 f1 x1
  go_enter Tryz.func88, Tryz.ntmps88
  by_cases hm1 : nm = [64]
  · have hm2 : ¬ ((ks.length : Int) = 2) := by rcases hm with hm | hm; exact absurd hm1 hm; omega
    rw [decide_eq_true hm1] at hE
    clear hm1 hm
    go_wp2
    rw [← hW1]
    refine bodyPost_ret (v := .agg #[.int .i64 3, .int .i64 0, .string (strV nm), .slice a ks.length cap]) (by simp [results, Tryz.f88, go_sem, y0, y1, y2, y3]) rfl ?_
    exact HF.out
  · rw [decide_eq_false hm1] at hE
    clear hm
    go_wp2
    rw [← hW1]
    refine bodyPost_ret (v := .agg #[.int .i64 3, .int .i64 0, .string (strV nm), .slice a ks.length cap]) (by simp [results, Tryz.f88, go_sem, y0, y1, y2, y3]) rfl ?_
    exact HF.out
/-- Two kids, cell by cell. -/
theorem two_kids {p : Nat → Prop} {v : Value} {x y : Tm} (hk : TsIn p W v [x, y]) : ∃ b o cap k0 n0 s0 a0 l0 c0 k1 n1 s1 a1 l1 c1, v = .slice (some ⟨b, o, none⟩) 2 cap ∧ 2 ≤ cap ∧
    W.cell? ⟨b, o, none⟩ = some (.int .i64 k0) ∧ W.cell? ⟨b, o + 1, none⟩ = some (.int .i64 n0) ∧ W.cell? ⟨b, o + 2, none⟩ = some (.string s0) ∧ W.cell? ⟨b, o + 3, none⟩ = some (.slice a0 l0 c0) ∧ TmIn p W (.agg #[.int .i64 k0, .int .i64 n0, .string s0, .slice a0 l0 c0]) x ∧
    W.cell? ⟨b, o + 4, none⟩ = some (.int .i64 k1) ∧ W.cell? ⟨b, o + 4 + 1, none⟩ = some (.int .i64 n1) ∧ W.cell? ⟨b, o + 4 + 2, none⟩ = some (.string s1) ∧ W.cell? ⟨b, o + 4 + 3, none⟩ = some (.slice a1 l1 c1) ∧ TmIn p W (.agg #[.int .i64 k1, .int .i64 n1, .string s1, .slice a1 l1 c1]) y ∧ p b := by
  obtain ⟨a, cap, rfl, hl, hm, ha, hx⟩ := hk
  obtain ⟨b, o, k0, n0, s0, a0, l0, c0, rfl, hb, q0, q1, q2, q3, hT0⟩ := hx 0 (by simp)
  obtain ⟨b', o', k1, n1, s1, a1, l1, c1, e, hb', r0, r1, r2, r3, hT1⟩ := hx 1 (by simp)
  cases e
  exact ⟨b, o, cap, k0, n0, s0, a0, l0, c0, k1, n1, s1, a1, l1, c1, rfl, hl, q0, q1, q2, q3, hT0, by simpa using r0, by simpa using r1, by simpa using r2, by simpa using r3, hT1, hb⟩
omit hc h in
theorem tm_head {p : Nat → Prop} {k n : Int} {s : ByteArray} {v : Value} {T : Tm} (hT : TmIn p W (.agg #[.int .i64 k, .int .i64 n, .string s, v]) T) : T.kind = k ∧ T.num = n ∧ i64ok n := by
  obtain ⟨k', n', s', a', l', c', ks', e, e', _, _, hn, _⟩ := hT.form
  simp only [Value.agg.injEq, Array.mk.injEq, List.cons.injEq, Value.int.injEq, Value.string.injEq, true_and, and_true] at e
  obtain ⟨e0, e1, e2, e3⟩ := e
  subst e0 e1 e2
  exact ⟨by rw [e']; rfl, by rw [e']; rfl, hn⟩
set_option maxRecDepth 100000 in
set_option maxHeartbeats 4000000 in
theorem fun_bad {p : Nat → Prop} (hp : ∀ j, p j → c.stays W na j) (x y : Tm) (v : Value) (hk : TsIn p W v [x, y]) (hsx : x.size ≤ 1000000) (hm : y.kind ≠ 2 ∨ y.num < 0 ∨ c.lv ≤ y.num ∨ x.ground = false) :
    Calls Tryz.prog 88 #[.pointer (some ⟨c.b, 0, none⟩), .string (ByteArray.mk #[64]), v] W fun e W' => e = faultE i 4 ∧ Kp c W na W' := by
  obtain ⟨b, o, cap, k0, n0, s0, a0, l0, c0, k1, n1, s1, a1, l1, c1, rfl, hcap, q0, q1, q2, q3, hT0, r0, r1, r2, r3, hT1, hb⟩ := two_kids c hc h hk
  obtain ⟨hy1, hy2, hyn⟩ := tm_head hT1
  rw [hy1, hy2] at hm
  obtain ⟨W2, hW2⟩ : ∃ W2, W2 = (W.alloc (.cells #[.int .i64 0, .int .i64 0, .string (ByteArray.mk #[]), .slice none 0 0] 24)).alloc (.cells #[.int .i64 k1, .int .i64 n1, .string s1, .slice a1 l1 c1] 24) := ⟨_, rfl⟩
  have hB2 : Below W.heap.size W W2 := by rw [hW2]; exact bel_al (bel_al (Below.refl _ _) _) _
  have x2 : W2.heap[W.heap.size + 1]? = some (.cells #[.int .i64 k1, .int .i64 n1, .string s1, .slice a1 l1 c1] 24 (0, 0)) := by rw [hW2]; simpa using alloc_new (W.alloc (.cells #[.int .i64 0, .int .i64 0, .string (ByteArray.mk #[]), .slice none 0 0] 24)) (.cells #[.int .i64 k1, .int .i64 n1, .string s1, .slice a1 l1 c1] 24)
  have hlt2 : W.heap.size + 1 < W2.heap.size := (Array.getElem?_eq_some_iff.1 x2).1
  have hz := zeroTerm
  have al := fun (q : Nat) (u : Value) (hq : W.cell? ⟨b, q, none⟩ = some u) => (World.cell?_of_block (a := ⟨b, q, none⟩) (w := W) (w' := W.alloc (.cells #[.int .i64 0, .int .i64 0, .string (ByteArray.mk #[]), .slice none 0 0] 24)) (Below.heap_alloc _ _ _ (hp b hb).1)).trans hq
  have v0 := al _ _ r0
  have v1 := al _ _ r1
  have v2 := al _ _ r2
  have v3 := al _ _ r3
  clear al r0 r1 r2 r3
  obtain ⟨I, inst, F, m0, hF0, hFb, hFc⟩ := op_later_family W2
  have hFW := fun i => hB2.trans ((hFb i).mono hB2.size)
  have hFx := fun i => ((hFb i).block (W.heap.size + 1) hlt2).trans x2
  have t0 := fun i => (tbox_cells (hFx i)).1
  have t1 := fun i => (tbox_cells (hFx i)).2.1
  have hFP := fun j => h.later hc (hFW j)
  have b2 := fun j => (hFP j).cells.2.2.1
  have cb := fun j (q : Nat) (u : Value) (hq : W.cell? ⟨b, q, none⟩ = some u) => (World.cell?_of_block (a := ⟨b, q, none⟩) ((hFW j).block b (hp b hb).1)).trans hq
  have w0 := fun j => cb j _ _ q0
  have w1 := fun j => cb j _ _ q1
  have w2 := fun j => cb j _ _ q2
  have w3 := fun j => cb j _ _ q3
  have hG : Hid (∀ j, Calls Tryz.prog 108 #[.agg #[.int .i64 k0, .int .i64 n0, .string s0, .slice a0 l0 c0]] (F j) fun e w'' => e = .returned (.bool x.ground) ∧ ∃ m, w'' = F m) :=
    Lib.hid (fun j => (rground_at _ x (F j) (hT0.carry (fun b hb => (hFW j).block b (hp b hb).1) (fun b hb => Nat.lt_of_lt_of_le (hp b hb).1 (hFW j).size)) hsx).mono fun e w' hg => ⟨hg.1, hFc j _ hg.2⟩)
  have hnot : ∀ (x : Bool) (w : World), (Op.unary .not (.bool x)).run Tryz.prog w = .ok (.bool (!x)) w := fun _ _ => rfl
  have HFP := Lib.hid hFP
  have hfail := fun j => fail_at c hc (HFP.out j) 4
  have hKp : ∀ j, Kp c W na (F j) := fun j => (Fr.below (hFW j)).kp (hFP j).bel
  have HK := Lib.hid hKp
  clear hKp cb hFx hFP hT0 hT1 q0 q1 q2 q3 hFb hFc hFW hk x2 hlt2
  go_enter Tryz.func88, Tryz.ntmps88
  by_cases e1 : k1 = 2
  · subst e1
    by_cases e2 : n1 < 0
    · clear hm
      go_wp2_with fail
      rw [← hW2]
      refine op_region_fam F m0 hF0 (by kernel_rfl) (by kernel_rfl) ?_
      clear hF0 hW2
      repeat (go_big_quiet_step (first | (go_at_call 108; (with_reducible exact hG.out _))))
      refine wpQuiet_nil ?_
      intro _ hw'
      obtain ⟨nq, hw''⟩ := hw'
      subst hw''
      go_wp2_with (go_at_call 68; refine (hfail nq).mono ?_; rintro e W4 ⟨he, rfl⟩; unfold faultE at he; subst he)
      exact ⟨rfl, rfl, HK.out nq⟩
    · have d2 : decide (n1 < 0) = false := decide_eq_false e2
      by_cases e3 : c.lv ≤ n1
      · have d3 : decide (c.lv ≤ n1) = true := decide_eq_true e3
        clear hm
        go_wp2_with fail
        rw [← hW2]
        refine op_region_fam F m0 hF0 (by kernel_rfl) (by kernel_rfl) ?_
        clear hF0 hW2
        repeat (go_big_quiet_step (first | (go_at_call 108; (with_reducible exact hG.out _))))
        refine wpQuiet_nil ?_
        intro _ hw'
        obtain ⟨nq, hw''⟩ := hw'
        subst hw''
        go_wp2_with (go_at_call 68; refine (hfail nq).mono ?_; rintro e W4 ⟨he, rfl⟩; unfold faultE at he; subst he)
        exact ⟨rfl, rfl, HK.out nq⟩
      · have e4 : x.ground = false := by
          rcases hm with hm | hm | hm | hm
          · exact absurd rfl hm
          · exact absurd hm e2
          · exact absurd hm e3
          · exact hm
        rw [e4] at hG
        have d3 : decide (c.lv ≤ n1) = false := decide_eq_false e3
        clear hm
        go_wp2_with fail
        rw [← hW2]
        refine op_region_fam F m0 hF0 (by kernel_rfl) (by kernel_rfl) ?_
        clear hF0 hW2
        repeat (go_big_quiet_step (first | (go_at_call 108; (with_reducible exact hG.out _))))
        refine wpQuiet_nil ?_
        intro _ hw'
        obtain ⟨nq, hw''⟩ := hw'
        subst hw''
        go_wp2_with (go_at_call 68; refine (hfail nq).mono ?_; rintro e W4 ⟨he, rfl⟩; unfold faultE at he; subst he)
        exact ⟨rfl, rfl, HK.out nq⟩
  · have d1 : (k1 != 2) = true := by simpa using e1
    clear hm
    go_wp2_with fail
    rw [← hW2]
    refine op_region_fam F m0 hF0 (by kernel_rfl) (by kernel_rfl) ?_
    clear hF0 hW2
    repeat (go_big_quiet_step (first | (go_at_call 108; (with_reducible exact hG.out _))))
    refine wpQuiet_nil ?_
    intro _ hw'
    obtain ⟨nq, hw''⟩ := hw'
    subst hw''
    go_wp2_with (go_at_call 68; refine (hfail nq).mono ?_; rintro e W4 ⟨he, rfl⟩; unfold faultE at he; subst he)
    exact ⟨rfl, rfl, HK.out nq⟩
omit hc h in
theorem one_ts {q : Nat → Prop} {Z : World} {g : Nat} {k n : Int} {s : ByteArray} {a : Option Addr} {l c : Nat} {x : Tm} (hx : Z.heap[g]? = some (.cells #[.int .i64 k, .int .i64 n, .string s, .slice a l c] 24 (0, 0))) (hq : q g) (ht : TmIn q Z (.agg #[.int .i64 k, .int .i64 n, .string s, .slice a l c]) x) : TsIn q Z (.slice (some ⟨g, 0, none⟩) 1 1) [x] := by
  refine ⟨some ⟨g, 0, none⟩, 1, rfl, Nat.le_refl _, by unfold maxLen; omega, (fun e => by cases e), fun i hi => ?_⟩
  have e : i = 0 := by simpa using hi
  subst e
  obtain ⟨z0, z1, z2, z3⟩ := tbox_cells hx
  exact ⟨g, 0, k, n, s, a, l, c, rfl, hq, by simpa using z0, by simpa using z1, by simpa using z2, by simpa using z3, ht⟩
set_option maxRecDepth 100000 in
set_option maxHeartbeats 4000000 in
theorem fun_seal {p : Nat → Prop} (hp : ∀ j, p j → c.stays W na j) (x y : Tm) (v : Value) (hk : TsIn p W v [x, y]) (hsx : x.size ≤ 1000000) (hm1 : y.kind = 2) (hm2 : ¬ y.num < 0) (hm3 : ¬ c.lv ≤ y.num) (hm4 : x.ground = true) :
    Calls Tryz.prog 88 #[.pointer (some ⟨c.b, 0, none⟩), .string (ByteArray.mk #[64]), v] W (FPost c W na nc i d ns p (.mk 4 y.num empB [x])) := by
  obtain ⟨b, o, cap, k0, n0, s0, a0, l0, c0, k1, n1, s1, a1, l1, c1, rfl, hcap, q0, q1, q2, q3, hT0, r0, r1, r2, r3, hT1, hb⟩ := two_kids c hc h hk
  obtain ⟨hy1, hy2, hyn⟩ := tm_head hT1
  rw [hy1] at hm1
  rw [hy2] at hm2 hm3
  rw [hy2]
  subst hm1
  obtain ⟨W2, hW2⟩ : ∃ W2, W2 = (W.alloc (.cells #[.int .i64 0, .int .i64 0, .string (ByteArray.mk #[]), .slice none 0 0] 24)).alloc (.cells #[.int .i64 2, .int .i64 n1, .string s1, .slice a1 l1 c1] 24) := ⟨_, rfl⟩
  have hB2 : Below W.heap.size W W2 := by rw [hW2]; exact bel_al (bel_al (Below.refl _ _) _) _
  have x2 : W2.heap[W.heap.size + 1]? = some (.cells #[.int .i64 2, .int .i64 n1, .string s1, .slice a1 l1 c1] 24 (0, 0)) := by rw [hW2]; simpa using alloc_new (W.alloc (.cells #[.int .i64 0, .int .i64 0, .string (ByteArray.mk #[]), .slice none 0 0] 24)) (.cells #[.int .i64 2, .int .i64 n1, .string s1, .slice a1 l1 c1] 24)
  have hlt2 : W.heap.size + 1 < W2.heap.size := (Array.getElem?_eq_some_iff.1 x2).1
  have hz := zeroTerm
  have al := fun (q : Nat) (u : Value) (hq : W.cell? ⟨b, q, none⟩ = some u) => (World.cell?_of_block (a := ⟨b, q, none⟩) (w := W) (w' := W.alloc (.cells #[.int .i64 0, .int .i64 0, .string (ByteArray.mk #[]), .slice none 0 0] 24)) (Below.heap_alloc _ _ _ (hp b hb).1)).trans hq
  have v0 := al _ _ r0
  have v1 := al _ _ r1
  have v2 := al _ _ r2
  have v3 := al _ _ r3
  clear al r0 r1 r2 r3
  obtain ⟨I, inst, F, m0, hF0, hFb, hFc⟩ := op_later_family W2
  have hFW := fun i => hB2.trans ((hFb i).mono hB2.size)
  have hFx := fun i => ((hFb i).block (W.heap.size + 1) hlt2).trans x2
  have t0 := fun i => (tbox_cells (hFx i)).1
  have t1 := fun i => (tbox_cells (hFx i)).2.1
  have hFP := fun j => h.later hc (hFW j)
  have b2 := fun j => (hFP j).cells.2.2.1
  have cb := fun j (q : Nat) (u : Value) (hq : W.cell? ⟨b, q, none⟩ = some u) => (World.cell?_of_block (a := ⟨b, q, none⟩) ((hFW j).block b (hp b hb).1)).trans hq
  have w0 := fun j => cb j _ _ q0
  have w1 := fun j => cb j _ _ q1
  have w2 := fun j => cb j _ _ q2
  have w3 := fun j => cb j _ _ q3
  have hG : Hid (∀ j, Calls Tryz.prog 108 #[.agg #[.int .i64 k0, .int .i64 n0, .string s0, .slice a0 l0 c0]] (F j) fun e w'' => e = .returned (.bool x.ground) ∧ ∃ m, w'' = F m) :=
    Lib.hid (fun j => (rground_at _ x (F j) (hT0.carry (fun b hb => (hFW j).block b (hp b hb).1) (fun b hb => Nat.lt_of_lt_of_le (hp b hb).1 (hFW j).size)) hsx).mono fun e w' hg => ⟨hg.1, hFc j _ hg.2⟩)
  rw [hm4] at hG
  have d2 : decide (n1 < 0) = false := decide_eq_false hm2
  have d3 : decide (c.lv ≤ n1) = false := decide_eq_false hm3
  have hnot : ∀ (x : Bool) (w : World), (Op.unary .not (.bool x)).run Tryz.prog w = .ok (.bool (!x)) w := fun _ _ => rfl
  have x0 : W2.heap[W.heap.size]? = some (.cells #[.int .i64 0, .int .i64 0, .string (ByteArray.mk #[]), .slice none 0 0] 24 (0, 0)) := by rw [hW2]; exact (Below.heap_alloc _ _ _ (by simp)).trans (alloc_new _ _)
  have hFz := fun i => ((hFb i).block W.heap.size (by omega)).trans x0
  have H := Lib.hid (And.intro hFW (And.intro hFP (And.intro hT0 hFz)))
  clear cb hFP hT0 hT1 q0 q1 q2 q3 hFb hFc hFW hk x2 hlt2 x0 hFz
  go_enter Tryz.func88, Tryz.ntmps88
  go_wp2_with fail
  rw [← hW2]
  refine op_region_fam F m0 hF0 (by kernel_rfl) (by kernel_rfl) ?_
  clear hF0 hW2
  repeat (go_big_quiet_step (first | (go_at_call 108; (with_reducible exact hG.out _))))
  refine wpQuiet_nil ?_
  intro _ hw'
  obtain ⟨nq, hw''⟩ := hw'
  subst hw''
  obtain ⟨hFW, hFP, hT0, hFz⟩ := H.out
  have hFW := hFW nq
  have hFP := hFP nq
  have hFz := hFz nq
  have hFx := hFx nq
  have t1 := t1 nq
  have w0 := w0 nq
  have w1 := w1 nq
  have w2 := w2 nq
  have w3 := w3 nq
  generalize F nq = X at *
  clear hG b2 t0 inst
  have hcap' : (0 : Int) < 2 := by decide
  obtain ⟨y0, y1, y2, y3⟩ := tbox_cells hFz
  have yf : ∀ j, X.frozen? ⟨W.heap.size, j, none⟩ = false := fun j => by simp [World.frozen?, hFz]
  have hbx : Below X.heap.size X (X.alloc (.cells #[.int .i64 k0, .int .i64 n0, .string s0, .slice a0 l0 c0] 24)) := bel_al (Below.refl _ _) _
  have g1 := (hbx.block _ (Array.getElem?_eq_some_iff.1 hFx).1).trans hFx
  have g0 := (hbx.block _ (Array.getElem?_eq_some_iff.1 hFz).1).trans hFz
  have g2 := alloc_new X (.cells #[.int .i64 k0, .int .i64 n0, .string s0, .slice a0 l0 c0] 24)
  obtain ⟨u0, u1, u2, u3⟩ := tbox_cells g1
  obtain ⟨j0, j1, j2, j3⟩ := tbox_cells g0
  have jf : ∀ j, (X.alloc (.cells #[.int .i64 k0, .int .i64 n0, .string s0, .slice a0 l0 c0] 24)).frozen? ⟨W.heap.size, j, none⟩ = false := fun j => by simp [World.frozen?, g0]
  have hPY := hFP.later hc hbx
  have hfY : Fr c W na (X.alloc (.cells #[.int .i64 k0, .int .i64 n0, .string s0, .slice a0 l0 c0] 24)) na := (Fr.below hFW).trans (Fr.below hbx)
  have hX1 : W.heap.size + 1 < X.heap.size := (Array.getElem?_eq_some_iff.1 hFx).1
  obtain ⟨Z, hZ, hzb, hP, hF, hkp, hsz⟩ := hPY.box4 hc h hfY (Nat.le_refl _) (h.new hc hfY.size (Nat.le_refl _) (by simp; omega)) g0 (.int .i64 4) (.int .i64 n1) (.string (ByteArray.mk #[])) (.slice (some ⟨X.heap.size, 0, none⟩) 1 1)
  have gz := (hkp X.heap.size (by omega)).trans g2
  have hZX : X.heap.size < Z.heap.size := (Array.getElem?_eq_some_iff.1 gz).1
  have hTx : TmIn (fun j => p j ∨ Nw c W Z na j) Z (.agg #[.int .i64 k0, .int .i64 n0, .string s0, .slice a0 l0 c0]) x := hT0.carry (fun j hj => (hF.keep j (hp j hj)).1) (fun j hj => .inl hj)
  have hTs := (one_ts gz (.inr ⟨h.new hc hF.size (by omega) hZX, by omega⟩) hTx).term (k := 4) (n := n1) (s := ByteArray.mk #[]) ⟨by decide, by decide⟩ hyn (Nat.zero_le _)
  obtain ⟨o0, o1, o2, o3⟩ := tbox_cells hzb
  have fin : FPost c W na nc i d ns p (.mk 4 n1 empB [x]) (.returned (.agg #[.int .i64 4, .int .i64 n1, .string (ByteArray.mk #[]), .slice (some ⟨X.heap.size, 0, none⟩) 1 1])) Z.drew := ⟨4, n1, ByteArray.mk #[], _, _, _, rfl, hP.later hc (Below.refl _ _).drew, hF.trans (Fr.below (Below.refl _ _).drew), TmIn.carry (A := Z) (B := Z.drew) (fun _ _ => rfl) (fun j hj => hj) hTs⟩
  have HF := Lib.hid fin
  clear fin hTs hTx hP hF hkp hPY hfY hzb gz hFP hFW hT0
  go_wp2_with fail
  go_region
  rw [← hZ]
  go_wp2_with fail
  refine bodyPost_ret (v := .agg #[.int .i64 4, .int .i64 n1, .string (ByteArray.mk #[]), .slice (some ⟨X.heap.size, 0, none⟩) 1 1]) (by simp [results, Tryz.f88, go_sem, o0, o1, o2, o3]) rfl ?_
  exact HF.out
theorem fun_at (nm : List UInt8) (hn : nm.length ≤ 4096) {p : Nat → Prop} (hp : ∀ j, p j → c.stays W na j) (ks : List Tm) (v : Value) (hk : TsIn p W v ks) (hsz : Tm.sizes ks ≤ 1000000) :
    Calls Tryz.prog 88 #[.pointer (some ⟨c.b, 0, none⟩), .string (strV nm), v] W (FOut c W na nc i d ns p (funG c.lv nm ks i ns)) := by
  have plain : (nm ≠ [64] ∨ ks.length ≠ 2) → Calls Tryz.prog 88 #[.pointer (some ⟨c.b, 0, none⟩), .string (strV nm), v] W (FPost c W na nc i d ns p (.mk 3 0 (strV nm) ks)) := fun hm => by
    obtain ⟨a, cap, rfl, -⟩ := id hk
    exact fun_plain c hc h nm hn hp ks a cap hk hm
  unfold funG
  split
  · rename_i x y
    by_cases e : nm = [64]
    · rw [if_pos e]
      subst e
      have hsx : x.size ≤ 1000000 := by rw [Tm.sizes_cons] at hsz; omega
      by_cases hm : y.kind ≠ 2 ∨ y.num < 0 ∨ c.lv ≤ y.num ∨ x.ground = false
      · rw [if_pos hm]; exact fun_bad c hc h hp x y v hk hsx hm
      · rw [if_neg hm]
        refine fun_seal c hc h hp x y v hk hsx (Decidable.byContradiction fun e => hm (.inl e)) (fun e => hm (.inr (.inl e))) (fun e => hm (.inr (.inr (.inl e)))) ?_
        cases hg : x.ground with
        | true => rfl
        | false => exact absurd (.inr (.inr (.inr hg))) hm
    · rw [if_neg e]; exact plain (.inl e)
  · rename_i hne
    exact plain (.inr fun e => by
      match ks, e with
      | [x, y], _ => exact hne x y rfl)
end
end Go.Proofs.YtfencolokfghfaaGreatDoor
