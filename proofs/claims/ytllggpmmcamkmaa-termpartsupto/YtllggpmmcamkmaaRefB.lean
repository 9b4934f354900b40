/-
  The reference's Deep, gather and Vars.
-/
import Derived.Test.YtllggpmmcamkmaaOwnI
import Derived.Deep.RegionHeld3
namespace Go.Proofs.Ytllggpmmcamkmaa
open Go.RowKit Go.Shelf
set_option linter.unusedVariables false

theorem deeps_app : ∀ xs ys : List Tm, Tm.deeps (xs ++ ys) = max (Tm.deeps xs) (Tm.deeps ys)
  | [], ys => by simp [Tm.deeps_nil]
  | x :: xs, ys => by rw [List.cons_append, Tm.deeps_cons, Tm.deeps_cons, deeps_app xs ys]; omega
theorem take_succ_deeps' (ks : List Tm) (i : Nat) (t : Tm) (h : ks[i]? = some t) : Tm.deeps (ks.take (i + 1)) = max (Tm.deeps (ks.take i)) t.deep := by
  rw [List.take_add_one, h, deeps_app]; simp [Tm.deeps_cons, Tm.deeps_nil]

set_option maxRecDepth 100000 in
set_option maxHeartbeats 1000000 in
theorem rdeep_at (T : Tm) : ∀ (v : Value) (w : World), Has w v T → T.size ≤ 1000000000000 → Calls Try.prog 17 #[v] w (Gets w (.int .i64 (T.deep : Int))) := by
  induction T using Tm.ind with
  | h k n s ks ih =>
    intro v w hv hs
    obtain ⟨k_, n_, s_, a, len, cap, ks_, rfl, e, rfl, hk, hn, hs', hc, hm, ha⟩ := hv.form
    injection e with e1 e2 e3 e4
    subst e1 e2 e3 e4
    have hdle := (Tm.mk k n s ks).deep_le
    rw [Tm.size_mk] at hs hdle
    rw [Tm.deep_mk] at hdle ⊢
    have hlen : ks.length ≤ 1000000000000 := by have := Tm.length_le_sizes ks; omega
    obtain ⟨w1, hw1⟩ : ∃ w1, w1 = w.alloc (.cells #[.int .i64 k, .int .i64 n, .string s, .slice a ks.length cap] 24) := ⟨_, rfl⟩
    have hB1 : Below w.heap.size w w1 := by rw [hw1]; exact (Below.refl _ w).alloc (Nat.le_refl _) _
    have hbox : w1.heap[w.heap.size]? = some (.cells #[.int .i64 k, .int .i64 n, .string s, .slice a ks.length cap] 24 (0, 0)) := by rw [hw1]; exact World.alloc_heap_new _ _
    go_enter Try.func17, Try.ntmps17
    have HH := Lib.hid (And.intro hs (And.intro hB1 hbox))
    have HW := Lib.hid hw1
    clear hs hB1 hbox hw1
    go_wp2_with fail
    rw [← HW.out]
    go_loopw [3, 4] (fun x i wr => ∃ c : Nat, x = .int .i64 ((Tm.deeps (ks.take c) : Nat) : Int) ∧ i = .int .i64 c ∧ c ≤ ks.length ∧ Below w1.heap.size w1 wr) (fun _ i _ => ks.length - (intOf i).toNat)
    case atStart => exact ⟨0, by simp [Tm.deeps_nil], rfl, Nat.zero_le _, Below.refl _ _⟩
    case round =>
      obtain ⟨c, rfl, rfl, hcl, hB⟩ := hrel
      have hbr := tbox_below HH.out.2.2 hB
      obtain ⟨b0, b1, b2, b3⟩ := tbox_cells hbr
      have hwr : Below w.heap.size w wr := HH.out.2.1.trans (hB.mono HH.out.2.1.size)
      by_cases hlt : c < ks.length
      · obtain ⟨b, o, k1, n1, s1, a1, l1, c1, T1, rfl, hbn, e0, e1, e2, e3, hT1, ht1⟩ := IsTm.kid hv c hlt
        have q0 := (hwr.cell (p := ⟨b, o + c * 4, none⟩) hbn).trans e0
        have q1 := (hwr.cell (p := ⟨b, o + c * 4 + 1, none⟩) hbn).trans e1
        have q2 := (hwr.cell (p := ⟨b, o + c * 4 + 2, none⟩) hbn).trans e2
        have q3 := (hwr.cell (p := ⟨b, o + c * 4 + 3, none⟩) hbn).trans e3
        have htd := take_succ_deeps' ks c T1 hT1
        have hs0 := HH.out.1
        have hsz1 := Tm.size_le_sizes (List.mem_of_getElem? hT1)
        obtain ⟨m, hm'⟩ : ∃ m, Tm.deeps (ks.take c) = m := ⟨_, rfl⟩
        obtain ⟨m1, hm1⟩ : ∃ m1, T1.deep = m1 := ⟨_, rfl⟩
        have hih := (ih T1 (List.mem_of_getElem? hT1) _ wr (IsTm.later hwr hwr.size ht1) (by omega)).mono (R' := fun e w2 => e = .returned (.int .i64 (m1 : Int)) ∧ Below w1.heap.size w1 w2) (fun e w2 h => ⟨by rw [← hm1]; exact h.1, hB.trans (h.2.mono hB.size)⟩)
        have HR := Lib.hid (And.intro htd (And.intro hm' hm1))
        clear ih hv e0 e1 e2 e3 ht1 htd hs0 hT1 hsz1
        rw [hm']
        clear hm' hm1
        go_wp2_with (go_at_call 17; refine hih.mono ?_; rintro e w2 ⟨rfl, hB2⟩)
        all_goals go_roundw
        all_goals first
          | (refine ⟨c + 1, ?_, by simp, hlt, hB2⟩
             rw [HR.out.1, HR.out.2.1, HR.out.2.2]
             exact congrArg (Value.int .i64) (by omega))
          | (simp [intOf]; omega)
      · have hce : c = ks.length := by omega
        subst hce
        clear ih hv
        rw [List.take_length]
        have hdi : ((Tm.deeps ks : Nat) : Int) ≤ 1000000000000 := by have := HH.out.1; omega
        go_wp2_with fail
        go_ret
        exact ⟨congrArg (fun x => Ending.returned (Value.int .i64 x)) (by omega), hwr⟩

/-- append, run, at numbers. -/
theorem run_append_ints {w : World} (ty : TypeId) (base : Nat) (v u : Value) (l r : List Int) (hown : OwnInts w base v l) (hr : IntsAt w u r) (hl : l.length + r.length ≤ 1000000000000) (hbase : base ≤ w.heap.size) :
    ∃ v' w', (Builtin.append_ #[32, 32] ty #[v, u]).run Try.prog w = .ok v' w' ∧ OwnInts w' base v' (l ++ r) ∧ w.grownBy w' v.ownBlock ∧ (v'.ownBlock = v.ownBlock ∨ v'.ownBlock = some w.heap.size) := by
  obtain ⟨i0, hi, hz0, hz1, hz2⟩ := info_parts infoInt
  obtain ⟨sa, c, rfl, h1, h2, h3, h4⟩ := hr
  cases sa with
  | none =>
    obtain rfl : r = [] := by
      cases r with
      | nil => rfl
      | cons p r => obtain ⟨_, _, e, _⟩ := h4 0 (by simp); cases e
    rw [h3 rfl]
    exact ⟨v, w, run_append_owned_none w base 32 ty 3 i0 1 Try.underlying32 hi v l.length (l.map (Value.int .i64)) hown, by rw [List.append_nil]; exact hown, ⟨rfl, rfl, rfl, Nat.le_refl _, fun _ _ _ => rfl⟩, Or.inl rfl⟩
  | some ad =>
    obtain ⟨v', w', hr, ho, hg, _, hat⟩ := run_append_own_at (P := Try.prog) w base 32 ty 3 i0 (.int .i64 0) 1 8 Try.underlying32 hi hz0 hz1 hz2 rfl (by decide) v l.length (l.map (Value.int .i64)) hown ad r.length c (r.map (Value.int .i64)) (by simp) (ints_cell h4) (by simp [Value.oneCell']) (by unfold maxLen; omega) (by omega) hbase
    exact ⟨v', w', hr, by unfold OwnInts; rw [List.length_append, List.map_append]; exact ho, hg, hat⟩
theorem step_append_ints {w : World} {ops : Array Oper} {o : Oper} {a : Act} {K : Act → World → Prop} {Q : Exit → Act → World → Prop} {E : Prop} (hgd : o.guard = none) (s x : Operand)
    (ho : o.op = .call { callee := .builtin .append, args := #[s, x], argTypes := #[32, 32] })
    (base : Nat) (v u : Value) (l r : List Int) (hs : a.eval s = v) (hx : a.eval x = u) (hown : OwnInts w base v l) (hsrc : IntsAt w u r) (hl : l.length + r.length ≤ 1000000000000) (hbase : base ≤ w.heap.size)
    (h : ∀ v' w', OwnInts w' base v' (l ++ r) → w.grownBy w' v.ownBlock → (v'.ownBlock = v.ownBlock ∨ v'.ownBlock = some w.heap.size) → K (a.put o.dst v') w') :
    if Region.wanted o (yielded ops a.tmps) = true then Oper.wp Try.prog o a w K Q else E := by
  have hw : Region.wanted o (yielded ops a.tmps) = true := by simp [Region.wanted, hgd]
  rw [if_pos hw]
  obtain ⟨v', w', hr, h2, h3, h4⟩ := run_append_ints o.type base v u l r hown hsrc hl hbase
  unfold Oper.wp execOp
  simp only [ho, resolve, invoke, builtin, Sem.run_bind, Sem.run_pure, Result.andThen_ok, List.map_toArray, List.map_cons, List.map_nil, hs, hx, hr]
  exact h v' w' h2 h3 h4

end Go.Proofs.Ytllggpmmcamkmaa
