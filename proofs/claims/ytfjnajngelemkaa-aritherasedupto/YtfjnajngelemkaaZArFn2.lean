/-
  arith's value: a term is evaluated.
-/
import Derived.Test.YtfjnajngelemkaaZArE
import Derived.Defers
import Derived.Recover
import Derived.StillTailTactics
namespace Go.Proofs.Ytfjnajngelemkaa
open Go.RowKit Go.Shelf
open Classical
set_option linter.unusedVariables false
set_option linter.unusedSimpArgs false

/-- The kids of what is left are no greater. -/
theorem insp_kids {N : Nat} {σ : St} (h : σ.Ok) {T : Tm} (hs : T.size ≤ 2000000) : ∀ t ∈ ((σ.fin T).insp N).1.kids, t.size ≤ 2000000 := by
  have hf := fin_size h T
  have hf' : (σ.fin T).size ≤ 2000000 := by omega
  generalize σ.fin T = X at *
  intro t ht
  have key : ∀ (C : Tm) (u : Tm), u ∈ C.kids → u.size + 1 ≤ C.size := fun C u hu => by
    obtain ⟨k, n, s, ks⟩ := C
    have hu : u ∈ ks := hu
    have := Tm.size_le_sizes hu
    rw [Tm.size_mk]; omega
  by_cases h4 : X.kind = 4
  · rw [insp_pos h4] at ht
    have ht : t ∈ ((X.strip Nat.max (lvC N) 0).1.kids.map fun t => putT t ((X.strip Nat.max (lvC N) 0).2 : Nat)) := ht
    obtain ⟨u, hu, rfl⟩ := List.mem_map.1 ht
    have h1 := key _ _ hu
    have h2 := strip_size (N := N) X 0
    have h3 : (putT u ((X.strip Nat.max (lvC N) 0).2 : Nat)).size = u.size + 1 := by unfold putT; rw [Tm.size_mk, Tm.sizes_cons, Tm.sizes_nil]; omega
    omega
  · rw [insp_neg h4] at ht
    have := key X t ht
    omega
section
variable {p : Nat → Prop} {n₀ n₁ : Nat} {b lb N : Nat} {V L : Value} {σ : St} {rb : Nat}
set_option maxRecDepth 100000 in
set_option maxHeartbeats 4000000 in
theorem value_full {w : World} (H : EvSt p n₀ n₁ w b lb N V L σ rb) (v : Value) (T : Tm) (hv : Beside w rb v T) (lv : Nat) (hr : RunB w b lb rb lv 0) :
    Calls Try.prog 68 #[.pointer (some ⟨rb, 0, none⟩), v] w (EPost b lb rb (.bad 3 lv) w) := by
  obtain ⟨k, n, s, a, len, cap, ks, rfl, e, hlen, -⟩ := hv.form
  clear e
  obtain ⟨w2, hw2⟩ : ∃ w2, w2 = w.alloc (.cells #[.int .i64 k, .int .i64 n, .string s, .slice a len cap] 24) := ⟨_, rfl⟩
  have hb2 : Below w.heap.size w w2 := by rw [hw2]; exact (Below.refl _ w).alloc (Nat.le_refl _) _
  have hN2 : ButN rb w w2 := .of hb2
  have hr2 : RunB w2 b lb rb lv 0 := (hb2.block rb H.lt).trans hr
  obtain ⟨c0, c1, c2, c3, cf⟩ := run_cells hr2
  have c3 : w2.cell? ⟨rb, 3, none⟩ = some (.int .i64 2000) := c3
  have hf := afail_at 3 w2
  have HW := Lib.hid (And.intro hw2 (And.intro hN2 hr2))
  clear hw2 hb2 hN2 hr2 hv H hr hlen
  go_enter Try.func68, Try.ntmps68
  go_upto_region 1 with fail
  rw [← HW.out.1]
  go_wp2_with (go_at_call 81; refine hf.mono ?_; rintro e w1 ⟨he, rfl⟩; unfold afault at he; subst he)
  exact ⟨rfl, HW.out.2.1, rfl, _, HW.out.2.2⟩

set_option maxRecDepth 100000 in
set_option maxHeartbeats 8000000 in
theorem value_step {f : Nat} (IH : EvalAt p n₀ n₁ b lb N V L σ rb f)  {w : World} (H : EvSt p n₀ n₁ w b lb N V L σ rb) (v : Value) (T : Tm) (hv : Beside w rb v T) (hs : T.size ≤ 2000000) (lv left : Nat) (hlv : lv < N) (hr : RunB w b lb rb lv (left + 1)) (hlf : left ≤ f) (hl2 : left + 1 ≤ 2000) :
    Calls Try.prog 68 #[.pointer (some ⟨rb, 0, none⟩), v] w (EPost b lb rb (evX (σ.evl N f) left (max lv ((σ.fin T).insp N).2) ((σ.fin T).insp N).1) w) := by
  obtain ⟨k, n, s, a, len, cap, ks, rfl, e, hlen, -⟩ := hv.form
  clear e hlen
  obtain ⟨w2, hw2⟩ : ∃ w2, w2 = w.alloc (.cells #[.int .i64 k, .int .i64 n, .string s, .slice a len cap] 24) := ⟨_, rfl⟩
  have hb2 : Below w.heap.size w w2 := by rw [hw2]; exact (Below.refl _ w).alloc (Nat.le_refl _) _
  have hx2 : w2.heap[w.heap.size]? = some (.cells #[.int .i64 k, .int .i64 n, .string s, .slice a len cap] 24 (0, 0)) := by rw [hw2]; exact World.alloc_heap_new _ _
  have hN2 : ButN rb w w2 := .of hb2
  have hr2 : RunB w2 b lb rb lv (left + 1) := (hb2.block rb H.lt).trans hr
  have hlt := H.lt
  obtain ⟨q, hq⟩ : ∃ q : Int, q = 2000 - ((left + 1 : Nat) : Int) := ⟨_, rfl⟩
  have hq1 : q + 1 = 2000 - (left : Int) := by omega
  have hq0 : ¬ q = 2000 := by omega
  have hqb : -3 ≤ q ∧ q < 2000 := by omega
  obtain ⟨c0, c1, c2, c3, cf⟩ := run_cells hr2
  rw [← hq] at c3
  obtain ⟨w3, hw3⟩ : ∃ w3, w3 = w2.setCell ⟨rb, 3, none⟩ (.int .i64 (q + 1)) := ⟨_, rfl⟩
  have hN3 : ButN rb w w3 := by rw [hw3]; exact hN2.setAt 3 _
  have hr3 : RunB w3 b lb rb lv left := by
    have h := set_block (o := 3) hr2 (.int .i64 (q + 1))
    rw [← hw3, hq1] at h
    exact h
  have hx3 : w3.heap[w.heap.size]? = some (.cells #[.int .i64 k, .int .i64 n, .string s, .slice a len cap] 24 (0, 0)) := by rw [hw3]; exact (Below.heap_setCell _ _ _ _ (by simp; omega)).trans hx2
  have H3 := H.later hN3
  have hs3 : w3.heap.size = w.heap.size + 1 := by rw [hw3, hw2]; simp
  have hcall := inspect_at H3 (pT := fun c => c < w.heap.size ∧ c ≠ rb) (fun c hc => ⟨by omega, hc.2⟩) _ T (hv.carry (fun c hc => hN3.same c hc.1 hc.2) (fun _ hc => hc)) hs lv left hlv hr3
  have hX := insp_kids (N := N) H.st.ok hs
  have hil := (insp_jC H.ch.pos (σ.fin T)).2.2
  obtain ⟨x0, x1, x2, x3⟩ := tbox_cells hx3
  unfold IPost at hcall
  generalize ((σ.fin T).insp N).1 = X at *
  generalize ((σ.fin T).insp N).2 = m at *
  have hlm : max lv m < N := by omega
  generalize max lv m = lw at *
  generalize hR : evX (σ.evl N f) left lw X = R
  have HR := Lib.hid hR
  clear hR
  have hbr : w.heap.size ≠ rb := by omega
  have HW := Lib.hid (And.intro hw2 (And.intro hw3 (And.intro hN3 (And.intro hx3 (And.intro hlm (And.intro hX (And.intro hbr (And.intro H hs3))))))))
  have hw1 : wrap64 (q + 1) = q + 1 := by unfold wrap64; omega
  clear hw2 hw3 hN3 hx3 hlm hX hbr hb2 hx2 hN2 hr2 hr3 hv H hr hlt H3 hil hlv hq hq1 hqb hs hs3
  go_enter Try.func68, Try.ntmps68
  go_upto_region 1 with fail
  rw [← HW.out.1]
  go_upto_region 4 with fail
  rw [← HW.out.2.1]
  clear c0 c1 c2 c3 cf
  go_upto_region 5 with (go_at_call 82; refine hcall.mono ?_; clear hcall; rintro e w4 ⟨k5, n5, s5, a5, l5, c5, rfl, hX4, hr4, hN4⟩; have hb4 := hN4.box HW.out.2.2.2.2.2.2.1 HW.out.2.2.2.1; obtain ⟨y0, y1, y2, y3⟩ := tbox_cells hb4; have yf : ∀ j, w4.frozen? ⟨w.heap.size, j, none⟩ = false := (fun j => by simp [World.frozen?, hb4]))
  have hs3 := HW.out.2.2.2.2.2.2.2.2
  have hbr := HW.out.2.2.2.2.2.2.1
  obtain ⟨w5, hw5, hb5, hN5, ho5, hs5⟩ := ButN.four (HW.out.2.2.1.trans hN4) (Nat.le_refl _) hb4 (.int .i64 k5) (.int .i64 n5) (.string s5) (.slice a5 l5 c5)
  rw [← hw5]
  have hX5 : Beside w5 rb (.agg #[.int .i64 k5, .int .i64 n5, .string s5, .slice a5 l5 c5]) X := hX4.carry (fun c hc => ho5 c (by have := hc.2.2; omega)) (fun c hc => ⟨by rw [hs5]; exact hc.1, hc.2.1⟩)
  have hr5 : RunB w5 b lb rb lw left := (ho5 rb (Ne.symm hbr)).trans hr4
  have H5 := HW.out.2.2.2.2.2.2.2.1.later hN5
  have hXk := HW.out.2.2.2.2.2.1
  have hlw := HW.out.2.2.2.2.1
  obtain ⟨k_, n_, s_, a_, l_, c_, ks5, e, rfl, hl5, hkk, hnn, -⟩ := hX5.form
  simp only [Value.agg.injEq, Array.mk.injEq, List.cons.injEq, Value.int.injEq, Value.string.injEq, Value.slice.injEq, true_and, and_true] at e
  obtain ⟨rfl, rfl, rfl, rfl, rfl, rfl⟩ := e
  obtain ⟨f0, f1, f2, f3⟩ := tbox_cells hb5
  have hf8 := afail_at 8 w5
  have hf9 := afail_at 9 w5
  have HF := Lib.hid (And.intro hN5 (And.intro hr5 (And.intro hX5 (And.intro H5 (And.intro hnn (And.intro hXk hlw))))))
  clear hs3 hbr hw5 hb5 hN5 ho5 hs5 hX5 hr5 H5 HW hX4 hb4 hN4 hr4 y0 y1 y2 y3 yf x0 x1 x2 x3 hXk hlw hkk hnn
  by_cases k2 : k5 = 2
  · subst k2
    obtain rfl : R = .ok n5 lw left := HR.out.symm
    clear hf8 hf9 IH HR
    go_wp2_with fail
    go_ret
    exact ⟨HF.out.1, rfl, HF.out.2.1, HF.out.2.2.2.2.1⟩
  have d2 : (k5 == 2) = false := by simpa using k2
  by_cases k1 : k5 = 1
  · subst k1
    obtain rfl : R = .bad 8 lw := HR.out.symm
    clear hf9 IH k2 HR
    go_wp2_with (go_at_call 81; refine hf8.mono ?_; rintro e w1 ⟨he, rfl⟩; unfold afault at he; subst he)
    exact ⟨rfl, HF.out.1, rfl, _, HF.out.2.1⟩
  have d1 : (k5 == 1) = false := by simpa using k1
  by_cases k3 : k5 = 3
  · subst k3
    have hres : Calls Try.prog 83 #[.pointer (some ⟨rb, 0, none⟩), .agg #[.int .i64 3, .int .i64 n5, .string s5, .slice a5 l5 c5]] w5 (EPost b lb rb (evF (σ.evl N f) left lw s5 ks5) w5) := by
      obtain ⟨hN5, hr5, hX5, H5, hnn, hXk, hlw⟩ := HF.out
      match ks5, hX5, hXk with
      | [], hX5, hXk => exact result_none H5 _ _ hX5 (by decide : (0 : Nat) ≠ 1) (by decide : (0 : Nat) ≠ 2) lw left hr5
      | [t], hX5, hXk => exact result_one IH H5 _ 3 n5 s5 t hX5 (hXk t (by simp [Tm.kids])) lw left hlw hr5 hlf (by omega)
      | [t, u], hX5, hXk => exact result_two IH H5 _ 3 n5 s5 t u hX5 (hXk t (by simp [Tm.kids])) (hXk u (by simp [Tm.kids])) lw left hlw hr5 hlf (by omega)
      | t :: u :: x :: r, hX5, hXk => exact result_none H5 _ _ hX5 (by show (r.length + 1 + 1 + 1) ≠ 1; omega) (by show (r.length + 1 + 1 + 1) ≠ 2; omega) lw left hr5
    clear hf8 hf9 IH k2 k1 hlf hl2 hl5
    have hR : evF (σ.evl N f) left lw s5 ks5 = R := HR.out
    rw [hR] at hres
    clear hR HR
    cases R with
    | bad c l =>
      go_wp2_with (go_at_call 83; refine hres.mono ?_; rintro e w6 ⟨hN6, he, hr6⟩; unfold afault at he; subst he)
      exact ⟨rfl, HF.out.1.trans hN6, rfl, hr6⟩
    | ok n1 l1 r1 =>
      go_wp2_with (go_at_call 83; refine hres.mono ?_; rintro e w6 ⟨hN6, rfl, hr6, hn6⟩)
      go_ret
      exact ⟨HF.out.1.trans hN6, rfl, hr6, hn6⟩
  have d3 : (k5 == 3) = false := by simpa using k3
  have hev : evX (σ.evl N f) left lw (.mk k5 n5 s5 ks5) = .bad 9 lw := by
    unfold evX
    exact (if_neg k2).trans ((if_neg k1).trans (if_neg k3))
  obtain rfl : R = .bad 9 lw := HR.out.symm.trans hev
  clear HR hf8 IH k2 k1 k3 hev
  go_wp2_with (go_at_call 81; refine hf9.mono ?_; rintro e w1 ⟨he, rfl⟩; unfold afault at he; subst he)
  exact ⟨rfl, HF.out.1, rfl, _, HF.out.2.1⟩
theorem aval_at : ∀ f, EvalAt p n₀ n₁ b lb N V L σ rb f
  | 0 => by
    intro w v T lv left H hv hs hlv hr hlf hl2
    obtain rfl : left = 0 := by omega
    rw [evl_none]
    exact value_full H v T hv lv hr
  | f + 1 => by
    intro w v T lv left H hv hs hlv hr hlf hl2
    by_cases h0 : left = 0
    · subst h0
      rw [evl_none]
      exact value_full H v T hv lv hr
    · obtain ⟨l, rfl⟩ : ∃ l, left = l + 1 := ⟨left - 1, by omega⟩
      rw [evl_succ _ _ _ _ _ _ h0, Nat.add_sub_cancel]
      exact value_step (aval_at f) H v T hv hs lv l hlv hr (by omega) hl2
end
end Go.Proofs.Ytfjnajngelemkaa

namespace Go.Proofs.Ytfjnajngelemkaa
open Go.RowKit Go.Shelf Go.Maps
open Classical
set_option linter.unusedVariables false
set_option linter.unusedSectionVars false
set_option linter.unusedSimpArgs false

theorem frE (p0 p1 p2 p3 A B V : Value) : (#[p0, p1, p2, p3] ++ ((((Array.replicate 18 undef).setIfInBounds 3 A).setIfInBounds 4 B).setIfInBounds 5 V).setIfInBounds 0 V : Array Value) = #[p0, p1, p2, p3, V, undef, undef, A, B, V, undef, undef, undef, undef, undef, undef, undef, undef, undef, undef, undef, undef] := by
  simp [Array.replicate_succ]
set_option maxRecDepth 100000 in
set_option maxHeartbeats 4000000 in
/-- The deferred function, where nothing panicked. -/
theorem aidle_at (B rb : Nat) (lv : Nat) (x : Value) (w : World) (hl : w.cell? ⟨rb, 2, none⟩ = some (.int .i64 (lv : Int))) (h2 : w.cell? ⟨B + 2, 0, none⟩ = some x) (hf : w.frozen? ⟨B + 2, 0, none⟩ = false) :
    CallsD Try.prog 67 #[.pointer (some ⟨rb, 0, none⟩), .pointer (some ⟨B + 2, 0, none⟩), .pointer (some ⟨B + 1, 0, none⟩), .pointer (some ⟨B + 3, 0, none⟩)] .returning w fun e u' w' => e = .returned (.tuple #[]) ∧ u' = .returning ∧ w' = w.setCell ⟨B + 2, 0, none⟩ (.int .i64 (lv : Int)) := by
  obtain ⟨W1, hW1⟩ : ∃ W1, W1 = w.setCell ⟨B + 2, 0, none⟩ (.int .i64 (lv : Int)) := ⟨_, rfl⟩
  have HW := Lib.hid hW1
  rw [← hW1]
  clear hW1
  refine callsD_of_wpS Try.func67 rfl fun c₀ cs hu => ?_
  generalize hQ : bodyPostS _ _ _ _ _ = Q
  apply wpS_seq
  generalize hK : Exit.thenS _ _ = K
  apply wpS_region
  simp [wpOpsS, go_sem, Try.ntmps67, hl, h2, hf]
  subst hK
  rw [← HW.out]
  simp only [Exit.thenS]
  apply wpS_seq
  generalize hK : Exit.thenS _ _ = K
  apply wpS_region
  simp [wpOpsS, go_sem, recoverD, hu]
  subst hK
  simp only [Exit.thenS]
  refine wpS_of_wp ?_
  generalize hQ2 : (fun e a' w' => Q e a' _ w') = Q2
  have HQ := Lib.hid hQ
  have HQ2 := Lib.hid hQ2
  have HU := Lib.hid hu
  clear hQ hQ2 hu
  rw [frE]
  go_wp2
  have hu := HU.out
  rw [← HQ2.out, ← HQ.out]
  exact ⟨rfl, .returning, by rw [← hu], _, results_none rfl _ _ _, rfl, rfl, rfl⟩
theorem two_sets {Y : World} {B : Nat} {a1 a2 a3 : Value} {t1 t2 t3 : TypeId} (u1 : Y.heap[B + 1]? = some (.cells #[a1] t1 (0, 0))) (u2 : Y.heap[B + 2]? = some (.cells #[a2] t2 (0, 0))) (u3 : Y.heap[B + 3]? = some (.cells #[a3] t3 (0, 0))) (v1 v3 : Value) (hW : B + 4 ≤ Y.heap.size) :
    ∃ Z, Z = ((Y.setCell ⟨B + 1, 0, none⟩ v1).setCell ⟨B + 3, 0, none⟩ v3) ∧ Z.heap[B + 1]? = some (.cells #[v1] t1 (0, 0)) ∧ Z.heap[B + 2]? = some (.cells #[a2] t2 (0, 0)) ∧ Z.heap[B + 3]? = some (.cells #[v3] t3 (0, 0)) ∧ Below B Y Z := by
  have e2 := set_block (o := 0) u1 v1
  have o2 : ∀ j, j ≠ B + 1 → (Y.setCell ⟨B + 1, 0, none⟩ v1).heap[j]? = Y.heap[j]? := fun j hj => Below.heap_setCell _ _ _ _ hj
  have b2 : Below B Y (Y.setCell ⟨B + 1, 0, none⟩ v1) := (Below.refl B Y).setCell (p := ⟨B + 1, 0, none⟩) (by simp) v1
  generalize Y.setCell ⟨B + 1, 0, none⟩ v1 = X at *
  have e3 := set_block (o := 0) ((o2 (B + 3) (by omega)).trans u3) v3
  have o3 : ∀ j, j ≠ B + 3 → (X.setCell ⟨B + 3, 0, none⟩ v3).heap[j]? = X.heap[j]? := fun j hj => Below.heap_setCell _ _ _ _ hj
  have b3 : Below B Y (X.setCell ⟨B + 3, 0, none⟩ v3) := b2.setCell (p := ⟨B + 3, 0, none⟩) (by simp) v3
  exact ⟨_, rfl, (o3 _ (by omega)).trans e2, (o3 _ (by omega)).trans ((o2 _ (by omega)).trans u2), e3, b3⟩
set_option maxRecDepth 100000 in
set_option maxHeartbeats 4000000 in
/-- The deferred function, where an error was thrown. -/
theorem acaught_at (B rb : Nat) (lv : Nat) (code : Int) (w : World) (a1 a2 a3 : Value) (hl : w.cell? ⟨rb, 2, none⟩ = some (.int .i64 (lv : Int))) (hrb : B + 4 ≤ rb)
    (x1 : w.heap[B + 1]? = some (.cells #[a1] 2 (0, 0))) (x2 : w.heap[B + 2]? = some (.cells #[a2] 3 (0, 0))) (x3 : w.heap[B + 3]? = some (.cells #[a3] 27 (0, 0))) (hsz : B + 4 ≤ w.heap.size) :
    CallsD Try.prog 67 #[.pointer (some ⟨rb, 0, none⟩), .pointer (some ⟨B + 2, 0, none⟩), .pointer (some ⟨B + 1, 0, none⟩), .pointer (some ⟨B + 3, 0, none⟩)] (.panicking [{ v := .iface 104 (.agg #[.int .i64 code]), recovered := false }]) w fun e u' w' =>
      e = .returned (.tuple #[]) ∧ u' = .panicking [{ v := .iface 104 (.agg #[.int .i64 code]), recovered := true }] ∧ Below B w w' ∧ w'.heap[B + 1]? = some (.cells #[.int .i64 0] 2 (0, 0)) ∧ w'.heap[B + 2]? = some (.cells #[.int .i64 (lv : Int)] 3 (0, 0)) ∧ w'.heap[B + 3]? = some (.cells #[.int .i64 code] 27 (0, 0)) := by
  have h2 : w.cell? ⟨B + 2, 0, none⟩ = some a2 := by simp [World.cell?, x2]
  have hf : w.frozen? ⟨B + 2, 0, none⟩ = false := by simp [World.frozen?, x2]
  obtain ⟨W1, hW1⟩ : ∃ W1, W1 = w.setCell ⟨B + 2, 0, none⟩ (.int .i64 (lv : Int)) := ⟨_, rfl⟩
  have y2 : W1.heap[B + 2]? = some (.cells #[.int .i64 (lv : Int)] 3 (0, 0)) := by rw [hW1]; exact set_block (o := 0) x2 _
  have o1 : ∀ j, j ≠ B + 2 → W1.heap[j]? = w.heap[j]? := fun j hj => by rw [hW1]; exact Below.heap_setCell _ _ _ _ hj
  have y1 := (o1 (B + 1) (by omega)).trans x1
  have y3 := (o1 (B + 3) (by omega)).trans x3
  have b1 : Below B w W1 := by rw [hW1]; exact (Below.refl B w).setCell (p := ⟨B + 2, 0, none⟩) (by simp) _
  have s1 : W1.heap.size = w.heap.size := by rw [hW1]; simp
  have hta : ∀ (x : Value) (w : World), (Instr.typeAssert (.iface 104 (.agg #[x])) 20 104 true).run Try.prog w = .ok (.tuple #[.agg #[x], .bool true]) w := fun x w => by kernel_rfl
  have hzf : ∀ w, (zeroValue 104).run Try.prog w = .ok (.agg #[.int .i64 0]) w := fun w => by kernel_rfl
  have hnot : ∀ (x : Bool) (w : World), (Op.unary .not (.bool x)).run Try.prog w = .ok (.bool (!x)) w := fun _ _ => rfl
  obtain ⟨Y, hY⟩ : ∃ Y, Y = W1.alloc (.cells #[.int .i64 code] 104) := ⟨_, rfl⟩
  have bY : Below W1.heap.size W1 Y := by rw [hY]; exact (Below.refl _ _).alloc (Nat.le_refl _) _
  have xY : Y.heap[W1.heap.size]? = some (.cells #[.int .i64 code] 104 (0, 0)) := by rw [hY]; exact World.alloc_heap_new _ _
  have u1 := (bY.block (B + 1) (by omega)).trans y1
  have u2 := (bY.block (B + 2) (by omega)).trans y2
  have u3 := (bY.block (B + 3) (by omega)).trans y3
  have k1 : Y.cell? ⟨B + 1, 0, none⟩ = some a1 := by simp [World.cell?, u1]
  have k3 : Y.cell? ⟨B + 3, 0, none⟩ = some a3 := by simp [World.cell?, u3]
  have kY : Y.cell? ⟨W1.heap.size, 0, none⟩ = some (.int .i64 code) := by simp [World.cell?, xY]
  have g1 : Y.frozen? ⟨B + 1, 0, none⟩ = false := by simp [World.frozen?, u1]
  have g3 : Y.frozen? ⟨B + 3, 0, none⟩ = false := by simp [World.frozen?, u3]
  have n1 : B + 1 ≠ W1.heap.size := by omega
  have n3 : B + 3 ≠ W1.heap.size := by omega
  have bwY : Below B w Y := b1.trans (bY.mono (by omega))
  have sY : B + 4 ≤ Y.heap.size := by have := bY.size; omega
  have HW := Lib.hid hW1
  have HX := Lib.hid (And.intro u1 (And.intro u2 (And.intro u3 (And.intro bwY sY))))
  clear hW1 y1 y2 y3 o1 b1 s1 bY xY u1 u2 u3 bwY sY x1 x2 x3 hsz
  refine callsD_of_wpS Try.func67 rfl fun c₀ cs hu => ?_
  generalize hQ : bodyPostS _ _ _ _ _ = Q
  apply wpS_seq
  generalize hK : Exit.thenS _ _ = K
  apply wpS_region
  simp [wpOpsS, go_sem, Try.ntmps67, hl, h2, hf]
  subst hK
  rw [← HW.out]
  simp only [Exit.thenS]
  apply wpS_seq
  generalize hK : Exit.thenS _ _ = K
  apply wpS_region
  simp [wpOpsS, go_sem, recoverD, hu]
  subst hK
  simp only [Exit.thenS]
  refine wpS_of_wp ?_
  generalize hQ2 : (fun e a' w' => Q e a' _ w') = Q2
  have HQ := Lib.hid hQ
  have HQ2 := Lib.hid hQ2
  have HU := Lib.hid hu
  clear hQ hQ2 hu
  rw [frE]
  go_wp2
  rw [← hY]
  clear hY
  generalize W1.heap.size = S at *
  obtain ⟨u1, u2, u3, bwY, sY⟩ := HX.out
  obtain ⟨Z, hZ, r1, r2, r3, bZ⟩ := two_sets u1 u2 u3 (.int .i64 0) (.int .i64 code) sY
  go_region
  rw [← hZ, ← HQ2.out, ← HQ.out]
  exact ⟨rfl, _, rfl, _, results_none rfl _ _ _, rfl, rfl, (bwY.trans bZ).drew, r1, r2, r3⟩
/-- A lattice of levels, a store, and a term: what Eval answers. -/
def EvalP (r : ER) (w : World) (e : Ending) (w' : World) : Prop := e = .returned (.tuple #[.int .i64 r.num, .int .i64 (r.lv : Int), .int .i64 r.err]) ∧ Below w.heap.size w w'
theorem zeroN (w : World) : (zeroValue 2).run Try.prog w = .ok (.int .i64 0) w := by kernel_rfl
theorem zeroErr (w : World) : (zeroValue 27).run Try.prog w = .ok (.int .i64 0) w := by kernel_rfl
theorem zeroRun (w : World) : (zeroValue 102).run Try.prog w = .ok (.agg #[.pointer none, .pointer none, .int .i64 0, .int .i64 0]) w := by kernel_rfl
theorem three_sets {W : World} {B rb : Nat} {a1 a2 a3 : Value} {o : Obj} {t1 t2 t3 : TypeId} (u1 : W.heap[B + 1]? = some (.cells #[a1] t1 (0, 0))) (u2 : W.heap[B + 2]? = some (.cells #[a2] t2 (0, 0))) (u3 : W.heap[B + 3]? = some (.cells #[a3] t3 (0, 0))) (ur : W.heap[rb]? = some o) (hr : B + 4 ≤ rb) (v1 v2 v3 : Value) :
    ∃ Z, Z = ((W.setCell ⟨B + 1, 0, none⟩ v1).setCell ⟨B + 2, 0, none⟩ v2).setCell ⟨B + 3, 0, none⟩ v3 ∧ Z.heap[B + 1]? = some (.cells #[v1] t1 (0, 0)) ∧ Z.heap[B + 2]? = some (.cells #[v2] t2 (0, 0)) ∧ Z.heap[B + 3]? = some (.cells #[v3] t3 (0, 0)) ∧ Z.heap[rb]? = some o ∧ Below B W Z ∧ Z.heap.size = W.heap.size := by
  have e1 := set_block (o := 0) u1 v1
  have o1 : ∀ j, j ≠ B + 1 → (W.setCell ⟨B + 1, 0, none⟩ v1).heap[j]? = W.heap[j]? := fun j hj => Below.heap_setCell _ _ _ _ hj
  have b1 : Below B W (W.setCell ⟨B + 1, 0, none⟩ v1) := (Below.refl B W).setCell (p := ⟨B + 1, 0, none⟩) (by simp) v1
  have s1 : (W.setCell ⟨B + 1, 0, none⟩ v1).heap.size = W.heap.size := by simp
  generalize W.setCell ⟨B + 1, 0, none⟩ v1 = X at *
  have e2 := set_block (o := 0) ((o1 (B + 2) (by omega)).trans u2) v2
  have o2 : ∀ j, j ≠ B + 2 → (X.setCell ⟨B + 2, 0, none⟩ v2).heap[j]? = X.heap[j]? := fun j hj => Below.heap_setCell _ _ _ _ hj
  have b2 : Below B W (X.setCell ⟨B + 2, 0, none⟩ v2) := b1.setCell (p := ⟨B + 2, 0, none⟩) (by simp) v2
  have s2 : (X.setCell ⟨B + 2, 0, none⟩ v2).heap.size = X.heap.size := by simp
  generalize X.setCell ⟨B + 2, 0, none⟩ v2 = Y at *
  have e3 := set_block (o := 0) ((o2 (B + 3) (by omega)).trans ((o1 (B + 3) (by omega)).trans u3)) v3
  have o3 : ∀ j, j ≠ B + 3 → (Y.setCell ⟨B + 3, 0, none⟩ v3).heap[j]? = Y.heap[j]? := fun j hj => Below.heap_setCell _ _ _ _ hj
  have b3 : Below B W (Y.setCell ⟨B + 3, 0, none⟩ v3) := b2.setCell (p := ⟨B + 3, 0, none⟩) (by simp) v3
  have s3 : (Y.setCell ⟨B + 3, 0, none⟩ v3).heap.size = Y.heap.size := by simp
  exact ⟨_, rfl, (o3 _ (by omega)).trans ((o2 _ (by omega)).trans e1), (o3 _ (by omega)).trans e2, e3, (o3 _ (by omega)).trans ((o2 _ (by omega)).trans ((o1 _ (by omega)).trans ur)), b3, by omega⟩
/-- What lies behind an evaluation that came to a number. -/
theorem eval_mid {w w4 w5 w7 : World} {b lb lv left : Nat} (hb4 : Below w.heap.size w w4) (hs4 : w4.heap.size = w.heap.size + 4) (x1 : w4.heap[w.heap.size + 1]? = some (.cells #[.int .i64 0] 2 (0, 0))) (x2 : w4.heap[w.heap.size + 2]? = some (.cells #[.int .i64 0] 3 (0, 0))) (x3 : w4.heap[w.heap.size + 3]? = some (.cells #[.int .i64 0] 27 (0, 0)))
    (hb5 : Below w4.heap.size w4 w5) (hN7 : ButN w5.heap.size (w5.alloc (.cells #[.pointer (some ⟨b, 0, none⟩), .pointer (some ⟨lb, 0, none⟩), .int .i64 0, .int .i64 0] 102)) w7) (hr7 : RunB w7 b lb w5.heap.size lv left) :
    Below w.heap.size w w7 ∧ w.heap.size + 4 ≤ w5.heap.size ∧ w7.heap[w.heap.size + 1]? = some (.cells #[.int .i64 0] 2 (0, 0)) ∧ w7.heap[w.heap.size + 2]? = some (.cells #[.int .i64 0] 3 (0, 0)) ∧ w7.heap[w.heap.size + 3]? = some (.cells #[.int .i64 0] 27 (0, 0)) ∧ w5.heap.size < w7.heap.size := by
  have hs5 := hb5.size
  have hb56 : Below w5.heap.size w5 (w5.alloc (.cells #[.pointer (some ⟨b, 0, none⟩), .pointer (some ⟨lb, 0, none⟩), .int .i64 0, .int .i64 0] 102)) := (Below.refl _ _).alloc (Nat.le_refl _) _
  have hb46 := hb5.trans (hb56.mono hb5.size)
  have hb6 := hb4.trans (hb46.mono hb4.size)
  have hs6 : (w5.alloc (.cells #[.pointer (some ⟨b, 0, none⟩), .pointer (some ⟨lb, 0, none⟩), .int .i64 0, .int .i64 0] 102)).heap.size = w5.heap.size + 1 := by simp
  have hs7 := hN7.size
  exact ⟨hb6.trans (hN7.below (by omega) (by omega)), by omega, (hN7.same (w.heap.size + 1) (by omega) (by omega)).trans ((hb46.block _ (by omega)).trans x1), (hN7.same (w.heap.size + 2) (by omega) (by omega)).trans ((hb46.block _ (by omega)).trans x2), (hN7.same (w.heap.size + 3) (by omega) (by omega)).trans ((hb46.block _ (by omega)).trans x3), by omega⟩
set_option maxRecDepth 100000 in
set_option maxHeartbeats 4000000 in
theorem aeval_at {n₀ N : Nat} {w : World} {b lb : Nat} {V L : Value} {σ : St} (h : StAt (Oth w b V L) n₀ w b V L σ) (hL : ChainAt w lb N) (v : Value) (T : Tm) (hv : Has w v T) (hs : T.size ≤ 2000000) :
    Calls Try.prog 32 #[.pointer (some ⟨b, 0, none⟩), .pointer (some ⟨lb, 0, none⟩), v] w (EvalP (σ.evl N 2000 2000 0 T) w) := by
  obtain ⟨k, n, s, a, len, cap, ks, rfl, e, hlen, -⟩ := hv.form
  clear e hlen
  obtain ⟨w4, hw4⟩ : ∃ w4, w4 = (((w.alloc (.cells #[.int .i64 k, .int .i64 n, .string s, .slice a len cap] 24)).alloc (.cells #[.int .i64 0] 2)).alloc (.cells #[.int .i64 0] 3)).alloc (.cells #[.int .i64 0] 27) := ⟨_, rfl⟩
  have hb4 : Below w.heap.size w w4 := by rw [hw4]; exact ((((Below.refl _ w).alloc (Nat.le_refl _) _).alloc (by simp) _).alloc (by simp; omega) _).alloc (by simp; omega) _
  have hs4 : w4.heap.size = w.heap.size + 4 := by rw [hw4]; simp
  have x0 : w4.heap[w.heap.size]? = some (.cells #[.int .i64 k, .int .i64 n, .string s, .slice a len cap] 24 (0, 0)) := by
    rw [hw4]; exact (Below.heap_alloc _ _ _ (by simp <;> omega)).trans ((Below.heap_alloc _ _ _ (by simp <;> omega)).trans ((Below.heap_alloc _ _ _ (by simp)).trans (World.alloc_heap_new _ _)))
  have x1 : w4.heap[w.heap.size + 1]? = some (.cells #[.int .i64 0] 2 (0, 0)) := by
    rw [hw4]; exact (Below.heap_alloc _ _ _ (by simp <;> omega)).trans ((Below.heap_alloc _ _ _ (by simp)).trans (by simpa using World.alloc_heap_new (w.alloc (.cells #[.int .i64 k, .int .i64 n, .string s, .slice a len cap] 24)) (.cells #[.int .i64 0] 2)))
  have x2 : w4.heap[w.heap.size + 2]? = some (.cells #[.int .i64 0] 3 (0, 0)) := by
    rw [hw4]; exact (Below.heap_alloc _ _ _ (by simp)).trans (by simpa using World.alloc_heap_new ((w.alloc (.cells #[.int .i64 k, .int .i64 n, .string s, .slice a len cap] 24)).alloc (.cells #[.int .i64 0] 2)) (.cells #[.int .i64 0] 3))
  have x3 : w4.heap[w.heap.size + 3]? = some (.cells #[.int .i64 0] 27 (0, 0)) := by
    rw [hw4]; simpa using World.alloc_heap_new (((w.alloc (.cells #[.int .i64 k, .int .i64 n, .string s, .slice a len cap] 24)).alloc (.cells #[.int .i64 0] 2)).alloc (.cells #[.int .i64 0] 3)) (.cells #[.int .i64 0] 27)
  have hz1 := zeroN
  have hz2 := zeroInt
  have hz3 := zeroErr
  have hz4 := zeroRun
  have hmf : ∀ (fn : Fn) (first cap : Array Value) (w : World), (Instr.makeFunc fn first cap).run Try.prog w = .ok (.func fn first cap) w := fun _ _ _ _ => rfl
  have hbot := (ch_bottom (hL.below hb4)).mono (R' := fun e w' => e = .returned (.int .i64 0) ∧ Below w4.heap.size w4 w') (fun e w' h => h.below)
  -- the evaluation, in whatever world it begins
  have hev : ∀ w5 w6, Below w4.heap.size w4 w5 → w6 = w5.alloc (.cells #[.pointer (some ⟨b, 0, none⟩), .pointer (some ⟨lb, 0, none⟩), .int .i64 0, .int .i64 0] 102) →
      Calls Try.prog 68 #[.pointer (some ⟨w5.heap.size, 0, none⟩), .agg #[.int .i64 k, .int .i64 n, .string s, .slice a len cap]] w6 (EPost b lb w5.heap.size (σ.evl N 2000 2000 0 T) w6) := by
    intro w5 w6 h45 hw6
    have hb5 := hb4.trans (h45.mono hb4.size)
    have hb56 : Below w5.heap.size w5 w6 := by rw [hw6]; exact (Below.refl _ _).alloc (Nat.le_refl _) _
    have hb6 := hb5.trans (hb56.mono hb5.size)
    have hr6 : w6.heap[w5.heap.size]? = some (.cells #[.pointer (some ⟨b, 0, none⟩), .pointer (some ⟨lb, 0, none⟩), .int .i64 0, .int .i64 0] 102 (0, 0)) := by rw [hw6]; exact World.alloc_heap_new _ _
    have H6 : EvSt (Oth w b V L) n₀ w.heap.size w6 b lb N V L σ w5.heap.size := by
      refine ⟨h.below hb6, hL.below hb6, fun k hk => hk.1, h.lt, hL.lt, ?_, fun k hk => (h.rL.lt k hk).2, hb5.size, (Array.getElem?_eq_some_iff.1 hr6).1⟩
      intro k hk
      obtain ⟨xs, h1, _⟩ := h.rV
      exact (h1.lt k hk).2
    exact aval_at 2000 w6 _ T 0 2000 H6 (hv.carry (fun c hc => hb6.block c hc) (fun c hc => ⟨Nat.lt_of_lt_of_le hc hb6.size, by have := hb5.size; omega⟩)) hs hL.pos hr6 (Nat.le_refl _) (Nat.le_refl _)
  obtain ⟨q0, q1, q2, q3⟩ := tbox_cells x0
  have HW := Lib.hid (And.intro hw4 (And.intro hb4 (And.intro hs4 (And.intro x0 (And.intro x1 (And.intro x2 x3))))))
  clear hw4 hb4 hs4 x1 x2 x3 x0 h hL hv hs
  cases hE : σ.evl N 2000 2000 0 T with
  | bad c lv =>
    rw [hE] at hev
    clear hE
    go_enter_defers Try.func32, Try.ntmps32
    go_wp2_with (first
      | (go_at_call 19; rw [← HW.out.1]; refine hbot.mono ?_; clear hbot; rintro e w5 ⟨rfl, hb5⟩; obtain ⟨z0, z1, z2, z3⟩ := tbox_cells ((Below.heap_alloc w5 (.cells #[.pointer (some ⟨b, 0, none⟩), .pointer (some ⟨lb, 0, none⟩), .int .i64 0, .int .i64 0] 102) w.heap.size (by have := hb5.size; have := HW.out.2.2.1; omega)).trans ((hb5.block w.heap.size (by have := HW.out.2.2.1; omega)).trans HW.out.2.2.2.1)))
      | (go_at_call 68; refine (hev w5 _ hb5 rfl).mono ?_; rintro e w7 ⟨hN7, he, hr7⟩; unfold afault at he; subst he))
    obtain ⟨-, hb4, hs4, -, x1, x2, x3⟩ := HW.out
    have hs5 := hb5.size
    have hb56 : Below w5.heap.size w5 (w5.alloc (.cells #[.pointer (some ⟨b, 0, none⟩), .pointer (some ⟨lb, 0, none⟩), .int .i64 0, .int .i64 0] 102)) := (Below.refl _ _).alloc (Nat.le_refl _) _
    have hb46 := hb5.trans (hb56.mono hb5.size)
    have hb6 := hb4.trans (hb46.mono hb4.size)
    have hs6 : (w5.alloc (.cells #[.pointer (some ⟨b, 0, none⟩), .pointer (some ⟨lb, 0, none⟩), .int .i64 0, .int .i64 0] 102)).heap.size = w5.heap.size + 1 := by simp
    obtain ⟨left', hr7⟩ := hr7
    have y1 := (hN7.same (w.heap.size + 1) (by omega) (by omega)).trans ((hb46.block _ (by omega)).trans x1)
    have y2 := (hN7.same (w.heap.size + 2) (by omega) (by omega)).trans ((hb46.block _ (by omega)).trans x2)
    have y3 := (hN7.same (w.heap.size + 3) (by omega) (by omega)).trans ((hb46.block _ (by omega)).trans x3)
    have hB7 : Below w.heap.size w w7 := hb6.trans (hN7.below (by omega) (by omega))
    have hs7 := hN7.size
    obtain ⟨c0, c1, c2, c3, cf⟩ := run_cells hr7
    refine leaves_cons (f := 67) (args := #[.pointer (some ⟨w5.heap.size, 0, none⟩), .pointer (some ⟨w.heap.size + 2, 0, none⟩), .pointer (some ⟨w.heap.size + 1, 0, none⟩), .pointer (some ⟨w.heap.size + 3, 0, none⟩)]) (by simp) (by simp [go_sem]) ?_
    refine (acaught_at w.heap.size w5.heap.size lv c w7 _ _ _ c2 (by omega) y1 y2 y3 (by omega)).mono ?_
    rintro e u' w'' ⟨rfl, rfl, hbw, r1, r2, r3⟩
    have o1 : w''.cell? ⟨w.heap.size + 1, 0, none⟩ = some (.int .i64 0) := by simp [World.cell?, r1]
    have o2 : w''.cell? ⟨w.heap.size + 2, 0, none⟩ = some (.int .i64 (lv : Int)) := by simp [World.cell?, r2]
    have o3 : w''.cell? ⟨w.heap.size + 3, 0, none⟩ = some (.int .i64 c) := by simp [World.cell?, r3]
    have hfin : EvalP (.bad c lv) w (.returned (.tuple #[.int .i64 0, .int .i64 (lv : Int), .int .i64 c])) w'' := ⟨rfl, hB7.trans hbw⟩
    simp [Leaves, settle, results, Try.results32, go_sem, o1, o2, o3]
    exact hfin
  | ok n' lv left =>
    rw [hE] at hev
    clear hE
    go_enter_defers Try.func32, Try.ntmps32
    go_upto_region 4 with (first
      | (go_at_call 19; rw [← HW.out.1]; refine hbot.mono ?_; clear hbot; rintro e w5 ⟨rfl, hb5⟩; obtain ⟨z0, z1, z2, z3⟩ := tbox_cells ((Below.heap_alloc w5 (.cells #[.pointer (some ⟨b, 0, none⟩), .pointer (some ⟨lb, 0, none⟩), .int .i64 0, .int .i64 0] 102) w.heap.size (by have := hb5.size; have := HW.out.2.2.1; omega)).trans ((hb5.block w.heap.size (by have := HW.out.2.2.1; omega)).trans HW.out.2.2.2.1)))
      | (go_at_call 68; refine (hev w5 _ hb5 rfl).mono ?_; rintro e w7 ⟨hN7, rfl, hr7, hn7⟩; obtain ⟨hB7, hr5, y1, y2, y3, hl7⟩ := eval_mid HW.out.2.1 HW.out.2.2.1 HW.out.2.2.2.2.1 HW.out.2.2.2.2.2.1 HW.out.2.2.2.2.2.2 hb5 hN7 hr7; have k1 : w7.cell? ⟨w.heap.size + 1, 0, none⟩ = some (.int .i64 0) := (by simp [World.cell?, y1]); have g1 : w7.frozen? ⟨w.heap.size + 1, 0, none⟩ = false := (by simp [World.frozen?, y1])))
    obtain ⟨W8, hW8⟩ : ∃ W8, W8 = w7.setCell ⟨w.heap.size + 1, 0, none⟩ (.int .i64 n') := ⟨_, rfl⟩
    have u1 : W8.heap[w.heap.size + 1]? = some (.cells #[.int .i64 n'] 2 (0, 0)) := by rw [hW8]; exact set_block (o := 0) y1 _
    have o8 : ∀ j, j ≠ w.heap.size + 1 → W8.heap[j]? = w7.heap[j]? := fun j hj => by rw [hW8]; exact Below.heap_setCell _ _ _ _ hj
    have u2 := (o8 (w.heap.size + 2) (by omega)).trans y2
    have u3 := (o8 (w.heap.size + 3) (by omega)).trans y3
    have ur : RunB W8 b lb w5.heap.size lv left := (o8 _ (by omega)).trans hr7
    have hB8 : Below w.heap.size w W8 := by rw [hW8]; exact hB7.setCell (p := ⟨w.heap.size + 1, 0, none⟩) (Nat.le_succ _) _
    have hs8 : W8.heap.size = w7.heap.size := by rw [hW8]; simp
    rw [← hW8]
    obtain ⟨c0, c1, c2, c3, cf⟩ := run_cells ur
    have m1 : W8.cell? ⟨w.heap.size + 1, 0, none⟩ = some (.int .i64 n') := by simp [World.cell?, u1]
    have m2 : W8.cell? ⟨w.heap.size + 2, 0, none⟩ = some (.int .i64 0) := by simp [World.cell?, u2]
    have m3 : W8.cell? ⟨w.heap.size + 3, 0, none⟩ = some (.int .i64 0) := by simp [World.cell?, u3]
    have g1' : W8.frozen? ⟨w.heap.size + 1, 0, none⟩ = false := by simp [World.frozen?, u1]
    have g2' : W8.frozen? ⟨w.heap.size + 2, 0, none⟩ = false := by simp [World.frozen?, u2]
    have g3' : W8.frozen? ⟨w.heap.size + 3, 0, none⟩ = false := by simp [World.frozen?, u3]
    obtain ⟨Z, hZ, r1, r2, r3, rr, hBZ, hsZ⟩ := three_sets u1 u2 u3 ur (by omega) (.int .i64 n') (.int .i64 (lv : Int)) (.int .i64 0)
    have HF := Lib.hid (And.intro hB8 (And.intro r1 (And.intro r2 (And.intro r3 (And.intro rr (And.intro hBZ (And.intro hr5 hn7)))))))
    clear hW8 u1 u2 u3 o8 ur hB8 hs8 r1 r2 r3 rr hBZ hsZ y1 y2 y3 k1 g1 hB7 hl7 hN7 hr7 hev hr5 hn7 HW hb5
    go_region
    have hZ' : Z = (((W8.setCell ⟨w.heap.size + 1, 0, none⟩ (.int .i64 n')).setCell ⟨w.heap.size + 1 + 1, 0, none⟩ (.int .i64 (lv : Int))).setCell ⟨w.heap.size + 1 + 1 + 1, 0, none⟩ (.int .i64 0)) := hZ
    rw [← hZ']
    clear hZ hZ' c0 c1 c2 c3 cf m1 m2 m3 g1' g2' g3'
    go_wp2
    obtain ⟨hB8, r1, r2, r3, rr, hBZ, hr5, hn7⟩ := HF.out
    obtain ⟨D, hD⟩ : ∃ D, D = Z.drew := ⟨_, rfl⟩
    have hBD : Below w.heap.size w D := by rw [hD]; exact (hB8.trans hBZ).drew
    have d1 : D.heap[w.heap.size + 1]? = some (.cells #[.int .i64 n'] 2 (0, 0)) := by rw [hD]; exact r1
    have d2 : D.heap[w.heap.size + 2]? = some (.cells #[.int .i64 (lv : Int)] 3 (0, 0)) := by rw [hD]; exact r2
    have d3 : D.heap[w.heap.size + 3]? = some (.cells #[.int .i64 0] 27 (0, 0)) := by rw [hD]; exact r3
    have dr : RunB D b lb w5.heap.size lv left := by rw [hD]; exact rr
    obtain ⟨c0, c1, c2, c3, cf⟩ := run_cells dr
    have e2 : D.cell? ⟨w.heap.size + 2, 0, none⟩ = some (.int .i64 (lv : Int)) := by simp [World.cell?, d2]
    have f2 : D.frozen? ⟨w.heap.size + 2, 0, none⟩ = false := by simp [World.frozen?, d2]
    rw [← hD]
    refine leaves_cons (f := 67) (args := #[.pointer (some ⟨w5.heap.size, 0, none⟩), .pointer (some ⟨w.heap.size + 2, 0, none⟩), .pointer (some ⟨w.heap.size + 1, 0, none⟩), .pointer (some ⟨w.heap.size + 3, 0, none⟩)]) (by simp) (by simp [go_sem]) ?_
    refine (aidle_at w.heap.size w5.heap.size lv _ D c2 e2 f2).mono ?_
    rintro e u' w'' ⟨rfl, rfl, hw''⟩
    have o1 : w''.heap[w.heap.size + 1]? = some (.cells #[.int .i64 n'] 2 (0, 0)) := by rw [hw'']; exact (Below.heap_setCell _ _ _ _ (by simp)).trans d1
    have o2 : w''.heap[w.heap.size + 2]? = some (.cells #[.int .i64 (lv : Int)] 3 (0, 0)) := by rw [hw'']; exact set_block (o := 0) d2 _
    have o3 : w''.heap[w.heap.size + 3]? = some (.cells #[.int .i64 0] 27 (0, 0)) := by rw [hw'']; exact (Below.heap_setCell _ _ _ _ (by simp)).trans d3
    have hBw : Below w.heap.size w w'' := by rw [hw'']; exact hBD.setCell (p := ⟨w.heap.size + 2, 0, none⟩) (by simp) _
    have p1 : w''.cell? ⟨w.heap.size + 1, 0, none⟩ = some (.int .i64 n') := by simp [World.cell?, o1]
    have p2 : w''.cell? ⟨w.heap.size + 2, 0, none⟩ = some (.int .i64 (lv : Int)) := by simp [World.cell?, o2]
    have p3 : w''.cell? ⟨w.heap.size + 3, 0, none⟩ = some (.int .i64 0) := by simp [World.cell?, o3]
    have hfin : EvalP (.ok n' lv left) w (.returned (.tuple #[.int .i64 n', .int .i64 (lv : Int), .int .i64 0])) w'' := ⟨rfl, hBw⟩
    clear hw'' HF
    simp [Leaves, settle, results, Try.results32, go_sem, p1, p2, p3]
    exact hfin
end Go.Proofs.Ytfjnajngelemkaa
