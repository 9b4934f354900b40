/-
  seal.Join: the function that it makes, and what it answers.
-/
import Derived.Test.YtfjnajngelemkaaZSeal2n2
namespace Go.Proofs.Ytfjnajngelemkaa
open Go.RowKit Go.Shelf
set_option linter.unusedVariables false

theorem But.isTm {w0 w' : World} {B n₀ : Nat} (h : But w0 B w') (hn : n₀ ≤ w0.heap.size) (hB : n₀ ≤ B) {v : Value} {T : Tm} (ht : IsTm n₀ w0 v T) : IsTm n₀ w' v T :=
  TmIn.carry (fun b hb => h.same b (by have : b < n₀ := hb; omega) (by have : b < n₀ := hb; omega)) (fun b hb => hb) ht
theorem IsTm.has {n₀ : Nat} {W : World} {v : Value} {T : Tm} (h : IsTm n₀ W v T) (hn : n₀ ≤ W.heap.size) : Has W v T := TmIn.carry (fun _ _ => rfl) (fun b hb => by have : b < n₀ := hb; omega) h

/-- What the function that seal.Join makes has at hand: all but the level so far. -/
structure VisitAt (w : World) (n₀ b N B1 B2 B3 : Nat) : Prop where
  ch : ChainAt w b N
  bl : b < n₀
  l1 : n₀ ≤ B1
  l2 : n₀ ≤ B2
  l3 : n₀ ≤ B3
  n1 : B1 ≠ B2
  n3 : B3 ≠ B2
  l : w.heap[B1]? = some (.cells #[.pointer (some ⟨b, 0, none⟩)] 26 (0, 0))
  fn : w.heap[B3]? = some (.cells #[.func (.func 69) #[] #[.pointer (some ⟨B1, 0, none⟩), .pointer (some ⟨B2, 0, none⟩), .pointer (some ⟨B3, 0, none⟩)]] 107 (0, 0))
theorem VisitAt.but {w w' : World} {n₀ b N B1 B2 B3 : Nat} (h : VisitAt w n₀ b N B1 B2 B3) (k : But w B2 w') : VisitAt w' n₀ b N B1 B2 B3 :=
  ⟨h.ch.same (k.same b h.ch.lt (by have := h.bl; have := h.l2; omega)) k.size, h.bl, h.l1, h.l2, h.l3, h.n1, h.n3, (k.same B1 (Array.getElem?_eq_some_iff.1 h.l).1 h.n1).trans h.l, (k.same B3 (Array.getElem?_eq_some_iff.1 h.fn).1 h.n3).trans h.fn⟩

theorem zeroInt (w : World) : (zeroValue 3).run Try.prog w = .ok (.int .i64 0) w := by kernel_rfl
theorem zeroFn1 (w : World) : (zeroValue 107).run Try.prog w = .ok .nilFunc w := by kernel_rfl

set_option maxRecDepth 100000 in
set_option maxHeartbeats 4000000 in
theorem visit_at (n₀ b N B1 B2 B3 : Nat) (T : Tm) : ∀ (v : Value) (w : World) (j : Nat), VisitAt w n₀ b N B1 B2 B3 → w.heap[B2]? = some (.cells #[.int .i64 (j : Int)] 3 (0, 0)) → j < N → IsTm n₀ w v T → T.size ≤ 1000000000000 →
    Calls Try.prog 69 #[v, .pointer (some ⟨B1, 0, none⟩), .pointer (some ⟨B2, 0, none⟩), .pointer (some ⟨B3, 0, none⟩)] w fun e w' => e = .returned (.tuple #[]) ∧ But w B2 w' ∧ w'.heap[B2]? = some (.cells #[.int .i64 (T.jn Nat.max (lvC N) j : Nat)] 3 (0, 0)) ∧ T.jn Nat.max (lvC N) j < N := by
  induction T using Tm.ind with
  | h k n s ks ih =>
    intro v w j hV hlev hj hv hs
    have hB2 : B2 < w.heap.size := (Array.getElem?_eq_some_iff.1 hlev).1
    have hn₀ : n₀ ≤ w.heap.size := by have := hV.l2; omega
    obtain ⟨k_, n_, s_, a, len, cap, ks_, rfl, e, rfl, hk, hn, hs', hc, hm, ha⟩ := hv.form
    injection e with e1 e2 e3 e4
    subst e1 e2 e3 e4
    have hsz : ks.length ≤ 1000000000000 := by have := Tm.length_le_sizes ks; rw [Tm.size_mk] at hs; omega
    have hkl : ∀ t ∈ ks, t.size ≤ 1000000000000 := fun t ht => by have := Tm.size_le_sizes ht; rw [Tm.size_mk] at hs; omega
    obtain ⟨w2, hw2⟩ : ∃ w2, w2 = w.alloc (.cells #[.int .i64 k, .int .i64 n, .string s, .slice a ks.length cap] 24) := ⟨_, rfl⟩
    have hb2 : Below w.heap.size w w2 := by rw [hw2]; exact (Below.refl _ w).alloc (Nat.le_refl _) _
    have hx1 : w2.heap[w.heap.size]? = some (.cells #[.int .i64 k, .int .i64 n, .string s, .slice a ks.length cap] 24 (0, 0)) := by rw [hw2]; exact World.alloc_heap_new _ _
    have hu2 : But w B2 w2 := But.of hb2
    have hz := zeroTerm
    have hl2 := one_below hlev hb2
    rw [Tm.jn_mk]
    by_cases h4 : k = 4
    · subst h4
      rw [if_pos rfl]
      obtain ⟨I, inst, F, n0, hF0, hFb, hFc⟩ := later_family w2
      have hV2 := fun i => (hV.but hu2).but (But.of (hFb i))
      have K0 := fun i => (tbox_cells (tbox_below hx1 (hFb i))).1
      have K1 := fun i => (tbox_cells (tbox_below hx1 (hFb i))).2.1
      have K2 := fun i => (tbox_cells (tbox_below hx1 (hFb i))).2.2.1
      have K3 := fun i => (tbox_cells (tbox_below hx1 (hFb i))).2.2.2
      have K4 := fun i => one_cell (hV2 i).l
      have K5 := fun i => one_cell (one_below hl2 (hFb i))
      have K6 := fun i => one_free (one_below hl2 (hFb i))
      have C1 := Lib.hid (fun i => calls_fam hFc i (level_at _ 4 n s ks (F i) b N (hV2 i).ch (Has.below (Has.below (hv.has hn₀) hb2) (hFb i))))
      have hlv := lvC_lt hV.ch.pos n
      have C2 := Lib.hid (fun i => calls_fam hFc i ((ch_join (hV2 i).ch (x := j) (y := lvC N n) hj hlv).mono fun _ _ h => gets_of_reads h))
      have hJ : max j (lvC N n) < N := by omega
      obtain ⟨j1, hj1⟩ : ∃ j1, max j (lvC N n) = j1 := ⟨_, rfl⟩
      rw [show Nat.max j (lvC N n) = j1 from hj1]
      rw [hj1] at C2 hJ
      have HF := Lib.hid (fun i => (And.intro (hu2.below (hFb i)) (one_below hl2 (hFb i))))
      have HB := Lib.hid hw2
      have HI := Lib.hid (And.intro ih (And.intro hkl (And.intro hV (And.intro hv (And.intro hB2 hn₀)))))
      clear hb2 hx1 hu2 hl2 hV2 hFb hFc ih hkl hs hw2 hV hv hj hlv hj1 hlev
      go_enter Try.func69, Try.ntmps69
      go_wp2_with fail
      rw [← HB.out]
      refine wp_region_fam_last F n0 6 _ hF0 (by kernel_rfl) (by kernel_rfl) (by kernel_rfl) rfl ?_
      clear hF0
      simp only [List.take_succ_cons, List.take_zero]
      repeat (go_big_quiet_step (first | (go_at_call 70; exact C1.out _) | (go_at_call 61; exact C2.out _)))
      refine wpQuiet_nil ?_
      intro _ hw'
      obtain ⟨nq, hw''⟩ := hw'
      subst hw''
      have k3 := K3 nq
      have k5 := K5 nq
      have k6 := K6 nq
      clear K0 K1 K2 K3 K4 K5 K6 C1 C2
      have hne : w.heap.size ≠ B2 := by have := HI.out.2.2.2.2.1; omega
      have k3' : ((F nq).setCell ⟨B2, 0, none⟩ (.int .i64 (j1 : Int))).cell? ⟨w.heap.size, 3, none⟩ = some (.slice a ks.length cap) := (World.cell?_of_block (a := ⟨w.heap.size, 3, none⟩) (Below.heap_setCell (F nq) ⟨B2, 0, none⟩ (.int .i64 (j1 : Int)) w.heap.size hne)).trans k3
      go_wp2_with fail
      go_loopw [19] (fun i wr => ∃ c : Nat, i = .int .i64 c ∧ c ≤ ks.length ∧ But w B2 wr ∧ wr.heap[B2]? = some (.cells #[.int .i64 (Tm.jns Nat.max (lvC N) (ks.take c) j1 : Nat)] 3 (0, 0)) ∧ Tm.jns Nat.max (lvC N) (ks.take c) j1 < N) (fun i _ => ks.length - (intOf i).toNat)
      case atStart => exact ⟨0, rfl, Nat.zero_le _, (HF.out nq).1.set 0 _, by rw [List.take_zero, Tm.jns_nil]; exact set_block (o := 0) (HF.out nq).2 _, by rw [List.take_zero, Tm.jns_nil]; exact hJ⟩
      case round =>
        obtain ⟨c, rfl, hcl, hu, hlr, hjr⟩ := hrel
        obtain ⟨ih, hkl, hV, hv, hB2, hn₀⟩ := HI.out
        by_cases hlt : c < ks.length
        · obtain ⟨b', o, k', n', s', a', l', c', T1, rfl, hbn, c0, c1, c2, c3, hT1, ht1⟩ := IsTm.kid hv c hlt
          have hVl2 := hV.l2
          have q0 := hu.cell c0 (by omega) (by omega)
          have q1 := hu.cell c1 (by omega) (by omega)
          have q2 := hu.cell c2 (by omega) (by omega)
          have q3 := hu.cell c3 (by omega) (by omega)
          have hVr := hV.but hu
          have q4 := one_cell hVr.fn
          have hlt3 : B3 < wr.heap.size := (Array.getElem?_eq_some_iff.1 hVr.fn).1
          have q4' : ∀ ob : Obj, (wr.alloc ob).cell? ⟨B3, 0, none⟩ = some (.func (.func 69) #[] #[.pointer (some ⟨B1, 0, none⟩), .pointer (some ⟨B2, 0, none⟩), .pointer (some ⟨B3, 0, none⟩)]) := fun ob => (((Below.refl wr.heap.size wr).alloc (Nat.le_refl _) ob).cell (p := ⟨B3, 0, none⟩) hlt3).trans q4
          have hsucc : Tm.jns Nat.max (lvC N) (ks.take (c + 1)) j1 = T1.jn Nat.max (lvC N) (Tm.jns Nat.max (lvC N) (ks.take c) j1) := by
            rw [List.take_add_one, hT1, Tm.jns_append]; simp [Tm.jns_cons, Tm.jns_nil]
          have hnew : ∀ ob : Obj, Calls Try.prog 69 #[.agg #[.int .i64 k', .int .i64 n', .string s', .slice a' l' c'], .pointer (some ⟨B1, 0, none⟩), .pointer (some ⟨B2, 0, none⟩), .pointer (some ⟨B3, 0, none⟩)] (wr.alloc ob) fun e w4 => e = .returned (.tuple #[]) ∧ But w B2 w4 ∧ w4.heap[B2]? = some (.cells #[.int .i64 (Tm.jns Nat.max (lvC N) (ks.take (c + 1)) j1 : Nat)] 3 (0, 0)) ∧ Tm.jns Nat.max (lvC N) (ks.take (c + 1)) j1 < N := fun ob => by
            have hal : Below wr.heap.size wr (wr.alloc ob) := (Below.refl _ _).alloc (Nat.le_refl _) _
            have hua : But w B2 (wr.alloc ob) := hu.below hal
            refine (ih T1 (List.mem_of_getElem? hT1) _ (wr.alloc ob) _ (hV.but hua) (one_below hlr hal) hjr (hua.isTm hn₀ hVl2 ht1) (hkl T1 (List.mem_of_getElem? hT1))).mono fun e w4 h4 => ?_
            rw [hsucc]
            exact ⟨h4.1, hua.trans h4.2.1, h4.2.2.1, h4.2.2.2⟩
          clear ih hkl hv c0 c1 c2 c3 ht1 hlr hjr hsucc hu HI hVr q4 hT1
          go_wp2_with (go_at_call 69; refine (hnew _).mono ?_; clear hnew; rintro e w4 ⟨rfl, hu4, hl4, hj4⟩)
          go_roundw
          case rel => exact ⟨c + 1, by simp, hlt, hu4, hl4, hj4⟩
          case measure => simp [intOf]; omega
        · have hce : c = ks.length := by omega
          subst hce
          rw [List.take_length] at hlr hjr
          clear ih
          go_wp2_with fail
          go_end0
          exact ⟨rfl, hu, hlr, hjr⟩
    · rw [if_neg h4]
      have h4' : (k == 4) = false := by simpa using h4
      obtain ⟨j1, hj1⟩ : ∃ j1, j = j1 := ⟨_, rfl⟩
      subst hj1
      have hJ := hj
      obtain ⟨x0, x1, x2, x3⟩ := tbox_cells hx1
      have HF := Lib.hid (And.intro hu2 hl2)
      have HI := Lib.hid (And.intro ih (And.intro hkl (And.intro hV (And.intro hv (And.intro hB2 hn₀)))))
      have HB := Lib.hid hw2
      clear hb2 hx1 hu2 hl2 ih hkl hs hV hv hj hlev
      subst hw2
      go_enter Try.func69, Try.ntmps69
      go_wp2_with fail
      go_loopw [19] (fun i wr => ∃ c : Nat, i = .int .i64 c ∧ c ≤ ks.length ∧ But w B2 wr ∧ wr.heap[B2]? = some (.cells #[.int .i64 (Tm.jns Nat.max (lvC N) (ks.take c) j : Nat)] 3 (0, 0)) ∧ Tm.jns Nat.max (lvC N) (ks.take c) j < N) (fun i _ => ks.length - (intOf i).toNat)
      case atStart => exact ⟨0, rfl, Nat.zero_le _, HF.out.1, by rw [List.take_zero, Tm.jns_nil]; exact HF.out.2, by rw [List.take_zero, Tm.jns_nil]; exact hJ⟩
      case round =>
        obtain ⟨c, rfl, hcl, hu, hlr, hjr⟩ := hrel
        obtain ⟨ih, hkl, hV, hv, hB2, hn₀⟩ := HI.out
        by_cases hlt : c < ks.length
        · obtain ⟨b', o, k', n', s', a', l', c', T1, rfl, hbn, c0, c1, c2, c3, hT1, ht1⟩ := IsTm.kid hv c hlt
          have hVl2 := hV.l2
          have q0 := hu.cell c0 (by omega) (by omega)
          have q1 := hu.cell c1 (by omega) (by omega)
          have q2 := hu.cell c2 (by omega) (by omega)
          have q3 := hu.cell c3 (by omega) (by omega)
          have hVr := hV.but hu
          have q4 := one_cell hVr.fn
          have hlt3 : B3 < wr.heap.size := (Array.getElem?_eq_some_iff.1 hVr.fn).1
          have q4' : ∀ ob : Obj, (wr.alloc ob).cell? ⟨B3, 0, none⟩ = some (.func (.func 69) #[] #[.pointer (some ⟨B1, 0, none⟩), .pointer (some ⟨B2, 0, none⟩), .pointer (some ⟨B3, 0, none⟩)]) := fun ob => (((Below.refl wr.heap.size wr).alloc (Nat.le_refl _) ob).cell (p := ⟨B3, 0, none⟩) hlt3).trans q4
          have hsucc : Tm.jns Nat.max (lvC N) (ks.take (c + 1)) j = T1.jn Nat.max (lvC N) (Tm.jns Nat.max (lvC N) (ks.take c) j) := by
            rw [List.take_add_one, hT1, Tm.jns_append]; simp [Tm.jns_cons, Tm.jns_nil]
          have hnew : ∀ ob : Obj, Calls Try.prog 69 #[.agg #[.int .i64 k', .int .i64 n', .string s', .slice a' l' c'], .pointer (some ⟨B1, 0, none⟩), .pointer (some ⟨B2, 0, none⟩), .pointer (some ⟨B3, 0, none⟩)] (wr.alloc ob) fun e w4 => e = .returned (.tuple #[]) ∧ But w B2 w4 ∧ w4.heap[B2]? = some (.cells #[.int .i64 (Tm.jns Nat.max (lvC N) (ks.take (c + 1)) j : Nat)] 3 (0, 0)) ∧ Tm.jns Nat.max (lvC N) (ks.take (c + 1)) j < N := fun ob => by
            have hal : Below wr.heap.size wr (wr.alloc ob) := (Below.refl _ _).alloc (Nat.le_refl _) _
            have hua : But w B2 (wr.alloc ob) := hu.below hal
            refine (ih T1 (List.mem_of_getElem? hT1) _ (wr.alloc ob) _ (hV.but hua) (one_below hlr hal) hjr (hua.isTm hn₀ hVl2 ht1) (hkl T1 (List.mem_of_getElem? hT1))).mono fun e w4 h4 => ?_
            rw [hsucc]
            exact ⟨h4.1, hua.trans h4.2.1, h4.2.2.1, h4.2.2.2⟩
          clear ih hkl hv c0 c1 c2 c3 ht1 hlr hjr hsucc hu HI hVr q4 hT1
          go_wp2_with (go_at_call 69; refine (hnew _).mono ?_; clear hnew; rintro e w4 ⟨rfl, hu4, hl4, hj4⟩)
          go_roundw
          case rel => exact ⟨c + 1, by simp, hlt, hu4, hl4, hj4⟩
          case measure => simp [intOf]; omega
        · have hce : c = ks.length := by omega
          subst hce
          rw [List.take_length] at hlr hjr
          clear ih
          go_wp2_with fail
          go_end0
          exact ⟨rfl, hu, hlr, hjr⟩

set_option maxRecDepth 100000 in
set_option maxHeartbeats 2000000 in
theorem sjoin_at (v : Value) (T : Tm) (w : World) (b N : Nat) (hL : ChainAt w b N) (hv : Has w v T) (hs : T.size ≤ 1000000000000) : Calls Try.prog 34 #[.pointer (some ⟨b, 0, none⟩), v] w (Gets w (.int .i64 (T.jC N 0 : Nat))) := by
  obtain ⟨k, n, s, a, len, cap, ks, rfl, e, -⟩ := hv.form
  obtain ⟨w1, hw1⟩ : ∃ w1, w1 = ((w.alloc (.cells #[.pointer (some ⟨b, 0, none⟩)] 26)).alloc (.cells #[.int .i64 k, .int .i64 n, .string s, .slice a len cap] 24)) := ⟨_, rfl⟩
  have s1 : w1.heap.size = w.heap.size + 1 + 1 := by rw [hw1]; simp
  have b1 : Below w.heap.size w w1 := by rw [hw1]; exact ((Below.refl _ w).alloc (Nat.le_refl _) _).alloc (by simp) _
  have x1 : w1.heap[w.heap.size]? = some (.cells #[.pointer (some ⟨b, 0, none⟩)] 26 (0, 0)) := by rw [hw1]; exact (Below.heap_alloc _ _ _ (by simp)).trans (World.alloc_heap_new _ _)
  have x2 : w1.heap[w.heap.size + 1]? = some (.cells #[.int .i64 k, .int .i64 n, .string s, .slice a len cap] 24 (0, 0)) := by rw [hw1]; simpa using World.alloc_heap_new (w.alloc (.cells #[.pointer (some ⟨b, 0, none⟩)] 26)) (.cells #[.int .i64 k, .int .i64 n, .string s, .slice a len cap] 24)
  have hL1 := hL.below b1
  have y0 := one_cell x1
  have hbot := (ch_bottom hL1).mono (R' := fun e w' => e = .returned (.int .i64 0) ∧ Below w1.heap.size w1 w') (fun e w' h => h.below)
  have hz := zeroTerm
  have hzi := zeroInt
  have hnf := zeroFn1
  have hmf : ∀ (fn : Fn) (first cap : Array Value) (w : World), (Instr.makeFunc fn first cap).run Try.prog w = .ok (.func fn first cap) w := fun _ _ _ _ => rfl
  have HH := Lib.hid (And.intro hw1 (And.intro s1 (And.intro b1 (And.intro x1 (And.intro x2 (And.intro hL1 hv))))))
  clear s1 b1 x1 x2 hL1 hv e
  subst hw1
  go_enter Try.func34, Try.ntmps34
  go_wp2_with fail
  refine hbot.mono ?_
  clear hbot
  rintro e w2 ⟨rfl, hb12⟩
  obtain ⟨hw1, s1, b1, x1, x2, hL1, hv⟩ := HH.out
  generalize hW1 : ((w.alloc (.cells #[.pointer (some ⟨b, 0, none⟩)] 26)).alloc (.cells #[.int .i64 k, .int .i64 n, .string s, .slice a len cap] 24)) = w1 at *
  have b2 : Below w.heap.size w w2 := b1.trans (hb12.mono b1.size)
  obtain ⟨B2, hB2⟩ : ∃ B2, B2 = w2.heap.size := ⟨_, rfl⟩
  obtain ⟨w3, hw3⟩ : ∃ w3, w3 = w2.alloc (.cells #[.int .i64 0] 3) := ⟨_, rfl⟩
  obtain ⟨w4, hw4⟩ : ∃ w4, w4 = w3.alloc (.cells #[.func (.func 69) #[] #[.pointer (some ⟨w.heap.size, 0, none⟩), .pointer (some ⟨w2.heap.size, 0, none⟩), .pointer (some ⟨w2.heap.size + 1, 0, none⟩)]] 107) := ⟨_, rfl⟩
  have s3 : w3.heap.size = w2.heap.size + 1 := by rw [hw3]; simp
  have b23 : Below w2.heap.size w2 w3 := by rw [hw3]; exact (Below.refl _ _).alloc (Nat.le_refl _) _
  have b34 : Below w3.heap.size w3 w4 := by rw [hw4]; exact (Below.refl _ _).alloc (Nat.le_refl _) _
  have b24 : Below w2.heap.size w2 w4 := b23.trans (b34.mono b23.size)
  have b4 : Below w.heap.size w w4 := b2.trans (b24.mono b2.size)
  have b14 : Below w1.heap.size w1 w4 := hb12.trans (b24.mono hb12.size)
  have l3 : w3.heap[w2.heap.size]? = some (.cells #[.int .i64 0] 3 (0, 0)) := by rw [hw3]; exact World.alloc_heap_new _ _
  have f4 : w4.heap[w2.heap.size + 1]? = some (.cells #[.func (.func 69) #[] #[.pointer (some ⟨w.heap.size, 0, none⟩), .pointer (some ⟨w2.heap.size, 0, none⟩), .pointer (some ⟨w2.heap.size + 1, 0, none⟩)]] 107 (0, 0)) := by
    have := World.alloc_heap_new w3 (.cells #[.func (.func 69) #[] #[.pointer (some ⟨w.heap.size, 0, none⟩), .pointer (some ⟨w2.heap.size, 0, none⟩), .pointer (some ⟨w2.heap.size + 1, 0, none⟩)]] 107)
    rw [s3] at this
    rw [hw4]; exact this
  have hs2 : w.heap.size + 1 + 1 ≤ w2.heap.size := by have := hb12.size; omega
  have hV : VisitAt w4 w.heap.size b N w.heap.size w2.heap.size (w2.heap.size + 1) := ⟨hL1.below b14, hL.lt, Nat.le_refl _, by omega, by omega, by omega, by omega, one_below x1 b14, f4⟩
  have hcall := (visit_at w.heap.size b N _ _ _ T _ w4 0 hV (one_below l3 b34) (by have := hL.pos; omega) (IsTm.later b4 (Nat.le_refl _) hv) hs).mono (R' := fun e w5 => e = .returned (.tuple #[]) ∧ w5.cell? ⟨w2.heap.size, 0, none⟩ = some (.int .i64 (T.jC N 0 : Nat)) ∧ Below w.heap.size w w5) (fun e w5 h5 =>
    ⟨h5.1, one_cell h5.2.2.1, b4.trans (h5.2.1.isBelow (by omega) b4.size)⟩)
  obtain ⟨z0, z1, z2, z3⟩ := tbox_cells (tbox_below x2 b14)
  have z4 := one_cell f4
  clear HH hw1 s1 b1 x1 x2 hL1 hL hv hb12 hB2 s3 b23 b34 b24 b4 b14 l3 f4 hs2 hV b2 hW1 y0
  subst hw4
  subst hw3
  go_wp2_with (go_at_call 69; refine hcall.mono ?_; clear hcall; rintro e w5 ⟨rfl, c5, hB5⟩)
  go_ret
  exact ⟨rfl, hB5⟩

end Go.Proofs.Ytfjnajngelemkaa
