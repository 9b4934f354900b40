/-
  The law TermMakes: its walk.
-/
import Derived.Test.YtmbikojjhdildaaShown
import Derived.Test.YtmbikojjhdildaaLists
namespace Go.Proofs.Ytmbikojjhdildaa
open Go.RowKit Go.Shelf
open Classical
set_option linter.unusedVariables false

theorem Tm.deeps_append : ∀ xs ys : List Tm, Tm.deeps (xs ++ ys) = max (Tm.deeps xs) (Tm.deeps ys)
  | [], ys => by simp [Tm.deeps_nil]
  | x :: xs, ys => by rw [List.cons_append, Tm.deeps_cons, Tm.deeps_cons, Tm.deeps_append xs ys]; omega
theorem Tm.take_succ_deeps (ks : List Tm) (i : Nat) (t : Tm) (h : ks[i]? = some t) : Tm.deeps (ks.take (i + 1)) = max (Tm.deeps (ks.take i)) t.deep := by
  rw [List.take_add_one, h, Tm.deeps_append]; simp [Tm.deeps_cons, Tm.deeps_nil]
theorem below_alloc {a w : World} (h : Below a.heap.size a w) (o : Obj) : Below a.heap.size a (w.alloc o) := h.alloc h.size o
theorem leaf_vars (x : Int) (s : ByteArray) : (Tm.mk 1 x s []).vars = [x] := by
  rw [Tm.vars, Tm.parts_mk, Tm.partss_nil]; rfl
theorem deeps_le_sizes (ks : List Tm) : Tm.deeps ks ≤ Tm.sizes ks := Tm.deeps_le ks fun t _ => t.deep_le

set_option maxRecDepth 100000 in
set_option maxHeartbeats 4000000 in
theorem termMakes_at (s : ByteArray) (v : Value) (ks : List Tm) (n z : Int) (w : World) (hs : s.size ≤ maxLen) (hv : HasTs w v ks) (hz : Tm.sizes ks ≤ 1000000000) (hn : i64ok n) (hz0 : 0 ≤ z) (hz1 : z ≤ 65535) :
    Calls Try.prog 5 #[.string s, v, .int .i64 n, .int .u16 z] w fun r w' => r = .returned (.bool true) ∧ Below w.heap.size w w' := by
  obtain ⟨a, cap, rfl, hc, hm, ha, hx⟩ := id hv
  have hlen : ks.length ≤ 1000000000 := by have := Tm.length_le_sizes ks; omega
  have HV := Lib.hid (And.intro hv hx)
  clear hv hx
  go_enter Try.func5, Try.ntmps5
  go_wp2_with fail
  refine (shown_at w).mono ?_
  rintro r w1 ⟨rfl, hb⟩
  have HB1 := Lib.hid hb
  clear hb
  go_wp2_with fail
  go_loopw [10, 11, 12] (fun x y i wr => ∃ c : Nat, x = .int .i64 ((1 + Tm.sizes (ks.take c) : Nat) : Int) ∧ y = .int .i64 ((Tm.deeps (ks.take c) : Nat) : Int) ∧ i = .int .i64 c ∧ c ≤ ks.length ∧ Below w.heap.size w wr) (fun _ _ i _ => ks.length - (intOf i).toNat)
  case atStart => exact ⟨0, by simp [Tm.sizes_nil], by simp [Tm.deeps_nil], rfl, Nat.zero_le _, HB1.out⟩
  case round =>
    obtain ⟨c, rfl, rfl, rfl, hcl, hB⟩ := hrel
    by_cases hlt : c < ks.length
    · obtain ⟨b, o, k1, n1, s1, a1, l1, c1, rfl, hbn, e0, e1, e2, e3, ht1⟩ := HV.out.2 c hlt
      have hbn : b < w.heap.size := hbn
      obtain ⟨T1, hT1⟩ : ∃ T1, ks[c] = T1 := ⟨_, rfl⟩
      rw [hT1] at ht1
      have hgs : ks[c]? = some T1 := by rw [List.getElem?_eq_getElem hlt, hT1]
      have hsz1 : T1.size ≤ 1000000000 := by have := Tm.size_le_sizes (List.mem_of_getElem? hgs); omega
      have q0 := (hB.cell (p := ⟨b, o + c * 4, none⟩) hbn).trans e0
      have q1 := (hB.cell (p := ⟨b, o + c * 4 + 1, none⟩) hbn).trans e1
      have q2 := (hB.cell (p := ⟨b, o + c * 4 + 2, none⟩) hbn).trans e2
      have q3 := (hB.cell (p := ⟨b, o + c * 4 + 3, none⟩) hbn).trans e3
      have hTr : Has wr (.agg #[.int .i64 k1, .int .i64 n1, .string s1, .slice a1 l1 c1]) T1 := IsTm.later hB hB.size ht1
      have hts := Tm.take_succ_sizes ks c T1 hgs
      have htd := Tm.take_succ_deeps ks c T1 hgs
      have htl := Tm.sizes_take_le ks (c + 1)
      have hdl := deeps_le_sizes (ks.take c)
      have hdl1 := T1.deep_le
      generalize hSS : Tm.sizes (ks.take c) = SS at *
      generalize hDD : Tm.deeps (ks.take c) = DD at *
      generalize hm1 : T1.size = m1 at *
      generalize hd1 : T1.deep = d1 at *
      have hb1 : SS + m1 ≤ 1000000000 := by omega
      have hb2 : DD ≤ 1000000000 := by omega
      have hb3 : d1 ≤ 1000000000 := by omega
      have HR := Lib.hid (And.intro hts (And.intro htd (And.intro hB hm1)))
      clear e0 e1 e2 e3 ht1 hT1 hgs hts htd htl hdl hdl1 hSS hDD
      go_wp2_with fail
      refine (few_at _ T1 wr hTr (by omega)).mono ?_
      rintro r w3 ⟨rfl, hb⟩
      rw [hm1]
      have hB3 := hB.trans (hb.mono hB.size)
      have hT3 := Has.below hTr hb
      have HB3 := Lib.hid hB3
      have p0 := (hB3.cell (p := ⟨b, o + c * 4, none⟩) hbn).trans ((hB.cell (p := ⟨b, o + c * 4, none⟩) hbn).symm.trans q0)
      have p1 := (hB3.cell (p := ⟨b, o + c * 4 + 1, none⟩) hbn).trans ((hB.cell (p := ⟨b, o + c * 4 + 1, none⟩) hbn).symm.trans q1)
      have p2 := (hB3.cell (p := ⟨b, o + c * 4 + 2, none⟩) hbn).trans ((hB.cell (p := ⟨b, o + c * 4 + 2, none⟩) hbn).symm.trans q2)
      have p3 := (hB3.cell (p := ⟨b, o + c * 4 + 3, none⟩) hbn).trans ((hB.cell (p := ⟨b, o + c * 4 + 3, none⟩) hbn).symm.trans q3)
      clear hb hTr hB q0 q1 q2 q3 hB3
      by_cases hfew : m1 ≤ 3000
      case neg =>
        rw [decide_eq_false hfew]
        go_wp2_with fail
        go_ret
        exact ⟨rfl, HB3.out⟩
      rw [decide_eq_true hfew]
      by_cases hfifty : 50 < c
      · have hfifty' : (50 : Int) < (c : Int) := by omega
        go_wp2_with fail
        go_ret
        exact ⟨rfl, HB3.out⟩
      have hfifty' : (c : Int) ≤ 50 := by omega
      go_wp2_with fail
      refine (size_at _ T1 w3 hT3 (by omega)).mono ?_
      rintro r w4 ⟨rfl, hb⟩
      rw [hm1]
      have hB4 := HB3.out.trans (hb.mono HB3.out.size)
      have hT4 := Has.below hT3 hb
      have HB4 := Lib.hid hB4
      have hblt : b < w3.heap.size := Nat.lt_of_lt_of_le hbn HB3.out.size
      have q0 := (hb.cell (p := ⟨b, o + c * 4, none⟩) hblt).trans p0
      have q1 := (hb.cell (p := ⟨b, o + c * 4 + 1, none⟩) hblt).trans p1
      have q2 := (hb.cell (p := ⟨b, o + c * 4 + 2, none⟩) hblt).trans p2
      have q3 := (hb.cell (p := ⟨b, o + c * 4 + 3, none⟩) hblt).trans p3
      clear hb hT3 p0 p1 p2 p3 hB4 hblt
      have hmi : ((1 + SS : Nat) : Int) + (m1 : Int) ≤ 1000000001 := by omega
      go_wp2_with fail
      refine (deep_at _ T1 w4 hT4 (by omega)).mono ?_
      rintro r w5 ⟨rfl, hb⟩
      rw [hd1]
      have hB5 := HB4.out.trans (hb.mono HB4.out.size)
      have HB5 := Lib.hid hB5
      clear hb hT4 q0 q1 q2 q3 hB5
      go_wp2_with fail
      all_goals go_roundw
      all_goals first
        | (refine ⟨c + 1, ?_, ?_, by simp, hlt, HB5.out⟩
           · rw [HR.out.1]; exact congrArg (Value.int .i64) (by omega)
           · rw [HR.out.2.1]; exact congrArg (Value.int .i64) (by omega))
        | (simp [intOf]; omega)
    · have hce : c = ks.length := by omega
      subst hce
      rw [List.take_length]
      have HB := Lib.hid hB
      have hkw := HasTs.below HV.out.1 hB
      clear hB
      have hDS := deeps_le_sizes ks
      have hmkT := make_at s (.slice a ks.length cap) ks wr hs hkw (by omega)
      have hsT : (Tm.mk 3 0 s ks).size = 1 + Tm.sizes ks := Tm.size_mk _ _ _ _
      have hdT : (Tm.mk 3 0 s ks).deep = Tm.deeps ks + 1 := Tm.deep_mk _ _ _ _
      generalize hSZ : Tm.sizes ks = SZ at *
      generalize hDP : Tm.deeps ks = DP at *
      have HSZ := Lib.hid hSZ
      clear hSZ hDP
      go_wp2_with fail
      refine hmkT.mono ?_
      rintro r w2 ⟨r2, rfl, hr2, hb2⟩
      obtain ⟨k3, n3, s3, a4, l4, c4, ks3, rfl, e3, -⟩ := hr2.form
      injection e3 with g1 g2 g3 g4
      subst g1 g2 g3 g4
      have hT2 : Has w2 (.agg #[.int .i64 3, .int .i64 0, .string s, .slice a4 l4 c4]) (.mk 3 0 s ks) := hr2.carry (fun _ _ => rfl) (fun b hb => hb.2)
      obtain ⟨w3, hw3⟩ : ∃ w3, w3 = w2.alloc (.cells #[.int .i64 3, .int .i64 0, .string s, .slice a4 l4 c4] 24) := ⟨_, rfl⟩
      have hb3 : Below w2.heap.size w2 w3 := by rw [hw3]; exact (Below.refl _ _).alloc (Nat.le_refl _) _
      have hT3 := Has.below hT2 hb3
      have hk3 := HasTs.below (HasTs.below hkw hb2) hb3
      have hx3 : w3.heap[w2.heap.size]? = some (.cells #[.int .i64 3, .int .i64 0, .string s, .slice a4 l4 c4] 24 (0, 0)) := by rw [hw3]; exact World.alloc_heap_new _ _
      have H3 := Lib.hid (And.intro hw3 (And.intro ((HB.out.trans (hb2.mono HB.out.size)).trans (hb3.mono (Nat.le_trans HB.out.size hb2.size))) hx3))
      clear hr2 hb2 hT2 hw3 hb3 hx3 hkw hmkT
      go_wp2_with fail
      rw [← H3.out.1]
      refine (atom_at s w3 hs).mono ?_
      rintro r w4 ⟨r4, rfl, hr4, hb4⟩
      obtain ⟨k3, n3, s3, a5, l5, c5, ks3, rfl, e3, -⟩ := hr4.form
      injection e3 with g1 g2 g3 g4
      subst g1 g2 g3 g4
      have hA4 : Has w4 (.agg #[.int .i64 3, .int .i64 0, .string s, .slice a5 l5 c5]) (.mk 3 0 s []) := hr4.carry (fun _ _ => rfl) (fun b hb => hb.2)
      obtain ⟨w6, hw6⟩ : ∃ w6, w6 = w4.alloc (.cells #[.int .i64 3, .int .i64 0, .string s, .slice a5 l5 c5] 24) := ⟨_, rfl⟩
      have hb6 : Below w4.heap.size w4 w6 := by rw [hw6]; exact (Below.refl _ _).alloc (Nat.le_refl _) _
      have hb36 := hb4.trans (hb6.mono hb4.size)
      have hT6 := Has.below hT3 hb36
      have hk6 := HasTs.below hk3 hb36
      have hA6 := Has.below hA4 hb6
      have hx6 := tbox_below H3.out.2.2 hb36
      have hy6 : w6.heap[w4.heap.size]? = some (.cells #[.int .i64 3, .int .i64 0, .string s, .slice a5 l5 c5] 24 (0, 0)) := by rw [hw6]; exact World.alloc_heap_new _ _
      have HB6 := Lib.hid (H3.out.2.1.trans (hb36.mono H3.out.2.1.size))
      have hlt1 : w2.heap.size < w6.heap.size := (Array.getElem?_eq_some_iff.1 hx6).1
      have hlt2 : w4.heap.size < w6.heap.size := (Array.getElem?_eq_some_iff.1 hy6).1
      obtain ⟨x0, x1, x2, x3⟩ := tbox_cells hx6
      obtain ⟨y0, y1, y2, y3⟩ := tbox_cells hy6
      have HS : ∀ w', Below w6.heap.size w6 w' → (w'.cell? ⟨w2.heap.size, 0, none⟩ = some (.int .i64 3) ∧ w'.cell? ⟨w2.heap.size, 1, none⟩ = some (.int .i64 0) ∧ w'.cell? ⟨w2.heap.size, 2, none⟩ = some (.string s) ∧ w'.cell? ⟨w2.heap.size, 3, none⟩ = some (.slice a4 l4 c4) ∧ w'.cell? ⟨w4.heap.size, 0, none⟩ = some (.int .i64 3) ∧ w'.cell? ⟨w4.heap.size, 1, none⟩ = some (.int .i64 0) ∧ w'.cell? ⟨w4.heap.size, 2, none⟩ = some (.string s) ∧ w'.cell? ⟨w4.heap.size, 3, none⟩ = some (.slice a5 l5 c5) ∧ Below w6.heap.size w6 w') := fun w' hb =>
        ⟨(hb.cell (p := ⟨_, _, none⟩) hlt1).trans x0, (hb.cell (p := ⟨_, _, none⟩) hlt1).trans x1, (hb.cell (p := ⟨_, _, none⟩) hlt1).trans x2, (hb.cell (p := ⟨_, _, none⟩) hlt1).trans x3,
         (hb.cell (p := ⟨_, _, none⟩) hlt2).trans y0, (hb.cell (p := ⟨_, _, none⟩) hlt2).trans y1, (hb.cell (p := ⟨_, _, none⟩) hlt2).trans y2, (hb.cell (p := ⟨_, _, none⟩) hlt2).trans y3, hb⟩
      have hsz4 : (Tm.mk 3 0 s ks).size ≤ 1000000000000 := by omega
      have c1 : ∀ w', Below w6.heap.size w6 w' → Calls Try.prog 27 #[.slice a4 l4 c4, .slice a ks.length cap] w' fun r w'' => r = .returned (.bool true) ∧ Below w6.heap.size w6 w'' := fun w' hb =>
        (lists_at ks ks _ _ w' (HasTs.below (TmIn.kids hT6) hb) (HasTs.below hk6 hb) (by rw [HSZ.out]; omega) (by rw [HSZ.out]; omega)).mono fun r w'' h => ⟨by rw [h.1, decide_eq_true rfl], hb.trans (h.2.mono hb.size)⟩
      have c2 : ∀ w', Below w6.heap.size w6 w' → Calls Try.prog 14 #[.agg #[.int .i64 3, .int .i64 0, .string s, .slice a4 l4 c4]] w' fun r w'' => r = .returned (.int .i64 ((1 + SZ : Nat) : Int)) ∧ Below w6.heap.size w6 w'' := fun w' hb =>
        (size_at _ _ w' (Has.below hT6 hb) (by omega)).mono fun r w'' h => ⟨by rw [h.1, hsT], hb.trans (h.2.mono hb.size)⟩
      have c3 : ∀ w', Below w6.heap.size w6 w' → Calls Try.prog 16 #[.agg #[.int .i64 3, .int .i64 0, .string s, .slice a4 l4 c4]] w' fun r w'' => r = .returned (.int .i64 (IntKind.i64.wrap ((DP : Int) + 1))) ∧ Below w6.heap.size w6 w'' := fun w' hb =>
        (deep_at _ _ w' (Has.below hT6 hb) (by omega)).mono fun r w'' h => ⟨by rw [h.1, hdT, IntKind.wrap_i64]; exact congrArg (fun x => Ending.returned (Value.int .i64 x)) (by omega), hb.trans (h.2.mono hb.size)⟩
      have c4' : ∀ w', Below w6.heap.size w6 w' → Calls Try.prog 25 #[.string s, .slice none 0 0] w' fun r w'' => ∃ k7 n7 s7 a7 l7 c7, r = .returned (.agg #[.int .i64 k7, .int .i64 n7, .string s7, .slice a7 l7 c7]) ∧ Has w'' (.agg #[.int .i64 k7, .int .i64 n7, .string s7, .slice a7 l7 c7]) (.mk 3 0 s []) ∧ Below w6.heap.size w6 w'' := fun w' hb =>
        (make_at s _ [] w' hs (noTs _ _) (by simp [Tm.sizes_nil])).mono fun r w'' h => by
          obtain ⟨k7, n7, s7, a7, l7, c7, rfl, h7, hb7⟩ := h.has
          exact ⟨k7, n7, s7, a7, l7, c7, rfl, h7, hb.trans (hb7.mono hb.size)⟩
      have hz1' : ∀ (k n : Int) (s : ByteArray), (Tm.mk k n s []).size ≤ 1000000000000 := fun k n s => by rw [Tm.size_mk, Tm.sizes_nil]; omega
      have c5' : ∀ (w' : World) (u : Value), Below w6.heap.size w6 w' → Has w' u (.mk 3 0 s []) → Calls Try.prog 21 #[.agg #[.int .i64 3, .int .i64 0, .string s, .slice a5 l5 c5], u] w' fun r w'' => r = .returned (.bool true) ∧ Below w6.heap.size w6 w'' := fun w' u hb h1 =>
        (same_at _ _ _ u w' (Has.below hA6 hb) h1 (hz1' _ _ _) (hz1' _ _ _)).mono fun r w'' h => ⟨by rw [h.1, decide_eq_true rfl], hb.trans (h.2.mono hb.size)⟩
      have c6 : ∀ w', Below w6.heap.size w6 w' → Calls Try.prog 28 #[.int .i64 n] w' fun r w'' => ∃ k8 n8 s8 a8 l8 c8, r = .returned (.agg #[.int .i64 k8, .int .i64 n8, .string s8, .slice a8 l8 c8]) ∧ Has w'' (.agg #[.int .i64 k8, .int .i64 n8, .string s8, .slice a8 l8 c8]) (.mk 2 n (ByteArray.mk #[]) []) ∧ Below w6.heap.size w6 w'' := fun w' hb =>
        (num_at n w' hn).mono fun r w'' h => by
          obtain ⟨k7, n7, s7, a7, l7, c7, rfl, h7, hb7⟩ := h.has
          exact ⟨k7, n7, s7, a7, l7, c7, rfl, h7, hb.trans (hb7.mono hb.size)⟩
      have c7' : ∀ (w' : World) (u : Value), Below w6.heap.size w6 w' → Has w' u (.mk 2 n (ByteArray.mk #[]) []) → Calls Try.prog 21 #[u, .agg #[.int .i64 2, .int .i64 n, .string (ByteArray.mk #[]), .slice none 0 0]] w' fun r w'' => r = .returned (.bool true) ∧ Below w6.heap.size w6 w'' := fun w' u hb h1 =>
        (same_at _ _ u _ w' h1 ((noTs _ _).term ⟨by decide, by decide⟩ hn (Nat.zero_le _)) (hz1' _ _ _) (hz1' _ _ _)).mono fun r w'' h => ⟨by rw [h.1, decide_eq_true rfl], hb.trans (h.2.mono hb.size)⟩
      have c8' : ∀ w', Below w6.heap.size w6 w' → Calls Try.prog 29 #[.int .i64 z] w' fun r w'' => ∃ k9 n9 s9 a9 l9 c9, r = .returned (.agg #[.int .i64 k9, .int .i64 n9, .string s9, .slice a9 l9 c9]) ∧ Has w'' (.agg #[.int .i64 k9, .int .i64 n9, .string s9, .slice a9 l9 c9]) (.mk 1 z (ByteArray.mk #[]) []) ∧ Below w'.heap.size w' w'' ∧ Below w6.heap.size w6 w'' := fun w' hb =>
        (let_at z w' ⟨by omega, by omega⟩).mono fun r w'' h => by
          obtain ⟨k7, n7, s7, a7, l7, c7, rfl, h7, hb7⟩ := h.has
          exact ⟨k7, n7, s7, a7, l7, c7, rfl, h7, hb7, hb.trans (hb7.mono hb.size)⟩
      have c9 : ∀ (w' : World) (u : Value), Below w6.heap.size w6 w' → Has w' u (.mk 1 z (ByteArray.mk #[]) []) → Calls Try.prog 19 #[u] w' fun r w'' => ∃ a10 c10, r = .returned (.slice a10 1 c10) ∧ IntsAt w'' (.slice a10 1 c10) [z] ∧ Below w'.heap.size w' w'' ∧ Below w6.heap.size w6 w'' := fun w' u hb h1 =>
        (vars_at u _ w' h1 (hz1' _ _ _)).mono fun r w'' h => by
          obtain ⟨r', rfl, hr', hb'⟩ := h
          rw [leaf_vars] at hr'
          obtain ⟨a10, c10, e10, _⟩ := id hr'
          subst e10
          exact ⟨a10, c10, rfl, hr', hb', hb.trans (hb'.mono hb.size)⟩
      have c10 : ∀ (w' : World) (u1 u2 : Value), Below w6.heap.size w6 w' → IntsAt w' u1 [z] → IntsAt w' u2 [z] → Calls Try.prog 18 #[u1, u2] w' fun r w'' => r = .returned (.bool true) ∧ Below w6.heap.size w6 w'' := fun w' u1 u2 hb h1 h2 =>
        (ints_at u1 u2 [z] [z] w' h1 h2 (by simp) (by simp)).mono fun r w'' h => ⟨by rw [h.1, decide_eq_true rfl], hb.trans (h.2.mono hb.size)⟩
      have HW6 := Lib.hid hw6
      have hzt := zeroTerm
      have hDPi : (DP : Int) ≤ 1000000000 := by omega
      have hwz : IntKind.i64.wrap z = z := by rw [IntKind.wrap_i64]; omega
      clear hr4 hb4 hA4 hw6 hb6 hb36 hT3 hT6 hk3 hk6 hA6 hx6 hy6 hlt1 hlt2 H3 hsz4 hz1' hsT hdT hDS
      go_wp2_with fail
      rw [← HW6.out]
      clear x0 x1 x2 x3 y0 y1 y2 y3 HW6
      go_region_held3 (fun w' => w'.cell? ⟨w2.heap.size, 0, none⟩ = some (.int .i64 3) ∧ w'.cell? ⟨w2.heap.size, 1, none⟩ = some (.int .i64 0) ∧ w'.cell? ⟨w2.heap.size, 2, none⟩ = some (.string s) ∧ w'.cell? ⟨w2.heap.size, 3, none⟩ = some (.slice a4 l4 c4) ∧ w'.cell? ⟨w4.heap.size, 0, none⟩ = some (.int .i64 3) ∧ w'.cell? ⟨w4.heap.size, 1, none⟩ = some (.int .i64 0) ∧ w'.cell? ⟨w4.heap.size, 2, none⟩ = some (.string s) ∧ w'.cell? ⟨w4.heap.size, 3, none⟩ = some (.slice a5 l5 c5) ∧ Below w6.heap.size w6 w')
        (first | exact HS _ (Below.refl _ _).drew | (go_split_ands; exact HS _ (by assumption)) | (go_split_ands; exact HS _ (below_alloc (by assumption) _)))
        (first
          | (go_at_call 27; (with_reducible refine (c1 _ (by go_split_ands; assumption)).mono ?_); rintro r w10 ⟨rfl, hb10⟩)
          | (go_at_call 14; (with_reducible refine (c2 _ (by go_split_ands; assumption)).mono ?_); rintro r w11 ⟨rfl, hb11⟩)
          | (go_at_call 16; (with_reducible refine (c3 _ (by go_split_ands; assumption)).mono ?_); rintro r w12 ⟨rfl, hb12⟩)
          | (go_at_call 25; (with_reducible refine (c4' _ (by go_split_ands; assumption)).mono ?_); rintro r w13 ⟨k7, n7, s7, a7, l7, c7, rfl, h7, hb13⟩)
          | (go_at_call 21; (with_reducible refine (c5' _ _ (by go_split_ands; assumption) h7).mono ?_); rintro r w14 ⟨rfl, hb14⟩)
          | (go_at_call 28; (with_reducible refine (c6 _ (by go_split_ands; assumption)).mono ?_); rintro r w15 ⟨k8, n8, s8, a8, l8, c8, rfl, h8, hb15⟩)
          | (go_at_call 21; (with_reducible refine (c7' _ _ (by go_split_ands; assumption) h8).mono ?_); rintro r w16 ⟨rfl, hb16⟩)
          | (go_at_call 29; (with_reducible refine (c8' _ (by go_split_ands; assumption)).mono ?_); rintro r w17 ⟨k9, n9, s9, a9, l9, c9', rfl, h9, hl17, hb17⟩)
          | (go_at_call 19; (with_reducible refine (c9 _ _ (by go_split_ands; assumption) (by first | exact h9 | exact Has.below h9 (below_alloc (Below.refl _ _) _))).mono ?_); rintro r w18 ⟨a10, c10', rfl, hI, hl18, hb18⟩)
          | (go_at_call 18; (with_reducible refine (c10 _ _ _ (by go_split_ands; assumption) (by first | exact hI | exact hI.below (below_alloc (Below.refl _ _) _)) (by first | exact one_int _ _ | exact (one_int _ _).below hl18 | exact ((one_int _ _).below hl17).below hl18)).mono ?_); rintro r w19 ⟨rfl, hb19⟩))
      all_goals go_wp2_with fail
      all_goals go_ret
      all_goals exact ⟨rfl, HB6.out.trans (hb19.mono HB6.out.size)⟩

end Go.Proofs.Ytmbikojjhdildaa
