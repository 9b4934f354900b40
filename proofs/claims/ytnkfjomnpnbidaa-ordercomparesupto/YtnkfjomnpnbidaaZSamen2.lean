/-
  term.Same and the reference's Same: whether two terms are one.
-/
import Derived.Test.YtnkfjomnpnbidaaZOrdDn2
import Derived.Test.YtnkfjomnpnbidaaZShiftn3
import Derived.Deep.RegionHeld3
import Derived.Test.YtnkfjomnpnbidaaZRefAn3
import Derived.Laws.AppendOwnNone
import Derived.Deep.Heap
namespace Go.Proofs.Ytnkfjomnpnbidaa
open Go.RowKit Go.Shelf
open Classical
set_option linter.unusedVariables false

theorem loop_eq (s : ByteArray) : ∀ (k i : Nat) (r : List UInt8), s.size - i = k → ByteArray.toList.loop s i r = r.reverse ++ s.data.toList.drop i := by
  intro k
  induction k with
  | zero =>
    intro i r h
    rw [ByteArray.toList.loop]
    rw [if_neg (by omega)]
    have : s.data.toList.length ≤ i := by have : s.data.toList.length = s.size := rfl; omega
    rw [List.drop_eq_nil_of_le this, List.append_nil]
  | succ k ih =>
    intro i r h
    rw [ByteArray.toList.loop]
    rw [if_pos (by omega), ih (i + 1) _ (by omega), List.reverse_cons, List.append_assoc]
    congr 1
    have hi : i < s.data.toList.length := by have : s.data.toList.length = s.size := rfl; omega
    rw [List.drop_eq_getElem_cons hi]
    have hi' : i < s.data.size := by simpa using hi
    have : s.get! i = s.data.toList[i] := (getElem!_pos s.data i hi').trans (by simp)
    rw [this]; rfl
theorem toList_data (s : ByteArray) : s.toList = s.data.toList := by
  have := loop_eq s _ 0 [] rfl
  simpa [ByteArray.toList] using this
theorem toList_inj {s t : ByteArray} (h : s.toList = t.toList) : s = t := by
  rw [toList_data, toList_data] at h
  cases s; cases t
  simp at h
  rw [h]

set_option maxRecDepth 100000 in
set_option maxHeartbeats 4000000 in
theorem same_at (T : Tm) : ∀ (U : Tm) (u v : Value) (w : World), Has w u T → Has w v U → T.size ≤ 1000000000000 → U.size ≤ 1000000000000 → Calls Try.prog 18 #[u, v] w (Gets w (.bool (decide (T = U)))) := by
  induction T using Tm.ind with
  | h k n s ks ih =>
    intro U u v w hu hv hs ht
    obtain ⟨k_, n_, s_, a, len, cap, ks_, rfl, e, rfl, hk, hn, hs', hc, hm, ha⟩ := hu.form
    injection e with e1 e2 e3 e4
    subst e1 e2 e3 e4
    obtain ⟨k', n', s', a', len', cap', ks', rfl, rfl, rfl, hk', hn', hs'', hc', hm', ha'⟩ := hv.form
    have hl1 : ks.length ≤ 1000000000000 := by have := Tm.length_le_sizes ks; rw [Tm.size_mk] at hs; omega
    have hl2 : ks'.length ≤ 1000000000000 := by have := Tm.length_le_sizes ks'; rw [Tm.size_mk] at ht; omega
    obtain ⟨w2, hw2⟩ : ∃ w2, w2 = (w.alloc (.cells #[.int .i64 k, .int .i64 n, .string s, .slice a ks.length cap] 24)).alloc (.cells #[.int .i64 k', .int .i64 n', .string s', .slice a' ks'.length cap'] 24) := ⟨_, rfl⟩
    have hB2 : Below w.heap.size w w2 := by rw [hw2]; exact ((Below.refl _ w).alloc (Nat.le_refl _) _).alloc (by simp) _
    by_cases hkk : k = k'
    case neg =>
      have hne : ¬ (Tm.mk k n s ks = Tm.mk k' n' s' ks') := fun e => hkk (by injection e)
      rw [decide_eq_false hne]
      have hkk' : (k == k') = false := by simpa using hkk
      clear ih hu hv hs ht hne
      subst hw2
      go_enter Try.func18, Try.ntmps18
      go_wp2_with fail
      go_ret
      exact ⟨rfl, hB2⟩
    subst hkk
    by_cases hnn : n = n'
    case neg =>
      have hne : ¬ (Tm.mk k n s ks = Tm.mk k n' s' ks') := fun e => hnn (by injection e)
      rw [decide_eq_false hne]
      have hnn' : (n == n') = false := by simpa using hnn
      clear ih hu hv hs ht hne
      subst hw2
      go_enter Try.func18, Try.ntmps18
      go_wp2_with fail
      go_ret
      exact ⟨rfl, hB2⟩
    subst hnn
    by_cases hss : s = s'
    case neg =>
      have hne : ¬ (Tm.mk k n s ks = Tm.mk k n s' ks') := fun e => hss (by injection e)
      rw [decide_eq_false hne]
      have hss' : ¬ s.toList = s'.toList := fun e => hss (toList_inj e)
      clear ih hu hv hs ht hne
      subst hw2
      go_enter Try.func18, Try.ntmps18
      go_wp2_with fail
      go_ret
      exact ⟨rfl, hB2⟩
    subst hss
    by_cases hll : ks.length = ks'.length
    case neg =>
      have hne : ¬ (Tm.mk k n s ks = Tm.mk k n s ks') := fun e => hll (by injection e with _ _ _ e; rw [e])
      rw [decide_eq_false hne]
      have hll' : ((ks.length : Int) == (ks'.length : Int)) = false := by simp; omega
      have HL := Lib.hid hll
      clear ih hu hv hs ht hne hll
      subst hw2
      go_enter Try.func18, Try.ntmps18
      go_wp2_with fail
      go_ret
      exact ⟨rfl, hB2⟩
    have hll' : ((ks.length : Int) == (ks'.length : Int)) = true := by simp; omega
    have hll'' : ((ks.length : Int) != (ks'.length : Int)) = false := by rw [bne, hll']; rfl
    have hx1 : w2.heap[w.heap.size]? = some (.cells #[.int .i64 k, .int .i64 n, .string s, .slice a ks.length cap] 24 (0, 0)) := by rw [hw2]; exact (Below.heap_alloc _ _ _ (by simp)).trans (World.alloc_heap_new _ _)
    have hx2 : w2.heap[w.heap.size + 1]? = some (.cells #[.int .i64 k, .int .i64 n, .string s, .slice a' ks'.length cap'] 24 (0, 0)) := by rw [hw2]; simpa using World.alloc_heap_new (w.alloc (.cells #[.int .i64 k, .int .i64 n, .string s, .slice a ks.length cap] 24)) (.cells #[.int .i64 k, .int .i64 n, .string s, .slice a' ks'.length cap'] 24)
    have HH := Lib.hid (And.intro hll (And.intro hB2 (And.intro hx1 (And.intro hx2 (And.intro hs ht)))))
    have HW := Lib.hid hw2
    clear hll hB2 hx1 hx2 hw2 hs ht
    go_enter Try.func18, Try.ntmps18
    go_wp2_with fail
    rw [← HW.out]
    go_loopw [37] (fun i wr => ∃ c : Nat, i = .int .i64 c ∧ c ≤ ks.length ∧ ks.take c = ks'.take c ∧ Below w2.heap.size w2 wr) (fun i _ => ks.length - (intOf i).toNat)
    case atStart => exact ⟨0, rfl, Nat.zero_le _, by simp, Below.refl _ _⟩
    case round =>
      obtain ⟨c, rfl, hcl, htk, hB⟩ := hrel
      have hwr : Below w.heap.size w wr := HH.out.2.1.trans (hB.mono HH.out.2.1.size)
      by_cases hlt : c < ks.length
      · have hlt2 : c < ks'.length := by have := HH.out.1; omega
        obtain ⟨x0, x1, x2, x3⟩ := tbox_cells (tbox_below HH.out.2.2.1 hB)
        obtain ⟨y0, y1, y2, y3⟩ := tbox_cells (tbox_below HH.out.2.2.2.1 hB)
        obtain ⟨b, o, k1, n1, s1, a1, l1, c1, T1, rfl, hbn, e0, e1, e2, e3, hT1, ht1⟩ := IsTm.kid hu c hlt
        obtain ⟨b', o', k2, n2, s2, a2, l2, c2, T2, rfl, hbn', f0, f1, f2, f3, hT2, ht2⟩ := IsTm.kid hv c hlt2
        have q0 := (hwr.cell (p := ⟨b, o + c * 4, none⟩) hbn).trans e0
        have q1 := (hwr.cell (p := ⟨b, o + c * 4 + 1, none⟩) hbn).trans e1
        have q2 := (hwr.cell (p := ⟨b, o + c * 4 + 2, none⟩) hbn).trans e2
        have q3 := (hwr.cell (p := ⟨b, o + c * 4 + 3, none⟩) hbn).trans e3
        have r0 := (hwr.cell (p := ⟨b', o' + c * 4, none⟩) hbn').trans f0
        have r1 := (hwr.cell (p := ⟨b', o' + c * 4 + 1, none⟩) hbn').trans f1
        have r2 := (hwr.cell (p := ⟨b', o' + c * 4 + 2, none⟩) hbn').trans f2
        have r3 := (hwr.cell (p := ⟨b', o' + c * 4 + 3, none⟩) hbn').trans f3
        have hih : ∀ w3, Below wr.heap.size wr w3 → Calls Try.prog 18 #[.agg #[.int .i64 k1, .int .i64 n1, .string s1, .slice a1 l1 c1], .agg #[.int .i64 k2, .int .i64 n2, .string s2, .slice a2 l2 c2]] w3 fun e w4 => ∃ q, decide (T1 = T2) = q ∧ e = .returned (.bool q) ∧ Below wr.heap.size wr w4 := fun w3 h3 =>
          (ih T1 (List.mem_of_getElem? hT1) T2 _ _ w3 (IsTm.later (hwr.trans (h3.mono hwr.size)) (Nat.le_trans hwr.size h3.size) ht1) (IsTm.later (hwr.trans (h3.mono hwr.size)) (Nat.le_trans hwr.size h3.size) ht2)
            (by have h1 := Tm.size_le_sizes (List.mem_of_getElem? hT1); have h2 := HH.out.2.2.2.2.1; rw [Tm.size_mk] at h2; omega) (by have h1 := Tm.size_le_sizes (List.mem_of_getElem? hT2); have h2 := HH.out.2.2.2.2.2; rw [Tm.size_mk] at h2; omega)).mono fun e w4 h4 => ⟨_, rfl, h4.1, h3.trans (h4.2.mono h3.size)⟩
        have HT := Lib.hid (And.intro htk (And.intro hB (And.intro hT1 hT2)))
        clear ih hu hv e0 e1 e2 e3 f0 f1 f2 f3 ht1 ht2 htk hB hT1 hT2 HW
        have hlt8 : b < wr.heap.size ∧ b' < wr.heap.size ∧ w.heap.size < wr.heap.size ∧ w.heap.size + 1 < wr.heap.size := by
          have g1 := (Array.getElem?_eq_some_iff.1 (tbox_below HH.out.2.2.2.1 HT.out.2.1)).1
          have g2 := hwr.size
          exact ⟨by omega, by omega, by omega, by omega⟩
        have HS : ∀ w', Below wr.heap.size wr w' → (w'.cell? ⟨w.heap.size, 3, none⟩ = some (.slice (some ⟨b, o, none⟩) ks.length cap) ∧ w'.cell? ⟨w.heap.size + 1, 3, none⟩ = some (.slice (some ⟨b', o', none⟩) ks'.length cap') ∧
            w'.cell? ⟨b, o + c * 4, none⟩ = some (.int .i64 k1) ∧ w'.cell? ⟨b, o + c * 4 + 1, none⟩ = some (.int .i64 n1) ∧ w'.cell? ⟨b, o + c * 4 + 2, none⟩ = some (.string s1) ∧ w'.cell? ⟨b, o + c * 4 + 3, none⟩ = some (.slice a1 l1 c1) ∧
            w'.cell? ⟨b', o' + c * 4, none⟩ = some (.int .i64 k2) ∧ w'.cell? ⟨b', o' + c * 4 + 1, none⟩ = some (.int .i64 n2) ∧ w'.cell? ⟨b', o' + c * 4 + 2, none⟩ = some (.string s2) ∧ w'.cell? ⟨b', o' + c * 4 + 3, none⟩ = some (.slice a2 l2 c2) ∧ Below wr.heap.size wr w') := fun w' hb =>
          ⟨(hb.cell (p := ⟨_, _, none⟩) hlt8.2.2.1).trans x3, (hb.cell (p := ⟨_, _, none⟩) hlt8.2.2.2).trans y3, (hb.cell (p := ⟨_, _, none⟩) hlt8.1).trans q0, (hb.cell (p := ⟨_, _, none⟩) hlt8.1).trans q1, (hb.cell (p := ⟨_, _, none⟩) hlt8.1).trans q2, (hb.cell (p := ⟨_, _, none⟩) hlt8.1).trans q3,
            (hb.cell (p := ⟨_, _, none⟩) hlt8.2.1).trans r0, (hb.cell (p := ⟨_, _, none⟩) hlt8.2.1).trans r1, (hb.cell (p := ⟨_, _, none⟩) hlt8.2.1).trans r2, (hb.cell (p := ⟨_, _, none⟩) hlt8.2.1).trans r3, hb⟩
        clear hlt8
        go_wp2_with fail
        clear q0 q1 q2 q3 r0 r1 r2 r3 x0 x1 x2 x3 y0 y1 y2 y3
        go_region_held3 (fun w' => w'.cell? ⟨w.heap.size, 3, none⟩ = some (.slice (some ⟨b, o, none⟩) ks.length cap) ∧ w'.cell? ⟨w.heap.size + 1, 3, none⟩ = some (.slice (some ⟨b', o', none⟩) ks'.length cap') ∧
            w'.cell? ⟨b, o + c * 4, none⟩ = some (.int .i64 k1) ∧ w'.cell? ⟨b, o + c * 4 + 1, none⟩ = some (.int .i64 n1) ∧ w'.cell? ⟨b, o + c * 4 + 2, none⟩ = some (.string s1) ∧ w'.cell? ⟨b, o + c * 4 + 3, none⟩ = some (.slice a1 l1 c1) ∧
            w'.cell? ⟨b', o' + c * 4, none⟩ = some (.int .i64 k2) ∧ w'.cell? ⟨b', o' + c * 4 + 1, none⟩ = some (.int .i64 n2) ∧ w'.cell? ⟨b', o' + c * 4 + 2, none⟩ = some (.string s2) ∧ w'.cell? ⟨b', o' + c * 4 + 3, none⟩ = some (.slice a2 l2 c2) ∧ Below wr.heap.size wr w')
          (first | exact HS _ (Below.refl _ _).drew | exact HS _ hb4)
          (first | (go_at_call 18; (with_reducible refine (hih _ (by go_split_ands; assumption)).mono ?_); rintro e w4 ⟨q, hq, rfl, hb4⟩))
        go_wp2_with fail
        · rename_i hnq
          have hq0 : q = false := by simpa using hnq
          rw [hq0] at hq
          have hne := of_decide_eq_false hq
          go_ret
          refine ⟨congrArg (fun b => Ending.returned (Value.bool b)) (decide_eq_false fun e => hne ?_).symm, hwr.trans (hb4.mono hwr.size)⟩
          injection e with _ _ _ e
          have h1 := HT.out.2.2.1
          have h2 := HT.out.2.2.2
          rw [e, h2] at h1
          injection h1 with h1
          exact h1.symm
        · rename_i hnq
          have hq0 : q = true := by simpa using hnq
          rw [hq0] at hq
          have heq := of_decide_eq_true hq
          go_roundw
          case rel =>
            refine ⟨c + 1, by simp, hlt, ?_, HT.out.2.1.trans (hb4.mono HT.out.2.1.size)⟩
            rw [List.take_add_one, List.take_add_one, HT.out.1, HT.out.2.2.1, HT.out.2.2.2, heq]
          case measure => simp [intOf]; omega
      · have hce : c = ks.length := by omega
        subst hce
        obtain ⟨x0, x1, x2, x3⟩ := tbox_cells (tbox_below HH.out.2.2.1 hB)
        clear ih hu hv hB HW
        go_wp2_with fail
        go_ret
        refine ⟨congrArg (fun b => Ending.returned (Value.bool b)) (decide_eq_true ?_).symm, hwr⟩
        rw [List.take_length, HH.out.1, List.take_length] at htk
        rw [htk]

set_option maxRecDepth 100000 in
set_option maxHeartbeats 4000000 in
theorem rsame_at (T : Tm) : ∀ (U : Tm) (u v : Value) (w : World), Has w u T → Has w v U → T.size ≤ 1000000000000 → U.size ≤ 1000000000000 → Calls Try.prog 34 #[u, v] w (Gets w (.bool (decide (T = U)))) := by
  induction T using Tm.ind with
  | h k n s ks ih =>
    intro U u v w hu hv hs ht
    obtain ⟨k_, n_, s_, a, len, cap, ks_, rfl, e, rfl, hk, hn, hs', hc, hm, ha⟩ := hu.form
    injection e with e1 e2 e3 e4
    subst e1 e2 e3 e4
    obtain ⟨k', n', s', a', len', cap', ks', rfl, rfl, rfl, hk', hn', hs'', hc', hm', ha'⟩ := hv.form
    have hl1 : ks.length ≤ 1000000000000 := by have := Tm.length_le_sizes ks; rw [Tm.size_mk] at hs; omega
    have hl2 : ks'.length ≤ 1000000000000 := by have := Tm.length_le_sizes ks'; rw [Tm.size_mk] at ht; omega
    obtain ⟨w2, hw2⟩ : ∃ w2, w2 = (w.alloc (.cells #[.int .i64 k, .int .i64 n, .string s, .slice a ks.length cap] 24)).alloc (.cells #[.int .i64 k', .int .i64 n', .string s', .slice a' ks'.length cap'] 24) := ⟨_, rfl⟩
    have hB2 : Below w.heap.size w w2 := by rw [hw2]; exact ((Below.refl _ w).alloc (Nat.le_refl _) _).alloc (by simp) _
    by_cases hkk : k = k'
    case neg =>
      have hne : ¬ (Tm.mk k n s ks = Tm.mk k' n' s' ks') := fun e => hkk (by injection e)
      rw [decide_eq_false hne]
      have hkk' : (k == k') = false := by simpa using hkk
      clear ih hu hv hs ht hne
      subst hw2
      go_enter Try.func34, Try.ntmps34
      go_wp2_with fail
      go_ret
      exact ⟨rfl, hB2⟩
    subst hkk
    by_cases hnn : n = n'
    case neg =>
      have hne : ¬ (Tm.mk k n s ks = Tm.mk k n' s' ks') := fun e => hnn (by injection e)
      rw [decide_eq_false hne]
      have hnn' : (n == n') = false := by simpa using hnn
      clear ih hu hv hs ht hne
      subst hw2
      go_enter Try.func34, Try.ntmps34
      go_wp2_with fail
      go_ret
      exact ⟨rfl, hB2⟩
    subst hnn
    by_cases hss : s = s'
    case neg =>
      have hne : ¬ (Tm.mk k n s ks = Tm.mk k n s' ks') := fun e => hss (by injection e)
      rw [decide_eq_false hne]
      have hss' : ¬ s.toList = s'.toList := fun e => hss (toList_inj e)
      clear ih hu hv hs ht hne
      subst hw2
      go_enter Try.func34, Try.ntmps34
      go_wp2_with fail
      go_ret
      exact ⟨rfl, hB2⟩
    subst hss
    by_cases hll : ks.length = ks'.length
    case neg =>
      have hne : ¬ (Tm.mk k n s ks = Tm.mk k n s ks') := fun e => hll (by injection e with _ _ _ e; rw [e])
      rw [decide_eq_false hne]
      have hll' : ((ks.length : Int) == (ks'.length : Int)) = false := by simp; omega
      have HL := Lib.hid hll
      clear ih hu hv hs ht hne hll
      subst hw2
      go_enter Try.func34, Try.ntmps34
      go_wp2_with fail
      go_ret
      exact ⟨rfl, hB2⟩
    have hll' : ((ks.length : Int) == (ks'.length : Int)) = true := by simp; omega
    have hll'' : ((ks.length : Int) != (ks'.length : Int)) = false := by rw [bne, hll']; rfl
    have hx1 : w2.heap[w.heap.size]? = some (.cells #[.int .i64 k, .int .i64 n, .string s, .slice a ks.length cap] 24 (0, 0)) := by rw [hw2]; exact (Below.heap_alloc _ _ _ (by simp)).trans (World.alloc_heap_new _ _)
    have hx2 : w2.heap[w.heap.size + 1]? = some (.cells #[.int .i64 k, .int .i64 n, .string s, .slice a' ks'.length cap'] 24 (0, 0)) := by rw [hw2]; simpa using World.alloc_heap_new (w.alloc (.cells #[.int .i64 k, .int .i64 n, .string s, .slice a ks.length cap] 24)) (.cells #[.int .i64 k, .int .i64 n, .string s, .slice a' ks'.length cap'] 24)
    have HH := Lib.hid (And.intro hll (And.intro hB2 (And.intro hx1 (And.intro hx2 (And.intro hs ht)))))
    have HW := Lib.hid hw2
    clear hll hB2 hx1 hx2 hw2 hs ht
    go_enter Try.func34, Try.ntmps34
    go_wp2_with fail
    rw [← HW.out]
    go_loopw [5] (fun i wr => ∃ c : Nat, i = .int .i64 c ∧ c ≤ ks.length ∧ ks.take c = ks'.take c ∧ Below w2.heap.size w2 wr) (fun i _ => ks.length - (intOf i).toNat)
    case atStart => exact ⟨0, rfl, Nat.zero_le _, by simp, Below.refl _ _⟩
    case round =>
      obtain ⟨c, rfl, hcl, htk, hB⟩ := hrel
      have hwr : Below w.heap.size w wr := HH.out.2.1.trans (hB.mono HH.out.2.1.size)
      by_cases hlt : c < ks.length
      · have hlt2 : c < ks'.length := by have := HH.out.1; omega
        obtain ⟨x0, x1, x2, x3⟩ := tbox_cells (tbox_below HH.out.2.2.1 hB)
        obtain ⟨y0, y1, y2, y3⟩ := tbox_cells (tbox_below HH.out.2.2.2.1 hB)
        obtain ⟨b, o, k1, n1, s1, a1, l1, c1, T1, rfl, hbn, e0, e1, e2, e3, hT1, ht1⟩ := IsTm.kid hu c hlt
        obtain ⟨b', o', k2, n2, s2, a2, l2, c2, T2, rfl, hbn', f0, f1, f2, f3, hT2, ht2⟩ := IsTm.kid hv c hlt2
        have q0 := (hwr.cell (p := ⟨b, o + c * 4, none⟩) hbn).trans e0
        have q1 := (hwr.cell (p := ⟨b, o + c * 4 + 1, none⟩) hbn).trans e1
        have q2 := (hwr.cell (p := ⟨b, o + c * 4 + 2, none⟩) hbn).trans e2
        have q3 := (hwr.cell (p := ⟨b, o + c * 4 + 3, none⟩) hbn).trans e3
        have r0 := (hwr.cell (p := ⟨b', o' + c * 4, none⟩) hbn').trans f0
        have r1 := (hwr.cell (p := ⟨b', o' + c * 4 + 1, none⟩) hbn').trans f1
        have r2 := (hwr.cell (p := ⟨b', o' + c * 4 + 2, none⟩) hbn').trans f2
        have r3 := (hwr.cell (p := ⟨b', o' + c * 4 + 3, none⟩) hbn').trans f3
        have hih : ∀ w3, Below wr.heap.size wr w3 → Calls Try.prog 34 #[.agg #[.int .i64 k1, .int .i64 n1, .string s1, .slice a1 l1 c1], .agg #[.int .i64 k2, .int .i64 n2, .string s2, .slice a2 l2 c2]] w3 fun e w4 => ∃ q, decide (T1 = T2) = q ∧ e = .returned (.bool q) ∧ Below wr.heap.size wr w4 := fun w3 h3 =>
          (ih T1 (List.mem_of_getElem? hT1) T2 _ _ w3 (IsTm.later (hwr.trans (h3.mono hwr.size)) (Nat.le_trans hwr.size h3.size) ht1) (IsTm.later (hwr.trans (h3.mono hwr.size)) (Nat.le_trans hwr.size h3.size) ht2)
            (by have h1 := Tm.size_le_sizes (List.mem_of_getElem? hT1); have h2 := HH.out.2.2.2.2.1; rw [Tm.size_mk] at h2; omega) (by have h1 := Tm.size_le_sizes (List.mem_of_getElem? hT2); have h2 := HH.out.2.2.2.2.2; rw [Tm.size_mk] at h2; omega)).mono fun e w4 h4 => ⟨_, rfl, h4.1, h3.trans (h4.2.mono h3.size)⟩
        have HT := Lib.hid (And.intro htk (And.intro hB (And.intro hT1 hT2)))
        clear ih hu hv e0 e1 e2 e3 f0 f1 f2 f3 ht1 ht2 htk hB hT1 hT2 HW
        have hlt8 : b < wr.heap.size ∧ b' < wr.heap.size ∧ w.heap.size < wr.heap.size ∧ w.heap.size + 1 < wr.heap.size := by
          have g1 := (Array.getElem?_eq_some_iff.1 (tbox_below HH.out.2.2.2.1 HT.out.2.1)).1
          have g2 := hwr.size
          exact ⟨by omega, by omega, by omega, by omega⟩
        have HS : ∀ w', Below wr.heap.size wr w' → (w'.cell? ⟨w.heap.size, 3, none⟩ = some (.slice (some ⟨b, o, none⟩) ks.length cap) ∧ w'.cell? ⟨w.heap.size + 1, 3, none⟩ = some (.slice (some ⟨b', o', none⟩) ks'.length cap') ∧
            w'.cell? ⟨b, o + c * 4, none⟩ = some (.int .i64 k1) ∧ w'.cell? ⟨b, o + c * 4 + 1, none⟩ = some (.int .i64 n1) ∧ w'.cell? ⟨b, o + c * 4 + 2, none⟩ = some (.string s1) ∧ w'.cell? ⟨b, o + c * 4 + 3, none⟩ = some (.slice a1 l1 c1) ∧
            w'.cell? ⟨b', o' + c * 4, none⟩ = some (.int .i64 k2) ∧ w'.cell? ⟨b', o' + c * 4 + 1, none⟩ = some (.int .i64 n2) ∧ w'.cell? ⟨b', o' + c * 4 + 2, none⟩ = some (.string s2) ∧ w'.cell? ⟨b', o' + c * 4 + 3, none⟩ = some (.slice a2 l2 c2) ∧ Below wr.heap.size wr w') := fun w' hb =>
          ⟨(hb.cell (p := ⟨_, _, none⟩) hlt8.2.2.1).trans x3, (hb.cell (p := ⟨_, _, none⟩) hlt8.2.2.2).trans y3, (hb.cell (p := ⟨_, _, none⟩) hlt8.1).trans q0, (hb.cell (p := ⟨_, _, none⟩) hlt8.1).trans q1, (hb.cell (p := ⟨_, _, none⟩) hlt8.1).trans q2, (hb.cell (p := ⟨_, _, none⟩) hlt8.1).trans q3,
            (hb.cell (p := ⟨_, _, none⟩) hlt8.2.1).trans r0, (hb.cell (p := ⟨_, _, none⟩) hlt8.2.1).trans r1, (hb.cell (p := ⟨_, _, none⟩) hlt8.2.1).trans r2, (hb.cell (p := ⟨_, _, none⟩) hlt8.2.1).trans r3, hb⟩
        clear hlt8
        go_wp2_with fail
        clear q0 q1 q2 q3 r0 r1 r2 r3 x0 x1 x2 x3 y0 y1 y2 y3
        go_region_held3 (fun w' => w'.cell? ⟨w.heap.size, 3, none⟩ = some (.slice (some ⟨b, o, none⟩) ks.length cap) ∧ w'.cell? ⟨w.heap.size + 1, 3, none⟩ = some (.slice (some ⟨b', o', none⟩) ks'.length cap') ∧
            w'.cell? ⟨b, o + c * 4, none⟩ = some (.int .i64 k1) ∧ w'.cell? ⟨b, o + c * 4 + 1, none⟩ = some (.int .i64 n1) ∧ w'.cell? ⟨b, o + c * 4 + 2, none⟩ = some (.string s1) ∧ w'.cell? ⟨b, o + c * 4 + 3, none⟩ = some (.slice a1 l1 c1) ∧
            w'.cell? ⟨b', o' + c * 4, none⟩ = some (.int .i64 k2) ∧ w'.cell? ⟨b', o' + c * 4 + 1, none⟩ = some (.int .i64 n2) ∧ w'.cell? ⟨b', o' + c * 4 + 2, none⟩ = some (.string s2) ∧ w'.cell? ⟨b', o' + c * 4 + 3, none⟩ = some (.slice a2 l2 c2) ∧ Below wr.heap.size wr w')
          (first | exact HS _ (Below.refl _ _).drew | exact HS _ hb4)
          (first | (go_at_call 34; (with_reducible refine (hih _ (by go_split_ands; assumption)).mono ?_); rintro e w4 ⟨q, hq, rfl, hb4⟩))
        go_wp2_with fail
        · rename_i hnq
          have hq0 : q = false := by simpa using hnq
          rw [hq0] at hq
          have hne := of_decide_eq_false hq
          go_ret
          refine ⟨congrArg (fun b => Ending.returned (Value.bool b)) (decide_eq_false fun e => hne ?_).symm, hwr.trans (hb4.mono hwr.size)⟩
          injection e with _ _ _ e
          have h1 := HT.out.2.2.1
          have h2 := HT.out.2.2.2
          rw [e, h2] at h1
          injection h1 with h1
          exact h1.symm
        · rename_i hnq
          have hq0 : q = true := by simpa using hnq
          rw [hq0] at hq
          have heq := of_decide_eq_true hq
          go_roundw
          case rel =>
            refine ⟨c + 1, by simp, hlt, ?_, HT.out.2.1.trans (hb4.mono HT.out.2.1.size)⟩
            rw [List.take_add_one, List.take_add_one, HT.out.1, HT.out.2.2.1, HT.out.2.2.2, heq]
          case measure => simp [intOf]; omega
      · have hce : c = ks.length := by omega
        subst hce
        obtain ⟨x0, x1, x2, x3⟩ := tbox_cells (tbox_below HH.out.2.2.1 hB)
        clear ih hu hv hB HW
        go_wp2_with fail
        go_ret
        refine ⟨congrArg (fun b => Ending.returned (Value.bool b)) (decide_eq_true ?_).symm, hwr⟩
        rw [List.take_length, HH.out.1, List.take_length] at htk
        rw [htk]

end Go.Proofs.Ytnkfjomnpnbidaa

namespace Go.Proofs.Ytnkfjomnpnbidaa
open Go.RowKit Go.Shelf
set_option linter.unusedVariables false

/-- A slice that owns numbers. -/
def OwnInts (w : World) (base : Nat) (v : Value) (l : List Int) : Prop := w.ownsRow base 3 1 v l.length (l.map (Value.int .i64))
theorem OwnInts.ints {w : World} {base : Nat} {v : Value} {l : List Int} (h : OwnInts w base v l) : IntsAt w v l := ints_of_row h
theorem OwnInts.alloc {w : World} {base : Nat} {v : Value} {l : List Int} (h : OwnInts w base v l) (o : Obj) : OwnInts (w.alloc o) base v l := World.ownsRow.alloc h o
theorem OwnInts.below {w w' : World} {base : Nat} {v : Value} {l : List Int} (h : OwnInts w base v l) (k : Below w.heap.size w w') : OwnInts w' base v l := by
  obtain ⟨hl, ⟨h0, h1⟩ | ⟨g, cap, cur, h0, hg, hh, r⟩⟩ := h
  · exact ⟨hl, Or.inl ⟨h0, h1⟩⟩
  · exact ⟨hl, Or.inr ⟨g, cap, cur, h0, hg, by rw [k.block g (Array.getElem?_eq_some_iff.1 hh).1]; exact hh, r⟩⟩
theorem OwnInts.lt {w : World} {base : Nat} {v : Value} {l : List Int} (h : OwnInts w base v l) : ∀ k, v.ownBlock = some k → base ≤ k := fun k hk => (World.ownsRow.lt h k hk).1
theorem OwnInts.empty (w : World) (base : Nat) (hb : base ≤ w.heap.size) : OwnInts (w.alloc (.cells #[] 3)) base (.slice (some ⟨w.heap.size, 0, none⟩) 0 0) [] :=
  ⟨rfl, Or.inr ⟨w.heap.size, 0, #[], rfl, hb, Go.Deep.blk_alloc_new _ _, Nat.le_refl _, Nat.zero_le _, rfl, rfl⟩⟩
theorem OwnInts.form {w : World} {base : Nat} {v : Value} {l : List Int} (h : OwnInts w base v l) : ∃ a cap, v = .slice a l.length cap := by
  obtain ⟨a, cap, e, _⟩ := h.ints
  exact ⟨a, cap, e⟩

theorem ints_cell {w : World} {a : Addr} {l : List Int} (h : ∀ i (hi : i < l.length), ∃ b o, some a = some ⟨b, o, none⟩ ∧ b < w.heap.size ∧ w.cell? ⟨b, o + i, none⟩ = some (.int .i64 l[i])) (j : Nat) (u : Value) (hu : (l.map (Value.int .i64))[j]? = some u) : w.cell? (a.add j) = some u := by
  have hj : j < l.length := by simpa using (List.getElem?_eq_some_iff.1 hu).1
  obtain ⟨b, o, e, _, hc⟩ := h j hj
  injection e with e
  subst e
  have ea : (Addr.add ⟨b, o, none⟩ j) = ⟨b, o + j, none⟩ := by
    by_cases e : j = 0
    · subst e; simp [Addr.add]
    · simp [Addr.add, e]
  rw [ea, hc, ← hu]
  simp [hj]

/-! What the variables of a term with arguments are. -/

def nums (l : List (Nat × Tm)) : List Int := (l.filter fun x => decide (x.2.kind = 1)).map fun x => x.2.num
theorem foldl_addV (l : List (Nat × Tm)) : ∀ acc, l.foldl addV acc = (nums l).foldl addNew acc := by
  induction l with
  | nil => intro acc; rfl
  | cons x l ih =>
    intro acc
    rw [List.foldl_cons, ih]
    unfold nums addV
    by_cases h : x.2.kind = 1
    · rw [if_pos h, List.filter_cons_of_pos (by simpa using h), List.map_cons, List.foldl_cons]
    · rw [if_neg h, List.filter_cons_of_neg (by simpa using h)]
theorem nums_append (l r : List (Nat × Tm)) : nums (l ++ r) = nums l ++ nums r := by simp [nums]
theorem nums_partss (d e : Nat) : ∀ ks : List Tm, (∀ t ∈ ks, ∀ d e, nums (t.parts d) = nums (t.parts e)) → nums (Tm.partss d ks) = nums (Tm.partss e ks)
  | [], _ => by simp [Tm.partss_nil]
  | t :: ts, h => by rw [Tm.partss_cons, Tm.partss_cons, nums_append, nums_append, h t (by simp) d e, nums_partss d e ts fun u hu => h u (by simp [hu])]
theorem nums_parts (T : Tm) : ∀ d e, nums (T.parts d) = nums (T.parts e) := by
  induction T using Tm.ind with
  | h k n s ks ih =>
    intro d e
    rw [Tm.parts_mk, Tm.parts_mk]
    show nums ([(d, Tm.mk k n s ks)] ++ _) = nums ([(e, Tm.mk k n s ks)] ++ _)
    rw [nums_append, nums_append, nums_partss (d + 1) (e + 1) ks ih]
    congr 1
    unfold nums
    by_cases h : (Tm.mk k n s ks).kind = 1
    · rw [List.filter_cons_of_pos (by simpa using h), List.filter_cons_of_pos (by simpa using h)]; rfl
    · rw [List.filter_cons_of_neg (by simpa using h), List.filter_cons_of_neg (by simpa using h)]

theorem foldl_addNew (acc : List Int) : ∀ xs : List Int, xs.foldl addNew acc = acc ++ (xs.foldl addNew []).filter fun y => !acc.contains y := by
  intro xs
  induction h : xs.length generalizing xs with
  | zero =>
    obtain rfl : xs = [] := List.eq_nil_of_length_eq_zero h
    simp
  | succ n ih =>
    obtain ⟨ys, x, rfl⟩ : ∃ ys x, xs = ys ++ [x] := by
      cases e : xs.reverse with
      | nil => simp at e; subst e; simp at h
      | cons x r => exact ⟨r.reverse, x, by rw [← List.reverse_reverse xs, e]; simp⟩
    have hy := ih ys (by simp at h; omega)
    rw [List.foldl_append, List.foldl_append, hy]
    generalize ys.foldl addNew [] = D
    show addNew _ x = acc ++ (addNew D x).filter _
    unfold addNew
    by_cases ha : acc.contains x = true
    · have h1 : (acc ++ D.filter fun y => !acc.contains y).contains x = true := by simp at ha ⊢; exact Or.inl ha
      rw [if_pos h1]
      split
      · rfl
      · rw [List.filter_append]; simp at ha; simp [ha]
    · have ha' : acc.contains x = false := by simpa using ha
      by_cases hd : D.contains x = true
      · have h1 : (acc ++ D.filter fun y => !acc.contains y).contains x = true := by
          simp at ha' hd ⊢
          exact Or.inr ⟨hd, ha'⟩
        rw [if_pos h1, if_pos hd]
      · have h1 : (acc ++ D.filter fun y => !acc.contains y).contains x = false := by
          simp at ha' hd ⊢
          exact ⟨ha', fun h => absurd h hd⟩
        rw [if_neg (by rw [h1]; decide), if_neg hd, List.filter_append, List.append_assoc]
        simp at ha'
        simp [ha']

theorem addNew_nodup {acc : List Int} (h : acc.Nodup) (x : Int) : (addNew acc x).Nodup := by
  unfold addNew
  split
  · exact h
  · rename_i hc
    rw [List.nodup_append]
    refine ⟨h, by simp, fun a ha b hb => ?_⟩
    simp at hb hc
    subst hb
    intro e
    subst e
    exact hc ha
theorem foldl_nodup : ∀ (xs acc : List Int), acc.Nodup → (xs.foldl addNew acc).Nodup
  | [], acc, h => h
  | x :: xs, acc, h => foldl_nodup xs _ (addNew_nodup h x)
theorem vars_nodup (T : Tm) : T.vars.Nodup := by
  rw [Tm.vars, varsL, foldl_addV]
  exact foldl_nodup _ _ List.nodup_nil
theorem nodup_take {l : List Int} (h : l.Nodup) (i : Nat) (hi : i < l.length) : (l.take i).contains l[i] = false := by
  have e : l = l.take i ++ l[i] :: l.drop (i + 1) := by rw [← List.drop_eq_getElem_cons hi, List.take_append_drop]
  have h' := h
  rw [e, List.nodup_append] at h'
  simp only [List.contains_eq_mem, decide_eq_false_iff_not]
  intro hm
  exact h'.2.2 _ hm _ List.mem_cons_self rfl

theorem vars_two (s : ByteArray) (A B : Tm) : (Tm.mk 3 0 s [A, B]).vars = A.vars ++ B.vars.filter fun y => !A.vars.contains y := by
  have e : nums ((Tm.mk 3 0 s [A, B]).parts 1) = nums (A.parts 1) ++ nums (B.parts 1) := by
    rw [Tm.parts_mk, Tm.partss_cons, Tm.partss_cons, Tm.partss_nil, List.append_nil]
    show nums ([(1, Tm.mk 3 0 s [A, B])] ++ (A.parts 2 ++ B.parts 2)) = _
    rw [nums_append, nums_append, nums_parts A 2 1, nums_parts B 2 1]
    rfl
  rw [Tm.vars, varsL, foldl_addV, e, List.foldl_append, foldl_addNew ((nums (A.parts 1)).foldl addNew []), ← foldl_addV, ← foldl_addV]
  rfl

end Go.Proofs.Ytnkfjomnpnbidaa
