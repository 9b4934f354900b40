/-
  The reference's Ints and Size, and the law's few.
-/
import Derived.Test.YtllggpmmcamkmaaVars
import Derived.Test.YtllggpmmcamkmaaMake
namespace Go.Proofs.Ytllggpmmcamkmaa
open Go.RowKit Go.Shelf
set_option linter.unusedVariables false

theorem below_draws {B : Nat} {a w : World} (h : Below B a w) : ∀ n, Below B a (w.drewN n)
  | 0 => h
  | n + 1 => (below_draws h n).drew

set_option maxRecDepth 100000 in
set_option maxHeartbeats 1000000 in
theorem ints_at (u v : Value) (l r : List Int) (w : World) (hu : IntsAt w u l) (hv : IntsAt w v r) (hl : l.length ≤ 1000000000000) (hr : r.length ≤ 1000000000000) :
    Calls Try.prog 18 #[u, v] w (Gets w (.bool (decide (l = r)))) := by
  obtain ⟨a, ca, rfl, ha1, ha2, ha3, ha4⟩ := hu
  obtain ⟨b, cb, rfl, hb1, hb2, hb3, hb4⟩ := hv
  by_cases hlr : l.length = r.length
  · have hli : (l.length : Int) = (r.length : Int) := by omega
    have hL : l.length ≤ 1000000000000 := hl
    have hli' : ((l.length : Int) == (r.length : Int)) = true := by simp [hlr]
    go_enter Try.func18, Try.ntmps18
    have HH := Lib.hid (And.intro hlr (And.intro hli hr))
    clear hlr hli hr
    go_wp2_with fail
    go_loopw [5] (fun i wr => ∃ c : Nat, i = .int .i64 c ∧ c ≤ l.length ∧ l.take c = r.take c ∧ Below w.heap.size w wr) (fun i _ => l.length - (intOf i).toNat)
    case atStart => exact ⟨0, rfl, Nat.zero_le _, by simp, Below.refl _ _⟩
    case round =>
      obtain ⟨c, rfl, hc, ht, hB⟩ := hrel
      have HT := Lib.hid (And.intro ht hB)
      by_cases hlt : c < l.length
      · have hlt' : c < r.length := by have := HH.out.1; omega
        obtain ⟨b1, o1, rfl, hb1', d1⟩ := ha4 c hlt
        obtain ⟨b2, o2, rfl, hb2', d2⟩ := hb4 c hlt'
        have q1 := (hB.cell (p := ⟨b1, o1 + c, none⟩) hb1').trans d1
        have q2 := (hB.cell (p := ⟨b2, o2 + c, none⟩) hb2').trans d2
        obtain ⟨x, hx⟩ : ∃ x, l[c] = x := ⟨_, rfl⟩
        obtain ⟨y, hy⟩ : ∃ y, r[c] = y := ⟨_, rfl⟩
        rw [hx] at q1
        rw [hy] at q2
        have HX := Lib.hid (And.intro hx hy)
        clear d1 d2 ha4 hb4 ht hB hx hy
        go_wp2_with fail
        go_region
        go_wp2_with fail
        · rename_i hne
          have hne' : x ≠ y := by simpa using hne
          go_ret
          refine ⟨congrArg (fun b => Ending.returned (Value.bool b)) (decide_eq_false fun e => ?_).symm, HT.out.2.drew⟩
          subst e
          exact hne' (HX.out.1.symm.trans HX.out.2)
        · rename_i hne
          have hxy : x = y := by simpa using hne
          go_roundw
          case rel =>
            refine ⟨c + 1, by simp, hlt, ?_, HT.out.2.drew⟩
            rw [List.take_add_one, List.take_add_one, HT.out.1, List.getElem?_eq_getElem hlt, List.getElem?_eq_getElem hlt', HX.out.1, HX.out.2, hxy]
          case measure => simp [intOf]; omega
      · have hce : c = l.length := by omega
        subst hce
        clear ha4 hb4
        go_wp2_with fail
        go_ret
        refine ⟨congrArg (fun b => Ending.returned (Value.bool b)) (decide_eq_true ?_).symm, HT.out.2⟩
        have h1 := HT.out.1
        rwa [List.take_length, HH.out.1, List.take_length] at h1
  · have hne : ¬ (l.length : Int) = (r.length : Int) := by omega
    have hne' : ((l.length : Int) == (r.length : Int)) = false := by simp; omega
    have HH := Lib.hid hlr
    clear ha4 hb4 hlr
    go_enter Try.func18, Try.ntmps18
    go_wp2_with fail
    go_ret
    exact ⟨congrArg (fun b => Ending.returned (Value.bool b)) (decide_eq_false fun e => HH.out (by rw [e])).symm, Below.refl _ _⟩

set_option maxRecDepth 100000 in
set_option maxHeartbeats 1000000 in
theorem rsize_at (T : Tm) : ∀ (v : Value) (w : World), Has w v T → T.size ≤ 1000000000000 → Calls Try.prog 15 #[v] w (Gets w (.int .i64 (T.size : Int))) := by
  induction T using Tm.ind with
  | h k n s ks ih =>
    intro v w hv hs
    obtain ⟨k_, n_, s_, a, len, cap, ks_, rfl, e, rfl, hk, hn, hs', hc, hm, ha⟩ := hv.form
    injection e with e1 e2 e3 e4
    subst e1 e2 e3 e4
    rw [Tm.size_mk] at hs ⊢
    have hlen : ks.length ≤ 1000000000000 := by have := Tm.length_le_sizes ks; omega
    obtain ⟨w1, hw1⟩ : ∃ w1, w1 = w.alloc (.cells #[.int .i64 k, .int .i64 n, .string s, .slice a ks.length cap] 24) := ⟨_, rfl⟩
    have hB1 : Below w.heap.size w w1 := by rw [hw1]; exact (Below.refl _ w).alloc (Nat.le_refl _) _
    have hbox : w1.heap[w.heap.size]? = some (.cells #[.int .i64 k, .int .i64 n, .string s, .slice a ks.length cap] 24 (0, 0)) := by rw [hw1]; exact World.alloc_heap_new _ _
    go_enter Try.func15, Try.ntmps15
    have HH := Lib.hid (And.intro hs (And.intro hB1 hbox))
    have HW := Lib.hid hw1
    clear hs hB1 hbox hw1
    go_wp2_with fail
    rw [← HW.out]
    go_loopw [3, 4] (fun x i wr => ∃ c : Nat, x = .int .i64 ((1 + Tm.sizes (ks.take c) : Nat) : Int) ∧ i = .int .i64 c ∧ c ≤ ks.length ∧ Below w1.heap.size w1 wr) (fun _ i _ => ks.length - (intOf i).toNat)
    case atStart => exact ⟨0, by simp [Tm.sizes_nil], rfl, Nat.zero_le _, Below.refl _ _⟩
    case round =>
      obtain ⟨c, rfl, rfl, hcl, hB⟩ := hrel
      have hbr := tbox_below HH.out.2.2 hB
      obtain ⟨b0, b1, b2, b3⟩ := tbox_cells hbr
      have hwr : Below w.heap.size w wr := HH.out.2.1.trans (hB.mono HH.out.2.1.size)
      by_cases hlt : c < ks.length
      · obtain ⟨b, o, k1, n1, s1, a1, l1, c1, T1, rfl, hbn, e0, e1, e2, e3, hT1, ht1⟩ := IsTm.kid hv c hlt
        have q0 := (hwr.cell (p := ⟨b, o + c * 4, none⟩) hbn).trans e0
        have q1 := (hwr.cell (p := ⟨b, o + c * 4 + 1, none⟩) hbn).trans e1
        have q2 := (hwr.cell (p := ⟨b, o + c * 4 + 2, none⟩) hbn).trans e2
        have q3 := (hwr.cell (p := ⟨b, o + c * 4 + 3, none⟩) hbn).trans e3
        have hts := Tm.take_succ_sizes ks c T1 hT1
        have htl := Tm.sizes_take_le ks (c + 1)
        have hs0 := HH.out.1
        obtain ⟨m, hm'⟩ : ∃ m, Tm.sizes (ks.take c) = m := ⟨_, rfl⟩
        obtain ⟨m1, hm1⟩ : ∃ m1, T1.size = m1 := ⟨_, rfl⟩
        have hih := (ih T1 (List.mem_of_getElem? hT1) _ wr (IsTm.later hwr hwr.size ht1) (by omega)).mono (R' := fun e w2 => e = .returned (.int .i64 (m1 : Int)) ∧ Below w1.heap.size w1 w2) (fun e w2 h => ⟨by rw [← hm1]; exact h.1, hB.trans (h.2.mono hB.size)⟩)
        have hmb : m + m1 ≤ 1000000000000 := by omega
        have HR := Lib.hid (And.intro hts (And.intro hm' hm1))
        clear ih hv e0 e1 e2 e3 ht1 hts htl hs0 hT1
        rw [hm']
        clear hm' hm1
        have hmi : ((1 + m : Nat) : Int) + (m1 : Int) ≤ 1000000000001 := by omega
        go_wp2_with (go_at_call 15; refine hih.mono ?_; rintro e w2 ⟨rfl, hB2⟩)
        go_roundw
        case rel =>
          refine ⟨c + 1, ?_, by simp, hlt, hB2⟩
          rw [HR.out.1, HR.out.2.1, HR.out.2.2]
          exact congrArg (Value.int .i64) (by omega)
        case measure => simp [intOf]; omega
      · have hce : c = ks.length := by omega
        subst hce
        clear ih hv
        rw [List.take_length]
        go_wp2_with fail
        go_ret
        exact ⟨rfl, hwr⟩

end Go.Proofs.Ytllggpmmcamkmaa
