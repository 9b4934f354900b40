/-
  The reference's Ints and Size, and the law's few.
-/
import Derived.Test.YtbdkakpbhijilaaVars
import Derived.Test.YtbdkakpbhijilaaMake
namespace Go.Proofs.Ytbdkakpbhijilaa
open Go.RowKit Go.Shelf
set_option linter.unusedVariables false

theorem below_draws {B : Nat} {a w : World} (h : Below B a w) : ∀ n, Below B a (w.drewN n)
  | 0 => h
  | n + 1 => (below_draws h n).drew

set_option maxRecDepth 100000 in
set_option maxHeartbeats 1000000 in
theorem rsize_at (T : Tm) : ∀ (v : Value) (w : World), Has w v T → T.size ≤ 1000000000000 → Calls Try.prog 30 #[v] w (Gets w (.int .i64 (T.size : Int))) := by
  induction T using Tm.ind with
  | h k n s ks ih =>
    intro v w hv hs
    obtain ⟨k_, n_, s_, a, len, cap, ks_, rfl, e, rfl, hk, hn, hs', hc, hm, ha⟩ := hv.form
    injection e with e1 e2 e3 e4
    subst e1 e2 e3 e4
    rw [Tm.size_mk] at hs ⊢
    have hlen : ks.length ≤ 1000000000000 := by have := Tm.length_le_sizes ks; omega
    obtain ⟨w1, hw1⟩ : ∃ w1, w1 = w.alloc (.cells #[.int .i64 k, .int .i64 n, .string s, .slice a ks.length cap] 24) := ⟨_, rfl⟩
    have hB1 : Below w.heap.size w w1 := by rw [hw1]; exact (Below.refl _ w).alloc (Nat.le_refl _) _
    have hbox : w1.heap[w.heap.size]? = some (.cells #[.int .i64 k, .int .i64 n, .string s, .slice a ks.length cap] 24 (0, 0)) := by rw [hw1]; exact World.alloc_heap_new _ _
    go_enter Try.func30, Try.ntmps30
    have HH := Lib.hid (And.intro hs (And.intro hB1 hbox))
    have HW := Lib.hid hw1
    clear hs hB1 hbox hw1
    go_wp2_with fail
    rw [← HW.out]
    go_loopw [3, 4] (fun x i wr => ∃ c : Nat, x = .int .i64 ((1 + Tm.sizes (ks.take c) : Nat) : Int) ∧ i = .int .i64 c ∧ c ≤ ks.length ∧ Below w1.heap.size w1 wr) (fun _ i _ => ks.length - (intOf i).toNat)
    case atStart => exact ⟨0, by simp [Tm.sizes_nil], rfl, Nat.zero_le _, Below.refl _ _⟩
    case round =>
      obtain ⟨c, rfl, rfl, hcl, hB⟩ := hrel
      have hbr := tbox_below HH.out.2.2 hB
      obtain ⟨b0, b1, b2, b3⟩ := tbox_cells hbr
      have hwr : Below w.heap.size w wr := HH.out.2.1.trans (hB.mono HH.out.2.1.size)
      by_cases hlt : c < ks.length
      · obtain ⟨b, o, k1, n1, s1, a1, l1, c1, T1, rfl, hbn, e0, e1, e2, e3, hT1, ht1⟩ := IsTm.kid hv c hlt
        have q0 := (hwr.cell (p := ⟨b, o + c * 4, none⟩) hbn).trans e0
        have q1 := (hwr.cell (p := ⟨b, o + c * 4 + 1, none⟩) hbn).trans e1
        have q2 := (hwr.cell (p := ⟨b, o + c * 4 + 2, none⟩) hbn).trans e2
        have q3 := (hwr.cell (p := ⟨b, o + c * 4 + 3, none⟩) hbn).trans e3
        have hts := Tm.take_succ_sizes ks c T1 hT1
        have htl := Tm.sizes_take_le ks (c + 1)
        have hs0 := HH.out.1
        obtain ⟨m, hm'⟩ : ∃ m, Tm.sizes (ks.take c) = m := ⟨_, rfl⟩
        obtain ⟨m1, hm1⟩ : ∃ m1, T1.size = m1 := ⟨_, rfl⟩
        have hih := (ih T1 (List.mem_of_getElem? hT1) _ wr (IsTm.later hwr hwr.size ht1) (by omega)).mono (R' := fun e w2 => e = .returned (.int .i64 (m1 : Int)) ∧ Below w1.heap.size w1 w2) (fun e w2 h => ⟨by rw [← hm1]; exact h.1, hB.trans (h.2.mono hB.size)⟩)
        have hmb : m + m1 ≤ 1000000000000 := by omega
        have HR := Lib.hid (And.intro hts (And.intro hm' hm1))
        clear ih hv e0 e1 e2 e3 ht1 hts htl hs0 hT1
        rw [hm']
        clear hm' hm1
        have hmi : ((1 + m : Nat) : Int) + (m1 : Int) ≤ 1000000000001 := by omega
        go_wp2_with (go_at_call 30; refine hih.mono ?_; rintro e w2 ⟨rfl, hB2⟩)
        go_roundw
        case rel =>
          refine ⟨c + 1, ?_, by simp, hlt, hB2⟩
          rw [HR.out.1, HR.out.2.1, HR.out.2.2]
          exact congrArg (Value.int .i64) (by omega)
        case measure => simp [intOf]; omega
      · have hce : c = ks.length := by omega
        subst hce
        clear ih hv
        rw [List.take_length]
        go_wp2_with fail
        go_ret
        exact ⟨rfl, hwr⟩

end Go.Proofs.Ytbdkakpbhijilaa
