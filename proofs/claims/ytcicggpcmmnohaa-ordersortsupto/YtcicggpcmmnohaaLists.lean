/-
  The reference's Lists: whether two lists of terms are one.
-/
import Derived.Test.YtcicggpcmmnohaaSame
namespace Go.Proofs.Ytcicggpcmmnohaa
open Go.RowKit Go.Shelf
open Classical
set_option linter.unusedVariables false

set_option maxRecDepth 100000 in
set_option maxHeartbeats 4000000 in
theorem lists_at (ks ks' : List Tm) (u v : Value) (w : World) (hu : HasTs w u ks) (hv : HasTs w v ks') (hs : Tm.sizes ks ≤ 1000000000000) (ht : Tm.sizes ks' ≤ 1000000000000) :
    Calls Try.prog 14 #[u, v] w (Gets w (.bool (decide (ks = ks')))) := by
  have hl1 : ks.length ≤ 1000000000000 := by have := Tm.length_le_sizes ks; omega
  have hl2 : ks'.length ≤ 1000000000000 := by have := Tm.length_le_sizes ks'; omega
  obtain ⟨a, cap, rfl, hc, hm, ha, hx⟩ := hu
  obtain ⟨a', cap', rfl, hc', hm', ha', hy⟩ := hv
  by_cases hll : ks.length = ks'.length
  case neg =>
    rw [decide_eq_false (fun e => hll (by rw [e]))]
    have hll' : ((ks.length : Int) == (ks'.length : Int)) = false := by simp; omega
    have HL := Lib.hid hll
    clear hx hy hll
    go_enter Try.func14, Try.ntmps14
    go_wp2_with fail
    go_ret
    exact ⟨rfl, Below.refl _ _⟩
  have hll' : ((ks.length : Int) == (ks'.length : Int)) = true := by simp; omega
  have hll'' : ((ks.length : Int) != (ks'.length : Int)) = false := by rw [bne, hll']; rfl
  have HH := Lib.hid (And.intro hll (And.intro hs (And.intro ht (And.intro hx hy))))
  clear hll hs ht hx hy
  go_enter Try.func14, Try.ntmps14
  go_wp2_with fail
  go_loopw [5] (fun i wr => ∃ c : Nat, i = .int .i64 c ∧ c ≤ ks.length ∧ ks.take c = ks'.take c ∧ Below w.heap.size w wr) (fun i _ => ks.length - (intOf i).toNat)
  case atStart => exact ⟨0, rfl, Nat.zero_le _, by simp, Below.refl _ _⟩
  case round =>
    obtain ⟨c, rfl, hcl, htk, hB⟩ := hrel
    by_cases hlt : c < ks.length
    · have hlt2 : c < ks'.length := by have := HH.out.1; omega
      obtain ⟨b, o, k1, n1, s1, a1, l1, c1, rfl, hbn, e0, e1, e2, e3, ht1⟩ := HH.out.2.2.2.1 c hlt
      obtain ⟨b', o', k2, n2, s2, a2, l2, c2, rfl, hbn', f0, f1, f2, f3, ht2⟩ := HH.out.2.2.2.2 c hlt2
      have hbn : b < w.heap.size := hbn
      have hbn' : b' < w.heap.size := hbn'
      have hlt8 : b < wr.heap.size ∧ b' < wr.heap.size := ⟨Nat.lt_of_lt_of_le hbn hB.size, Nat.lt_of_lt_of_le hbn' hB.size⟩
      have HS : ∀ w', Below wr.heap.size wr w' → (w'.cell? ⟨b, o + c * 4, none⟩ = some (.int .i64 k1) ∧ w'.cell? ⟨b, o + c * 4 + 1, none⟩ = some (.int .i64 n1) ∧ w'.cell? ⟨b, o + c * 4 + 2, none⟩ = some (.string s1) ∧ w'.cell? ⟨b, o + c * 4 + 3, none⟩ = some (.slice a1 l1 c1) ∧
          w'.cell? ⟨b', o' + c * 4, none⟩ = some (.int .i64 k2) ∧ w'.cell? ⟨b', o' + c * 4 + 1, none⟩ = some (.int .i64 n2) ∧ w'.cell? ⟨b', o' + c * 4 + 2, none⟩ = some (.string s2) ∧ w'.cell? ⟨b', o' + c * 4 + 3, none⟩ = some (.slice a2 l2 c2) ∧ Below wr.heap.size wr w') := fun w' hb =>
        ⟨(hb.cell (p := ⟨_, _, none⟩) hlt8.1).trans ((hB.cell (p := ⟨b, _, none⟩) hbn).trans e0), (hb.cell (p := ⟨_, _, none⟩) hlt8.1).trans ((hB.cell (p := ⟨b, _, none⟩) hbn).trans e1), (hb.cell (p := ⟨_, _, none⟩) hlt8.1).trans ((hB.cell (p := ⟨b, _, none⟩) hbn).trans e2), (hb.cell (p := ⟨_, _, none⟩) hlt8.1).trans ((hB.cell (p := ⟨b, _, none⟩) hbn).trans e3),
         (hb.cell (p := ⟨_, _, none⟩) hlt8.2).trans ((hB.cell (p := ⟨b', _, none⟩) hbn').trans f0), (hb.cell (p := ⟨_, _, none⟩) hlt8.2).trans ((hB.cell (p := ⟨b', _, none⟩) hbn').trans f1), (hb.cell (p := ⟨_, _, none⟩) hlt8.2).trans ((hB.cell (p := ⟨b', _, none⟩) hbn').trans f2), (hb.cell (p := ⟨_, _, none⟩) hlt8.2).trans ((hB.cell (p := ⟨b', _, none⟩) hbn').trans f3), hb⟩
      obtain ⟨T1, hT1⟩ : ∃ T1, ks[c] = T1 := ⟨_, rfl⟩
      obtain ⟨T2, hT2⟩ : ∃ T2, ks'[c] = T2 := ⟨_, rfl⟩
      rw [hT1] at ht1
      rw [hT2] at ht2
      have hm1 : T1 ∈ ks := by rw [← hT1]; exact List.getElem_mem _
      have hm2 : T2 ∈ ks' := by rw [← hT2]; exact List.getElem_mem _
      have hih : ∀ w3, Below wr.heap.size wr w3 → Calls Try.prog 34 #[.agg #[.int .i64 k1, .int .i64 n1, .string s1, .slice a1 l1 c1], .agg #[.int .i64 k2, .int .i64 n2, .string s2, .slice a2 l2 c2]] w3 fun e w4 => ∃ q, decide (T1 = T2) = q ∧ e = .returned (.bool q) ∧ Below wr.heap.size wr w4 := fun w3 h3 =>
        (rsame_at T1 T2 _ _ w3 (IsTm.later (hB.trans (h3.mono hB.size)) (Nat.le_trans hB.size h3.size) ht1) (IsTm.later (hB.trans (h3.mono hB.size)) (Nat.le_trans hB.size h3.size) ht2)
          (by have h1 := Tm.size_le_sizes hm1; have h2 := HH.out.2.1; omega) (by have h1 := Tm.size_le_sizes hm2; have h2 := HH.out.2.2.1; omega)).mono fun e w4 h4 => ⟨_, rfl, h4.1, h3.trans (h4.2.mono h3.size)⟩
      have HT := Lib.hid (And.intro htk (And.intro hB (And.intro hT1 hT2)))
      clear e0 e1 e2 e3 f0 f1 f2 f3 ht1 ht2 htk hB hT1 hT2 hlt8 hm1 hm2
      go_wp2_with fail
      go_region_held3 (fun w' => w'.cell? ⟨b, o + c * 4, none⟩ = some (.int .i64 k1) ∧ w'.cell? ⟨b, o + c * 4 + 1, none⟩ = some (.int .i64 n1) ∧ w'.cell? ⟨b, o + c * 4 + 2, none⟩ = some (.string s1) ∧ w'.cell? ⟨b, o + c * 4 + 3, none⟩ = some (.slice a1 l1 c1) ∧
          w'.cell? ⟨b', o' + c * 4, none⟩ = some (.int .i64 k2) ∧ w'.cell? ⟨b', o' + c * 4 + 1, none⟩ = some (.int .i64 n2) ∧ w'.cell? ⟨b', o' + c * 4 + 2, none⟩ = some (.string s2) ∧ w'.cell? ⟨b', o' + c * 4 + 3, none⟩ = some (.slice a2 l2 c2) ∧ Below wr.heap.size wr w')
        (first | exact HS _ (Below.refl _ _).drew | exact HS _ hb4)
        (first | (go_at_call 34; (with_reducible refine (hih _ (by go_split_ands; assumption)).mono ?_); rintro e w4 ⟨q, hq, rfl, hb4⟩))
      go_wp2_with fail
      · rename_i hnq
        have hq0 : q = false := by simpa using hnq
        rw [hq0] at hq
        have hne := of_decide_eq_false hq
        go_ret
        refine ⟨congrArg (fun b => Ending.returned (Value.bool b)) (decide_eq_false fun e => hne ?_).symm, HT.out.2.1.trans (hb4.mono HT.out.2.1.size)⟩
        subst e
        rw [← HT.out.2.2.1, ← HT.out.2.2.2]
      · rename_i hnq
        have hq0 : q = true := by simpa using hnq
        rw [hq0] at hq
        have heq := of_decide_eq_true hq
        go_roundw
        case rel =>
          refine ⟨c + 1, by simp, hlt, ?_, HT.out.2.1.trans (hb4.mono HT.out.2.1.size)⟩
          rw [List.take_add_one, List.take_add_one, HT.out.1, List.getElem?_eq_getElem hlt, List.getElem?_eq_getElem hlt2, HT.out.2.2.1, HT.out.2.2.2, heq]
        case measure => simp [intOf]; omega
    · have hce : c = ks.length := by omega
      subst hce
      go_wp2_with fail
      go_ret
      refine ⟨congrArg (fun b => Ending.returned (Value.bool b)) (decide_eq_true ?_).symm, hB⟩
      rw [List.take_length, HH.out.1, List.take_length] at htk
      exact htk

end Go.Proofs.Ytcicggpcmmnohaa
