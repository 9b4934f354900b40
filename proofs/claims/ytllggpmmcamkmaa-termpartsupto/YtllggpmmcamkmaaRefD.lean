/-
  The reference's Vars, may and Check.
-/
import Derived.Test.YtllggpmmcamkmaaRefC
import Derived.Test.YtllggpmmcamkmaaChecksM
namespace Go.Proofs.Ytllggpmmcamkmaa
open Go.RowKit Go.Shelf
set_option linter.unusedVariables false

theorem ints_nil (w : World) : IntsAt w (.slice none 0 0) [] := ⟨none, 0, rfl, Nat.le_refl _, Nat.zero_le _, fun _ => rfl, fun i hi => absurd hi (Nat.not_lt_zero _)⟩

set_option maxRecDepth 100000 in
set_option maxHeartbeats 2000000 in
theorem rvars_at (v : Value) (T : Tm) (w : World) (hv : Has w v T) (hs : T.size ≤ 1000000000) :
    Calls Try.prog 20 #[v] w fun e w' => ∃ a c, e = .returned (.slice a T.vars.length c) ∧ IntsAt w' (.slice a T.vars.length c) T.vars ∧ Below w.heap.size w w' := by
  obtain ⟨k, n, s, a, len, cap, ks, rfl, e, -⟩ := hv.form
  clear e
  have hg := fun w1 (hb : Below w.heap.size w w1) => (gather_at T [] _ _ w1 (ints_nil w1) (hv.below hb) (by simpa using hs)).mono (R' := fun e w' => ∃ a c, e = .returned (.slice a T.vars.length c) ∧ IntsAt w' (.slice a T.vars.length c) T.vars ∧ Below w.heap.size w w') (fun e w' h => by
    obtain ⟨r, rfl, hr, hb'⟩ := h
    obtain ⟨a, c, e9, _⟩ := id hr
    subst e9
    exact ⟨a, c, rfl, hr, hb.trans (hb'.mono hb.size)⟩)
  generalize T.vars = V at *
  have hB1 : ∀ o, Below w.heap.size w (w.alloc o) := fun o => (Below.refl _ w).alloc (Nat.le_refl _) o
  clear hv hs
  go_enter Try.func20, Try.ntmps20
  go_wp2_with (go_at_call 45; refine (hg _ (by first | exact hB1 _ | exact Below.refl _ _)).mono ?_; rintro e w2 ⟨a9, c9, rfl, hr, hb⟩)
  go_ret
  exact ⟨_, _, rfl, hr, hb⟩

set_option maxRecDepth 100000 in
set_option maxHeartbeats 8000000 in
theorem rmay_at (levels : Int) (T : Tm) : ∀ (v : Value) (w : World), Has w v T → T.size ≤ 1000000000 → Calls Try.prog 43 #[v, .int .i64 levels] w (Gets w (.bool (T.valid levels))) := by
  induction T using Tm.ind with
  | h k n s ks ih =>
    intro v w hv hs
    obtain ⟨k_, n_, s_, a, len, cap, ks_, rfl, e, rfl, hk, hn, hs', hc, hm, ha⟩ := hv.form
    injection e with e1 e2 e3 e4
    subst e1 e2 e3 e4
    rw [Tm.size_mk] at hs
    have hlen : ks.length ≤ 1000000000 := by have := Tm.length_le_sizes ks; omega
    have hlenI : (ks.length : Int) ≤ 9223372036854775807 := by omega
    have hsz : (s.size : Int) ≤ 9223372036854775807 := by unfold maxLen at hs'; omega
    obtain ⟨w1, hw1⟩ : ∃ w1, w1 = w.alloc (.cells #[.int .i64 k, .int .i64 n, .string s, .slice a ks.length cap] 24) := ⟨_, rfl⟩
    have hB1 : Below w.heap.size w w1 := by rw [hw1]; exact (Below.refl _ w).alloc (Nat.le_refl _) _
    have hbox : w1.heap[w.heap.size]? = some (.cells #[.int .i64 k, .int .i64 n, .string s, .slice a ks.length cap] 24 (0, 0)) := by rw [hw1]; exact World.alloc_heap_new _ _
    rw [valid_mk]
    obtain ⟨F, hF⟩ : ∃ F, (Tm.mk k n s ks).formed levels = F := ⟨_, rfl⟩
    rw [hF]
    rw [Tm.formed_eq levels k n s ks ks.length rfl] at hF
    have HF := Lib.hid hF
    have HH := Lib.hid (And.intro hs (And.intro hw1 (And.intro hB1 hbox)))
    clear hs hw1 hB1 hbox hF
    rcases Decidable.em (k = 1) with rfl | h1
    · skip
      go_enter Try.func43, Try.ntmps43
      go_wp2_with fail
      all_goals
        try rw [← HH.out.2.1]
        go_loopw [6, 7] (fun x i wr => ∃ c : Nat, x = .bool (F && (ks.take c).all (Tm.valid levels)) ∧ i = .int .i64 c ∧ c ≤ ks.length ∧ Below w1.heap.size w1 wr) (fun _ i _ => ks.length - (intOf i).toNat)
        case atStart =>
          refine ⟨0, congrArg Value.bool (?_ : _ = (F && (ks.take 0).all (Tm.valid levels))), rfl, Nat.zero_le _, by first | exact Below.refl _ _ | (rw [HH.out.2.1]; exact hb9)⟩
          rw [List.take_zero, List.all_nil, Bool.and_true]
          have hF := HF.out
          clear HF HH ih hv
          subst hF
          rw [Bool.eq_iff_iff]
          first | (simp_all; done) | (simp_all; omega) | grind
        case round =>
          obtain ⟨c, rfl, rfl, hcl, hB⟩ := hrel
          have hbr := tbox_below HH.out.2.2.2 hB
          obtain ⟨b0, b1, b2, b3⟩ := tbox_cells hbr
          have hwr : Below w.heap.size w wr := HH.out.2.2.1.trans (hB.mono HH.out.2.2.1.size)
          obtain ⟨G, hG⟩ : ∃ G, (F && (ks.take c).all (Tm.valid levels)) = G := ⟨_, rfl⟩
          obtain ⟨R, hR⟩ : ∃ R, (F && ks.all (Tm.valid levels)) = R := ⟨_, rfl⟩
          rw [hG]
          by_cases hlt : c < ks.length
          · cases G with
            | false =>
              have hout : R = false := by
                rw [← hR]
                have h := congrArg (· && (ks.drop c).all (Tm.valid levels)) hG
                rw [Bool.false_and] at h
                have e : ((ks.take c).all (Tm.valid levels) && (ks.drop c).all (Tm.valid levels)) = ks.all (Tm.valid levels) := by rw [← List.all_append, List.take_append_drop]
                rw [← e, ← Bool.and_assoc]; exact h
              have HO := Lib.hid (And.intro hR hout)
              clear hR hout hG ih hv hbr
              go_wp2_with fail
              go_ret
              exact ⟨congrArg (fun b => Ending.returned (Value.bool b)) (HO.out.1.trans HO.out.2).symm, hwr⟩
            | true =>
              obtain ⟨b, o, k1, n1, s1, a1, l1, c1, T1, rfl, hbn, e0, e1, e2, e3, hT1, ht1⟩ := IsTm.kid hv c hlt
              have q0 := (hwr.cell (p := ⟨b, o + c * 4, none⟩) hbn).trans e0
              have q1 := (hwr.cell (p := ⟨b, o + c * 4 + 1, none⟩) hbn).trans e1
              have q2 := (hwr.cell (p := ⟨b, o + c * 4 + 2, none⟩) hbn).trans e2
              have q3 := (hwr.cell (p := ⟨b, o + c * 4 + 3, none⟩) hbn).trans e3
              have hs0 := HH.out.1
              have hsz1 := Tm.size_le_sizes (List.mem_of_getElem? hT1)
              have hnx : (F && (ks.take (c + 1)).all (Tm.valid levels)) = T1.valid levels := by
                have e : ks.take (c + 1) = ks.take c ++ [T1] := by rw [List.take_add_one, hT1]; rfl
                rw [e, List.all_append, ← Bool.and_assoc, hG]; simp
              obtain ⟨m1, hm1⟩ : ∃ m1, T1.valid levels = m1 := ⟨_, rfl⟩
              have hih := (ih T1 (List.mem_of_getElem? hT1) _ wr (IsTm.later hwr hwr.size ht1) (by omega)).mono (R' := fun e w2 => e = .returned (.bool m1) ∧ Below w1.heap.size w1 w2) (fun e w2 h => ⟨by rw [← hm1]; exact h.1, hB.trans (h.2.mono hB.size)⟩)
              have HR := Lib.hid (hnx.trans hm1)
              clear ih hv e0 e1 e2 e3 ht1 hs0 hT1 hsz1 hnx hm1 hG hR hbr
              go_wp2_with (go_at_call 43; refine hih.mono ?_; rintro e w2 ⟨rfl, hB2⟩)
              all_goals go_roundw
              all_goals first
                | (refine ⟨c + 1, ?_, by simp, hlt, hB2⟩
                   rw [HR.out])
                | (simp [intOf]; omega)
          · have hce : c = ks.length := by omega
            subst hce
            rw [List.take_length] at hG
            have HO := Lib.hid hG
            clear ih hv hG hR hbr
            go_wp2_with fail
            all_goals go_ret
            all_goals exact ⟨congrArg (fun b => Ending.returned (Value.bool b)) HO.out.symm, hwr⟩
    · rcases Decidable.em (k = 2) with rfl | h2
      · skip
        go_enter Try.func43, Try.ntmps43
        go_wp2_with fail
        all_goals
          try rw [← HH.out.2.1]
          go_loopw [6, 7] (fun x i wr => ∃ c : Nat, x = .bool (F && (ks.take c).all (Tm.valid levels)) ∧ i = .int .i64 c ∧ c ≤ ks.length ∧ Below w1.heap.size w1 wr) (fun _ i _ => ks.length - (intOf i).toNat)
          case atStart =>
            refine ⟨0, congrArg Value.bool (?_ : _ = (F && (ks.take 0).all (Tm.valid levels))), rfl, Nat.zero_le _, by first | exact Below.refl _ _ | (rw [HH.out.2.1]; exact hb9)⟩
            rw [List.take_zero, List.all_nil, Bool.and_true]
            have hF := HF.out
            clear HF HH ih hv
            subst hF
            rw [Bool.eq_iff_iff]
            first | (simp_all; done) | (simp_all; omega) | grind
          case round =>
            obtain ⟨c, rfl, rfl, hcl, hB⟩ := hrel
            have hbr := tbox_below HH.out.2.2.2 hB
            obtain ⟨b0, b1, b2, b3⟩ := tbox_cells hbr
            have hwr : Below w.heap.size w wr := HH.out.2.2.1.trans (hB.mono HH.out.2.2.1.size)
            obtain ⟨G, hG⟩ : ∃ G, (F && (ks.take c).all (Tm.valid levels)) = G := ⟨_, rfl⟩
            obtain ⟨R, hR⟩ : ∃ R, (F && ks.all (Tm.valid levels)) = R := ⟨_, rfl⟩
            rw [hG]
            by_cases hlt : c < ks.length
            · cases G with
              | false =>
                have hout : R = false := by
                  rw [← hR]
                  have h := congrArg (· && (ks.drop c).all (Tm.valid levels)) hG
                  rw [Bool.false_and] at h
                  have e : ((ks.take c).all (Tm.valid levels) && (ks.drop c).all (Tm.valid levels)) = ks.all (Tm.valid levels) := by rw [← List.all_append, List.take_append_drop]
                  rw [← e, ← Bool.and_assoc]; exact h
                have HO := Lib.hid (And.intro hR hout)
                clear hR hout hG ih hv hbr
                go_wp2_with fail
                go_ret
                exact ⟨congrArg (fun b => Ending.returned (Value.bool b)) (HO.out.1.trans HO.out.2).symm, hwr⟩
              | true =>
                obtain ⟨b, o, k1, n1, s1, a1, l1, c1, T1, rfl, hbn, e0, e1, e2, e3, hT1, ht1⟩ := IsTm.kid hv c hlt
                have q0 := (hwr.cell (p := ⟨b, o + c * 4, none⟩) hbn).trans e0
                have q1 := (hwr.cell (p := ⟨b, o + c * 4 + 1, none⟩) hbn).trans e1
                have q2 := (hwr.cell (p := ⟨b, o + c * 4 + 2, none⟩) hbn).trans e2
                have q3 := (hwr.cell (p := ⟨b, o + c * 4 + 3, none⟩) hbn).trans e3
                have hs0 := HH.out.1
                have hsz1 := Tm.size_le_sizes (List.mem_of_getElem? hT1)
                have hnx : (F && (ks.take (c + 1)).all (Tm.valid levels)) = T1.valid levels := by
                  have e : ks.take (c + 1) = ks.take c ++ [T1] := by rw [List.take_add_one, hT1]; rfl
                  rw [e, List.all_append, ← Bool.and_assoc, hG]; simp
                obtain ⟨m1, hm1⟩ : ∃ m1, T1.valid levels = m1 := ⟨_, rfl⟩
                have hih := (ih T1 (List.mem_of_getElem? hT1) _ wr (IsTm.later hwr hwr.size ht1) (by omega)).mono (R' := fun e w2 => e = .returned (.bool m1) ∧ Below w1.heap.size w1 w2) (fun e w2 h => ⟨by rw [← hm1]; exact h.1, hB.trans (h.2.mono hB.size)⟩)
                have HR := Lib.hid (hnx.trans hm1)
                clear ih hv e0 e1 e2 e3 ht1 hs0 hT1 hsz1 hnx hm1 hG hR hbr
                go_wp2_with (go_at_call 43; refine hih.mono ?_; rintro e w2 ⟨rfl, hB2⟩)
                all_goals go_roundw
                all_goals first
                  | (refine ⟨c + 1, ?_, by simp, hlt, hB2⟩
                     rw [HR.out])
                  | (simp [intOf]; omega)
            · have hce : c = ks.length := by omega
              subst hce
              rw [List.take_length] at hG
              have HO := Lib.hid hG
              clear ih hv hG hR hbr
              go_wp2_with fail
              all_goals go_ret
              all_goals exact ⟨congrArg (fun b => Ending.returned (Value.bool b)) HO.out.symm, hwr⟩
      · rcases Decidable.em (k = 3) with rfl | h3
        · rcases Decidable.em (n = 0) with rfl | hn0
          · skip
            go_enter Try.func43, Try.ntmps43
            go_wp2_with fail
            all_goals
              try rw [← HH.out.2.1]
              go_loopw [6, 7] (fun x i wr => ∃ c : Nat, x = .bool (F && (ks.take c).all (Tm.valid levels)) ∧ i = .int .i64 c ∧ c ≤ ks.length ∧ Below w1.heap.size w1 wr) (fun _ i _ => ks.length - (intOf i).toNat)
              case atStart =>
                refine ⟨0, congrArg Value.bool (?_ : _ = (F && (ks.take 0).all (Tm.valid levels))), rfl, Nat.zero_le _, by first | exact Below.refl _ _ | (rw [HH.out.2.1]; exact hb9)⟩
                rw [List.take_zero, List.all_nil, Bool.and_true]
                have hF := HF.out
                clear HF HH ih hv
                subst hF
                rw [Bool.eq_iff_iff]
                first | (simp_all; done) | (simp_all; omega) | grind
              case round =>
                obtain ⟨c, rfl, rfl, hcl, hB⟩ := hrel
                have hbr := tbox_below HH.out.2.2.2 hB
                obtain ⟨b0, b1, b2, b3⟩ := tbox_cells hbr
                have hwr : Below w.heap.size w wr := HH.out.2.2.1.trans (hB.mono HH.out.2.2.1.size)
                obtain ⟨G, hG⟩ : ∃ G, (F && (ks.take c).all (Tm.valid levels)) = G := ⟨_, rfl⟩
                obtain ⟨R, hR⟩ : ∃ R, (F && ks.all (Tm.valid levels)) = R := ⟨_, rfl⟩
                rw [hG]
                by_cases hlt : c < ks.length
                · cases G with
                  | false =>
                    have hout : R = false := by
                      rw [← hR]
                      have h := congrArg (· && (ks.drop c).all (Tm.valid levels)) hG
                      rw [Bool.false_and] at h
                      have e : ((ks.take c).all (Tm.valid levels) && (ks.drop c).all (Tm.valid levels)) = ks.all (Tm.valid levels) := by rw [← List.all_append, List.take_append_drop]
                      rw [← e, ← Bool.and_assoc]; exact h
                    have HO := Lib.hid (And.intro hR hout)
                    clear hR hout hG ih hv hbr
                    go_wp2_with fail
                    go_ret
                    exact ⟨congrArg (fun b => Ending.returned (Value.bool b)) (HO.out.1.trans HO.out.2).symm, hwr⟩
                  | true =>
                    obtain ⟨b, o, k1, n1, s1, a1, l1, c1, T1, rfl, hbn, e0, e1, e2, e3, hT1, ht1⟩ := IsTm.kid hv c hlt
                    have q0 := (hwr.cell (p := ⟨b, o + c * 4, none⟩) hbn).trans e0
                    have q1 := (hwr.cell (p := ⟨b, o + c * 4 + 1, none⟩) hbn).trans e1
                    have q2 := (hwr.cell (p := ⟨b, o + c * 4 + 2, none⟩) hbn).trans e2
                    have q3 := (hwr.cell (p := ⟨b, o + c * 4 + 3, none⟩) hbn).trans e3
                    have hs0 := HH.out.1
                    have hsz1 := Tm.size_le_sizes (List.mem_of_getElem? hT1)
                    have hnx : (F && (ks.take (c + 1)).all (Tm.valid levels)) = T1.valid levels := by
                      have e : ks.take (c + 1) = ks.take c ++ [T1] := by rw [List.take_add_one, hT1]; rfl
                      rw [e, List.all_append, ← Bool.and_assoc, hG]; simp
                    obtain ⟨m1, hm1⟩ : ∃ m1, T1.valid levels = m1 := ⟨_, rfl⟩
                    have hih := (ih T1 (List.mem_of_getElem? hT1) _ wr (IsTm.later hwr hwr.size ht1) (by omega)).mono (R' := fun e w2 => e = .returned (.bool m1) ∧ Below w1.heap.size w1 w2) (fun e w2 h => ⟨by rw [← hm1]; exact h.1, hB.trans (h.2.mono hB.size)⟩)
                    have HR := Lib.hid (hnx.trans hm1)
                    clear ih hv e0 e1 e2 e3 ht1 hs0 hT1 hsz1 hnx hm1 hG hR hbr
                    go_wp2_with (go_at_call 43; refine hih.mono ?_; rintro e w2 ⟨rfl, hB2⟩)
                    all_goals go_roundw
                    all_goals first
                      | (refine ⟨c + 1, ?_, by simp, hlt, hB2⟩
                         rw [HR.out])
                      | (simp [intOf]; omega)
                · have hce : c = ks.length := by omega
                  subst hce
                  rw [List.take_length] at hG
                  have HO := Lib.hid hG
                  clear ih hv hG hR hbr
                  go_wp2_with fail
                  all_goals go_ret
                  all_goals exact ⟨congrArg (fun b => Ending.returned (Value.bool b)) HO.out.symm, hwr⟩
          · skip
            go_enter Try.func43, Try.ntmps43
            go_wp2_with fail
            all_goals
              try rw [← HH.out.2.1]
              go_loopw [6, 7] (fun x i wr => ∃ c : Nat, x = .bool (F && (ks.take c).all (Tm.valid levels)) ∧ i = .int .i64 c ∧ c ≤ ks.length ∧ Below w1.heap.size w1 wr) (fun _ i _ => ks.length - (intOf i).toNat)
              case atStart =>
                refine ⟨0, congrArg Value.bool (?_ : _ = (F && (ks.take 0).all (Tm.valid levels))), rfl, Nat.zero_le _, by first | exact Below.refl _ _ | (rw [HH.out.2.1]; exact hb9)⟩
                rw [List.take_zero, List.all_nil, Bool.and_true]
                have hF := HF.out
                clear HF HH ih hv
                subst hF
                rw [Bool.eq_iff_iff]
                first | (simp_all; done) | (simp_all; omega) | grind
              case round =>
                obtain ⟨c, rfl, rfl, hcl, hB⟩ := hrel
                have hbr := tbox_below HH.out.2.2.2 hB
                obtain ⟨b0, b1, b2, b3⟩ := tbox_cells hbr
                have hwr : Below w.heap.size w wr := HH.out.2.2.1.trans (hB.mono HH.out.2.2.1.size)
                obtain ⟨G, hG⟩ : ∃ G, (F && (ks.take c).all (Tm.valid levels)) = G := ⟨_, rfl⟩
                obtain ⟨R, hR⟩ : ∃ R, (F && ks.all (Tm.valid levels)) = R := ⟨_, rfl⟩
                rw [hG]
                by_cases hlt : c < ks.length
                · cases G with
                  | false =>
                    have hout : R = false := by
                      rw [← hR]
                      have h := congrArg (· && (ks.drop c).all (Tm.valid levels)) hG
                      rw [Bool.false_and] at h
                      have e : ((ks.take c).all (Tm.valid levels) && (ks.drop c).all (Tm.valid levels)) = ks.all (Tm.valid levels) := by rw [← List.all_append, List.take_append_drop]
                      rw [← e, ← Bool.and_assoc]; exact h
                    have HO := Lib.hid (And.intro hR hout)
                    clear hR hout hG ih hv hbr
                    go_wp2_with fail
                    go_ret
                    exact ⟨congrArg (fun b => Ending.returned (Value.bool b)) (HO.out.1.trans HO.out.2).symm, hwr⟩
                  | true =>
                    obtain ⟨b, o, k1, n1, s1, a1, l1, c1, T1, rfl, hbn, e0, e1, e2, e3, hT1, ht1⟩ := IsTm.kid hv c hlt
                    have q0 := (hwr.cell (p := ⟨b, o + c * 4, none⟩) hbn).trans e0
                    have q1 := (hwr.cell (p := ⟨b, o + c * 4 + 1, none⟩) hbn).trans e1
                    have q2 := (hwr.cell (p := ⟨b, o + c * 4 + 2, none⟩) hbn).trans e2
                    have q3 := (hwr.cell (p := ⟨b, o + c * 4 + 3, none⟩) hbn).trans e3
                    have hs0 := HH.out.1
                    have hsz1 := Tm.size_le_sizes (List.mem_of_getElem? hT1)
                    have hnx : (F && (ks.take (c + 1)).all (Tm.valid levels)) = T1.valid levels := by
                      have e : ks.take (c + 1) = ks.take c ++ [T1] := by rw [List.take_add_one, hT1]; rfl
                      rw [e, List.all_append, ← Bool.and_assoc, hG]; simp
                    obtain ⟨m1, hm1⟩ : ∃ m1, T1.valid levels = m1 := ⟨_, rfl⟩
                    have hih := (ih T1 (List.mem_of_getElem? hT1) _ wr (IsTm.later hwr hwr.size ht1) (by omega)).mono (R' := fun e w2 => e = .returned (.bool m1) ∧ Below w1.heap.size w1 w2) (fun e w2 h => ⟨by rw [← hm1]; exact h.1, hB.trans (h.2.mono hB.size)⟩)
                    have HR := Lib.hid (hnx.trans hm1)
                    clear ih hv e0 e1 e2 e3 ht1 hs0 hT1 hsz1 hnx hm1 hG hR hbr
                    go_wp2_with (go_at_call 43; refine hih.mono ?_; rintro e w2 ⟨rfl, hB2⟩)
                    all_goals go_roundw
                    all_goals first
                      | (refine ⟨c + 1, ?_, by simp, hlt, hB2⟩
                         rw [HR.out])
                      | (simp [intOf]; omega)
                · have hce : c = ks.length := by omega
                  subst hce
                  rw [List.take_length] at hG
                  have HO := Lib.hid hG
                  clear ih hv hG hR hbr
                  go_wp2_with fail
                  all_goals go_ret
                  all_goals exact ⟨congrArg (fun b => Ending.returned (Value.bool b)) HO.out.symm, hwr⟩
        · rcases Decidable.em (k = 4) with rfl | h4
          by_cases hl1 : ks.length = 1
          · obtain ⟨T1, rfl⟩ : ∃ T1, ks = [T1] := List.length_eq_one_iff.1 hl1
            obtain ⟨b, o, k1, n1, s1, a1, l1, c1, T2, rfl, hbn, e0, e1, e2, e3, hT1, ht1⟩ := IsTm.kid hv 0 (by simp)
            have hT : T2 = T1 := by simpa using hT1.symm
            subst hT
            simp only [Nat.zero_mul, Nat.add_zero] at e0 e1 e2 e3
            have hw1 := HH.out.2.2.1
            have q0 := (hw1.cell (p := ⟨b, o, none⟩) hbn).trans e0
            have q1 := (hw1.cell (p := ⟨b, o + 1, none⟩) hbn).trans e1
            have q2 := (hw1.cell (p := ⟨b, o + 2, none⟩) hbn).trans e2
            have q3 := (hw1.cell (p := ⟨b, o + 3, none⟩) hbn).trans e3
            rw [HH.out.2.1] at q0 q1 q2 q3
            have hgr : (Tm.mk 4 n s [T2]).ground = decide (T2.vars.length = 0) := by rw [ground_seal, ground_vars]
            have hsT : T2.size ≤ 1000000000 := by have := HH.out.1; rw [Tm.sizes_cons, Tm.sizes_nil] at this; omega
            have hrv := (rvars_at _ T2 w1 (IsTm.later hw1 hw1.size ht1) hsT).mono (R' := fun e w2 => ∃ a9 c9, e = .returned (.slice a9 T2.vars.length c9) ∧ Below w1.heap.size w1 w2) (fun e w2 h => by obtain ⟨a9, c9, rfl, -, hb⟩ := h; exact ⟨a9, c9, rfl, hb⟩)
            rw [HH.out.2.1] at hrv
            obtain ⟨V, hV⟩ : ∃ V : Nat, T2.vars.length = V := ⟨_, rfl⟩
            rw [hV] at hrv hgr
            have HF2 : Hid ((decide (s.toList = []) && decide (0 ≤ n) && decide (n < levels) && decide (V = 0)) = F) := by
              have h := HF.out
              rw [hgr] at h
              show _ = _
              rw [← h]
              simp
            simp only [List.length_singleton] at hv hc HH hrv q0 q1 q2 q3
            clear hV hgr hsT hT1 ht1 e0 e1 e2 e3 HF hw1 hlenI hlen hl1
            have hb2 : b < w.heap.size := hbn
            go_enter Try.func43, Try.ntmps43
            go_wp2_with (go_at_call 20; refine hrv.mono ?_; rintro e w9 ⟨a9, c9, rfl, hb9⟩)
            all_goals
              try rw [← HH.out.2.1]
              go_loopw [6, 7] (fun x i wr => ∃ c : Nat, x = .bool (F && ([T2].take c).all (Tm.valid levels)) ∧ i = .int .i64 c ∧ c ≤ 1 ∧ Below w1.heap.size w1 wr) (fun _ i _ => 1 - (intOf i).toNat)
              case atStart =>
                refine ⟨0, congrArg Value.bool (?_ : _ = (F && ([T2].take 0).all (Tm.valid levels))), rfl, Nat.zero_le _, by first | exact Below.refl _ _ | (rw [HH.out.2.1]; exact hb9)⟩
                rw [List.take_zero, List.all_nil, Bool.and_true]
                have hF := HF2.out
                clear HF2 HH ih hv
                subst hF
                rw [Bool.eq_iff_iff]
                first | (simp_all; done) | (simp_all; omega) | grind
              case round =>
                obtain ⟨c, rfl, rfl, hcl, hB⟩ := hrel
                have hbr := tbox_below HH.out.2.2.2 hB
                obtain ⟨b0, b1, b2, b3⟩ := tbox_cells hbr
                have hwr : Below w.heap.size w wr := HH.out.2.2.1.trans (hB.mono HH.out.2.2.1.size)
                obtain ⟨G, hG⟩ : ∃ G, (F && ([T2].take c).all (Tm.valid levels)) = G := ⟨_, rfl⟩
                obtain ⟨R, hR⟩ : ∃ R, (F && [T2].all (Tm.valid levels)) = R := ⟨_, rfl⟩
                rw [hG]
                by_cases hlt : c < 1
                · cases G with
                  | false =>
                    have hout : R = false := by
                      rw [← hR]
                      have h := congrArg (· && ([T2].drop c).all (Tm.valid levels)) hG
                      rw [Bool.false_and] at h
                      have e : (([T2].take c).all (Tm.valid levels) && ([T2].drop c).all (Tm.valid levels)) = [T2].all (Tm.valid levels) := by rw [← List.all_append, List.take_append_drop]
                      rw [← e, ← Bool.and_assoc]; exact h
                    have HO := Lib.hid (And.intro hR hout)
                    clear hR hout hG ih hv hbr
                    go_wp2_with fail
                    go_ret
                    exact ⟨congrArg (fun b => Ending.returned (Value.bool b)) (HO.out.1.trans HO.out.2).symm, hwr⟩
                  | true =>
                    obtain ⟨b5, o5, k1, n1, s1, a1, l1, c1, T1, eA, hbn5, e0, e1, e2, e3, hT1, ht1⟩ := IsTm.kid hv c hlt
                    injection eA with eA
                    injection eA with eb eo
                    subst eb eo
                    have q0 := (hwr.cell (p := ⟨b, o + c * 4, none⟩) hbn).trans e0
                    have q1 := (hwr.cell (p := ⟨b, o + c * 4 + 1, none⟩) hbn).trans e1
                    have q2 := (hwr.cell (p := ⟨b, o + c * 4 + 2, none⟩) hbn).trans e2
                    have q3 := (hwr.cell (p := ⟨b, o + c * 4 + 3, none⟩) hbn).trans e3
                    have hs0 := HH.out.1
                    have hsz1 := Tm.size_le_sizes (List.mem_of_getElem? hT1)
                    have hnx : (F && ([T2].take (c + 1)).all (Tm.valid levels)) = T1.valid levels := by
                      have e : [T2].take (c + 1) = [T2].take c ++ [T1] := by rw [List.take_add_one, hT1]; rfl
                      rw [e, List.all_append, ← Bool.and_assoc, hG]; simp
                    obtain ⟨m1, hm1⟩ : ∃ m1, T1.valid levels = m1 := ⟨_, rfl⟩
                    have hih := (ih T1 (List.mem_of_getElem? hT1) _ wr (IsTm.later hwr hwr.size ht1) (by omega)).mono (R' := fun e w2 => e = .returned (.bool m1) ∧ Below w1.heap.size w1 w2) (fun e w2 h => ⟨by rw [← hm1]; exact h.1, hB.trans (h.2.mono hB.size)⟩)
                    have HR := Lib.hid (hnx.trans hm1)
                    clear ih hv e0 e1 e2 e3 ht1 hs0 hT1 hsz1 hnx hm1 hG hR hbr
                    go_wp2_with (go_at_call 43; refine hih.mono ?_; rintro e w2 ⟨rfl, hB2⟩)
                    all_goals go_roundw
                    all_goals first
                      | (refine ⟨c + 1, ?_, by simp, hlt, hB2⟩
                         rw [HR.out])
                      | (simp [intOf]; omega)
                · have hce : c = 1 := by omega
                  subst hce
                  replace hG : (F && [T2].all (Tm.valid levels)) = G := hG
                  have HO := Lib.hid hG
                  clear ih hv hG hR hbr
                  go_wp2_with fail
                  all_goals go_ret
                  all_goals exact ⟨congrArg (fun b => Ending.returned (Value.bool b)) HO.out.symm, hwr⟩
          · skip
            go_enter Try.func43, Try.ntmps43
            go_wp2_with fail
            all_goals
              try rw [← HH.out.2.1]
              go_loopw [6, 7] (fun x i wr => ∃ c : Nat, x = .bool (F && (ks.take c).all (Tm.valid levels)) ∧ i = .int .i64 c ∧ c ≤ ks.length ∧ Below w1.heap.size w1 wr) (fun _ i _ => ks.length - (intOf i).toNat)
              case atStart =>
                refine ⟨0, congrArg Value.bool (?_ : _ = (F && (ks.take 0).all (Tm.valid levels))), rfl, Nat.zero_le _, by first | exact Below.refl _ _ | (rw [HH.out.2.1]; exact hb9)⟩
                rw [List.take_zero, List.all_nil, Bool.and_true]
                have hF := HF.out
                clear HF HH ih hv
                subst hF
                rw [Bool.eq_iff_iff]
                first | (simp_all; done) | (simp_all; omega) | grind
              case round =>
                obtain ⟨c, rfl, rfl, hcl, hB⟩ := hrel
                have hbr := tbox_below HH.out.2.2.2 hB
                obtain ⟨b0, b1, b2, b3⟩ := tbox_cells hbr
                have hwr : Below w.heap.size w wr := HH.out.2.2.1.trans (hB.mono HH.out.2.2.1.size)
                obtain ⟨G, hG⟩ : ∃ G, (F && (ks.take c).all (Tm.valid levels)) = G := ⟨_, rfl⟩
                obtain ⟨R, hR⟩ : ∃ R, (F && ks.all (Tm.valid levels)) = R := ⟨_, rfl⟩
                rw [hG]
                by_cases hlt : c < ks.length
                · cases G with
                  | false =>
                    have hout : R = false := by
                      rw [← hR]
                      have h := congrArg (· && (ks.drop c).all (Tm.valid levels)) hG
                      rw [Bool.false_and] at h
                      have e : ((ks.take c).all (Tm.valid levels) && (ks.drop c).all (Tm.valid levels)) = ks.all (Tm.valid levels) := by rw [← List.all_append, List.take_append_drop]
                      rw [← e, ← Bool.and_assoc]; exact h
                    have HO := Lib.hid (And.intro hR hout)
                    clear hR hout hG ih hv hbr
                    go_wp2_with fail
                    go_ret
                    exact ⟨congrArg (fun b => Ending.returned (Value.bool b)) (HO.out.1.trans HO.out.2).symm, hwr⟩
                  | true =>
                    obtain ⟨b, o, k1, n1, s1, a1, l1, c1, T1, rfl, hbn, e0, e1, e2, e3, hT1, ht1⟩ := IsTm.kid hv c hlt
                    have q0 := (hwr.cell (p := ⟨b, o + c * 4, none⟩) hbn).trans e0
                    have q1 := (hwr.cell (p := ⟨b, o + c * 4 + 1, none⟩) hbn).trans e1
                    have q2 := (hwr.cell (p := ⟨b, o + c * 4 + 2, none⟩) hbn).trans e2
                    have q3 := (hwr.cell (p := ⟨b, o + c * 4 + 3, none⟩) hbn).trans e3
                    have hs0 := HH.out.1
                    have hsz1 := Tm.size_le_sizes (List.mem_of_getElem? hT1)
                    have hnx : (F && (ks.take (c + 1)).all (Tm.valid levels)) = T1.valid levels := by
                      have e : ks.take (c + 1) = ks.take c ++ [T1] := by rw [List.take_add_one, hT1]; rfl
                      rw [e, List.all_append, ← Bool.and_assoc, hG]; simp
                    obtain ⟨m1, hm1⟩ : ∃ m1, T1.valid levels = m1 := ⟨_, rfl⟩
                    have hih := (ih T1 (List.mem_of_getElem? hT1) _ wr (IsTm.later hwr hwr.size ht1) (by omega)).mono (R' := fun e w2 => e = .returned (.bool m1) ∧ Below w1.heap.size w1 w2) (fun e w2 h => ⟨by rw [← hm1]; exact h.1, hB.trans (h.2.mono hB.size)⟩)
                    have HR := Lib.hid (hnx.trans hm1)
                    clear ih hv e0 e1 e2 e3 ht1 hs0 hT1 hsz1 hnx hm1 hG hR hbr
                    go_wp2_with (go_at_call 43; refine hih.mono ?_; rintro e w2 ⟨rfl, hB2⟩)
                    all_goals go_roundw
                    all_goals first
                      | (refine ⟨c + 1, ?_, by simp, hlt, hB2⟩
                         rw [HR.out])
                      | (simp [intOf]; omega)
                · have hce : c = ks.length := by omega
                  subst hce
                  rw [List.take_length] at hG
                  have HO := Lib.hid hG
                  clear ih hv hG hR hbr
                  go_wp2_with fail
                  all_goals go_ret
                  all_goals exact ⟨congrArg (fun b => Ending.returned (Value.bool b)) HO.out.symm, hwr⟩
          · have HF0 : Hid (F = false) := by have h := HF.out; show F = false; rw [← h]; simp [h1, h2, h3, h4]
            have HF0' : Hid (false = (F && (ks.take 0).all (Tm.valid levels))) := by show _ = _; rw [HF0.out]; rfl
            go_enter Try.func43, Try.ntmps43
            go_wp2_with fail
            all_goals
              try rw [← HH.out.2.1]
              go_loopw [6, 7] (fun x i wr => ∃ c : Nat, x = .bool (F && (ks.take c).all (Tm.valid levels)) ∧ i = .int .i64 c ∧ c ≤ ks.length ∧ Below w1.heap.size w1 wr) (fun _ i _ => ks.length - (intOf i).toNat)
              case atStart =>
                refine ⟨0, congrArg Value.bool (?_ : _ = (F && (ks.take 0).all (Tm.valid levels))), rfl, Nat.zero_le _, by first | exact Below.refl _ _ | (rw [HH.out.2.1]; exact hb9)⟩
                rw [List.take_zero, List.all_nil, Bool.and_true]
                have hF := HF.out
                clear HF HH ih hv
                subst hF
                rw [Bool.eq_iff_iff]
                first | (simp_all; done) | (simp_all; omega) | grind
              case round =>
                obtain ⟨c, rfl, rfl, hcl, hB⟩ := hrel
                have hbr := tbox_below HH.out.2.2.2 hB
                obtain ⟨b0, b1, b2, b3⟩ := tbox_cells hbr
                have hwr : Below w.heap.size w wr := HH.out.2.2.1.trans (hB.mono HH.out.2.2.1.size)
                obtain ⟨G, hG⟩ : ∃ G, (F && (ks.take c).all (Tm.valid levels)) = G := ⟨_, rfl⟩
                obtain ⟨R, hR⟩ : ∃ R, (F && ks.all (Tm.valid levels)) = R := ⟨_, rfl⟩
                rw [hG]
                by_cases hlt : c < ks.length
                · cases G with
                  | false =>
                    have hout : R = false := by
                      rw [← hR]
                      have h := congrArg (· && (ks.drop c).all (Tm.valid levels)) hG
                      rw [Bool.false_and] at h
                      have e : ((ks.take c).all (Tm.valid levels) && (ks.drop c).all (Tm.valid levels)) = ks.all (Tm.valid levels) := by rw [← List.all_append, List.take_append_drop]
                      rw [← e, ← Bool.and_assoc]; exact h
                    have HO := Lib.hid (And.intro hR hout)
                    clear hR hout hG ih hv hbr
                    go_wp2_with fail
                    go_ret
                    exact ⟨congrArg (fun b => Ending.returned (Value.bool b)) (HO.out.1.trans HO.out.2).symm, hwr⟩
                  | true => rw [HF0.out] at hG; exact absurd hG (by simp)
                · have hce : c = ks.length := by omega
                  subst hce
                  rw [List.take_length] at hG
                  have HO := Lib.hid hG
                  clear ih hv hG hR hbr
                  go_wp2_with fail
                  all_goals go_ret
                  all_goals exact ⟨congrArg (fun b => Ending.returned (Value.bool b)) HO.out.symm, hwr⟩

set_option maxRecDepth 100000 in
set_option maxHeartbeats 2000000 in
theorem rcheck_at (v : Value) (T : Tm) (levels : Int) (w : World) (ht : Has w v T) (hs : T.size ≤ 1000000000) :
    Calls Try.prog 13 #[v, .int .i64 levels] w (Gets w (.int .i64 (T.check levels))) := by
  obtain ⟨k, n, s, a, len, cap, ks, rfl, e, -⟩ := ht.form
  clear e
  obtain ⟨w1, hw1⟩ : ∃ w1, w1 = w.alloc (.cells #[.int .i64 k, .int .i64 n, .string s, .slice a len cap] 24) := ⟨_, rfl⟩
  have hB1 : Below w.heap.size w w1 := by rw [hw1]; exact (Below.refl _ w).alloc (Nat.le_refl _) _
  have hbox : w1.heap[w.heap.size]? = some (.cells #[.int .i64 k, .int .i64 n, .string s, .slice a len cap] 24 (0, 0)) := by rw [hw1]; exact World.alloc_heap_new _ _
  have ho := (rsize_at T _ w1 (ht.below hB1) (by omega)).mono (R' := fun e w2 => ∃ m : Nat, T.size = m ∧ e = .returned (.int .i64 (m : Int)) ∧ Below w.heap.size w w2 ∧ w2.cell? ⟨w.heap.size, 0, none⟩ = some (.int .i64 k) ∧ w2.cell? ⟨w.heap.size, 1, none⟩ = some (.int .i64 n) ∧ w2.cell? ⟨w.heap.size, 2, none⟩ = some (.string s) ∧ w2.cell? ⟨w.heap.size, 3, none⟩ = some (.slice a len cap) ∧
      Calls Try.prog 17 #[.agg #[.int .i64 k, .int .i64 n, .string s, .slice a len cap]] w2 fun e w3 => ∃ d : Nat, T.deep = d ∧ e = .returned (.int .i64 (d : Int)) ∧ Below w.heap.size w w3 ∧ w3.cell? ⟨w.heap.size, 0, none⟩ = some (.int .i64 k) ∧ w3.cell? ⟨w.heap.size, 1, none⟩ = some (.int .i64 n) ∧ w3.cell? ⟨w.heap.size, 2, none⟩ = some (.string s) ∧ w3.cell? ⟨w.heap.size, 3, none⟩ = some (.slice a len cap) ∧
        Calls Try.prog 43 #[.agg #[.int .i64 k, .int .i64 n, .string s, .slice a len cap], .int .i64 levels] w3 fun e w4 => ∃ b, T.valid levels = b ∧ e = .returned (.bool b) ∧ Below w.heap.size w w4)
    (fun e w2 h2 => by
      obtain ⟨rfl, h2b, hB2⟩ := Gets.then hB1 h2
      have hbox2 := tbox_below hbox h2b
      obtain ⟨c0, c1, c2, c3⟩ := tbox_cells hbox2
      refine ⟨_, rfl, rfl, hB2, c0, c1, c2, c3, (rdeep_at T _ w2 (ht.below hB2) (by omega)).mono fun e w3 h3 => ?_⟩
      obtain ⟨rfl, h3b, hB3⟩ := Gets.then hB2 h3
      obtain ⟨c0, c1, c2, c3⟩ := tbox_cells (tbox_below hbox2 h3b)
      refine ⟨_, rfl, rfl, hB3, c0, c1, c2, c3, (rmay_at levels T _ w3 (ht.below hB3) hs).mono fun e w4 h4 => ?_⟩
      obtain ⟨rfl, h4b, hB4⟩ := Gets.then hB3 h4
      exact ⟨_, rfl, rfl, hB4⟩)
  obtain ⟨r, hr⟩ : ∃ r, T.check levels = r := ⟨_, rfl⟩
  have HR := Lib.hid hr
  rw [hr]
  clear hr ht hB1 hbox
  subst hw1
  go_enter Try.func13, Try.ntmps13
  go_wp2_with (first
    | (go_at_call 15; refine ho.mono ?_; clear ho; rintro e w2 ⟨m2, hm2, rfl, hB2, c0, c1, c2, c3, hd⟩)
    | (go_at_call 17; refine hd.mono ?_; clear hd; rintro e w3 ⟨d3, hd3, rfl, hB3, c0', c1', c2', c3', hv⟩)
    | (go_at_call 43; refine hv.mono ?_; clear hv; rintro e w4 ⟨b4, hb4, rfl, hB4⟩))
  all_goals go_ret
  all_goals refine ⟨?_, by first | exact hB4 | exact hB3 | exact hB2⟩
  all_goals
    have h := HR.out
    rw [Tm.check] at h
    clear HR
    refine congrArg (fun r => Ending.returned (Value.int .i64 r)) (?_ : _ = r)
  · rw [← h, if_pos (by omega)]
  · rw [← h, if_neg (by omega), if_pos (by omega)]
  · rename_i h1 h2 h3
    have h3' : b4 = false := by simpa using h3
    rw [← h, if_neg (by omega), if_neg (by omega), hb4, if_neg (by rw [h3']; decide)]
  · rename_i h1 h2 h3
    have h3' : b4 = true := by simpa using h3
    rw [← h, if_neg (by omega), if_neg (by omega), hb4, if_pos h3']

end Go.Proofs.Ytllggpmmcamkmaa
