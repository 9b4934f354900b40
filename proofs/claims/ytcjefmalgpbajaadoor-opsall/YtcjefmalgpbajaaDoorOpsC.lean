/-
  The walks of the document's own Infix and Prefix; the example.
-/
import Derived.Test.YtcjefmalgpbajaaDoorOpsB
namespace Go.Proofs.YtcjefmalgpbajaaDoor
open Go.RowKit Go.Lib
set_option linter.unusedVariables false

theorem str_beq {s : ByteArray} {l : List UInt8} (hs : s.data.toList = l) (r : List UInt8) : (s.toList == r) = decide (l = r) := by
  rw [ByteArray.toList_eq, hs, Bool.eq_iff_iff]; simp
theorem beq_t {s : ByteArray} {l : List UInt8} (hs : s.data.toList = l) {r : List UInt8} (h : l = r) : (s.toList == r) = true := by rw [str_beq hs]; simpa using h
theorem beq_f {s : ByteArray} {l : List UInt8} (hs : s.data.toList = l) {r : List UInt8} (h : ¬ l = r) : (s.toList == r) = false := by rw [str_beq hs]; simpa using h

set_option maxHeartbeats 1000000 in
theorem rin_at (s : ByteArray) (l : List UInt8) (hs : s.data.toList = l) (b : Nat) (ns : List (List UInt8)) (n cap : Nat) (hnl : n = ns.length) (hn : n ≤ 100) (w : World) (hc : ∀ i (h : i < ns.length), w.cell? ⟨b, i, none⟩ = some (.string ⟨(ns[i]).toArray⟩)) :
    Calls Tryd.prog 17 #[.string s, .slice (some ⟨b, 0, none⟩) n cap] w fun e w' => e = .returned (.bool (decide (l ∈ ns))) ∧ w' = w := by
  go_enter Tryd.func17, Tryd.ntmps17
  go_wp2
  go_loopw [5] (fun i wr => ∃ j : Nat, i = .int .i64 j ∧ j ≤ n ∧ (decide (l ∈ ns) = decide (l ∈ ns.drop j)) ∧ wr = w) (fun i _ => n - (intOf i).toNat)
  case atStart => exact ⟨0, rfl, Nat.zero_le _, rfl, rfl⟩
  case round =>
    obtain ⟨j, rfl, hj, ha, hw⟩ := hrel
    have hw := hw.symm
    subst hw
    have HA := Lib.hid ha
    clear ha
    by_cases hlt : j < n
    · have hlt2 : j < ns.length := by omega
      have hx := hc j hlt2
      have hd : ns.drop j = ns[j] :: ns.drop (j + 1) := List.drop_eq_getElem_cons hlt2
      generalize ns[j] = x at hx hd
      obtain ⟨X, hX, hXl⟩ : ∃ X : ByteArray, X = ⟨x.toArray⟩ ∧ X.data.toList = x := ⟨_, rfl, by simp⟩
      rw [← hX] at hx
      clear hX
      have HD := Lib.hid hd
      have HN := Lib.hid hnl
      clear hd hnl hlt2 hc
      by_cases he : x = l
      · have hq : (X.toList == s.toList) = true := by rw [op_beq, hXl, hs]; simpa using he
        go_wp2
        go_ret
        exact ⟨by rw [HA.out, HD.out]; simp [he], by trivial⟩
      · have hq : (X.toList == s.toList) = false := by rw [op_beq, hXl, hs]; simpa using he
        go_wp2
        go_roundw
        case rel => exact ⟨j + 1, by go_num, hlt, by rw [HA.out, HD.out]; simp [Ne.symm he], by trivial⟩
        case measure => simp [intOf]; omega
    · have HN := Lib.hid hnl
      clear hnl hc
      go_wp2
      go_ret
      refine ⟨?_, by trivial⟩
      rw [HA.out, List.drop_of_length_le (by have := HN.out; omega)]; simp

def relNames : List (List UInt8) := [[61], [92, 61], [61, 61], [92, 61, 61], [64, 60], [105, 115], [61, 58, 61], [61, 92, 61], [60], [62], [61, 60], [62, 61]]
theorem rel_cells (w : World) (t : TypeId) : ∀ i (h : i < relNames.length), (w.alloc (.cells ((relNames.map fun x => Value.string ⟨x.toArray⟩).toArray) t)).cell? ⟨w.heap.size, i, none⟩ = some (.string ⟨(relNames[i]).toArray⟩) := fun i h => by
  rw [World.cell?_alloc_new]
  simp [h]
set_option maxRecDepth 100000 in
set_option maxHeartbeats 4000000 in
theorem rinfix_at (s : ByteArray) (l : List UInt8) (hs : s.data.toList = l) (w : World) :
    Calls Tryd.prog 10 #[.string s] w (Gives w (infV (infR l))) := by
  by_cases h0 : l = [58, 45]
  · have hv : infR l = some (1199, 1200, 1199) := by rw [h0]; rfl
    have q0 := beq_t hs h0
    clear h0
    go_enter Tryd.func10, Tryd.ntmps10
    go_wp2
    exact bodyPost_ret (v := .tuple #[.int .i64 1199, .int .i64 1200, .int .i64 1199, .bool true]) (by simp [results, Tryd.f10, go_sem]) rfl ⟨by rw [hv]; rfl, Below.refl _ _⟩
  have q0 := beq_f hs h0
  by_cases h1 : l = [58, 58]
  · have hv : infR l = some (1149, 1150, 1149) := by rw [h1]; rfl
    have q1 := beq_t hs h1
    clear h0 h1
    go_enter Tryd.func10, Tryd.ntmps10
    go_wp2
    exact bodyPost_ret (v := .tuple #[.int .i64 1149, .int .i64 1150, .int .i64 1149, .bool true]) (by simp [results, Tryd.f10, go_sem]) rfl ⟨by rw [hv]; rfl, Below.refl _ _⟩
  have q1 := beq_f hs h1
  by_cases h2 : l = [59]
  · have hv : infR l = some (1099, 1100, 1100) := by rw [h2]; rfl
    have q2 := beq_t hs h2
    clear h0 h1 h2
    go_enter Tryd.func10, Tryd.ntmps10
    go_wp2
    exact bodyPost_ret (v := .tuple #[.int .i64 1099, .int .i64 1100, .int .i64 1100, .bool true]) (by simp [results, Tryd.f10, go_sem]) rfl ⟨by rw [hv]; rfl, Below.refl _ _⟩
  have q2 := beq_f hs h2
  by_cases h3 : l = [45, 62]
  · have hv : infR l = some (1049, 1050, 1050) := by rw [h3]; rfl
    have q3 := beq_t hs h3
    clear h0 h1 h2 h3
    go_enter Tryd.func10, Tryd.ntmps10
    go_wp2
    exact bodyPost_ret (v := .tuple #[.int .i64 1049, .int .i64 1050, .int .i64 1050, .bool true]) (by simp [results, Tryd.f10, go_sem]) rfl ⟨by rw [hv]; rfl, Below.refl _ _⟩
  have q3 := beq_f hs h3
  by_cases h4 : l = [44]
  · have hv : infR l = some (999, 1000, 1000) := by rw [h4]; rfl
    have q4 := beq_t hs h4
    clear h0 h1 h2 h3 h4
    go_enter Tryd.func10, Tryd.ntmps10
    go_wp2
    exact bodyPost_ret (v := .tuple #[.int .i64 999, .int .i64 1000, .int .i64 1000, .bool true]) (by simp [results, Tryd.f10, go_sem]) rfl ⟨by rw [hv]; rfl, Below.refl _ _⟩
  have q4 := beq_f hs h4
  have hin := rin_at s l hs w.heap.size relNames 12 12 rfl (by decide) _ (rel_cells w 9)
  have hbl : Below w.heap.size w (w.alloc (.cells ((relNames.map fun x => Value.string ⟨x.toArray⟩).toArray) 9)) := (Below.refl _ w).alloc (Nat.le_refl _) _
  have hvN : infR l = if l ∈ relNames then some (699, 700, 699)
    else if l = [43] ∨ l = [45] then some (500, 500, 499)
    else if l = [42] ∨ l = [47, 47] ∨ l = [109, 111, 100] then some (400, 400, 399)
    else if l = [64] then some (189, 190, 189)
    else none := by unfold infR; rw [if_neg h0, if_neg h1, if_neg h2, if_neg h3, if_neg h4]; rfl
  have HBL := Lib.hid hbl
  clear hbl h0 h1 h2 h3 h4
  by_cases hr : l ∈ relNames
  · rw [decide_eq_true hr] at hin
    have hv : infR l = some (699, 700, 699) := by rw [hvN, if_pos hr]
    clear hvN
    go_enter Tryd.func10, Tryd.ntmps10
    go_wp2_with (go_at_call 17; refine hin.mono ?_; rintro e w' ⟨rfl, hw'⟩; subst hw')
    exact bodyPost_ret (v := .tuple #[.int .i64 699, .int .i64 700, .int .i64 699, .bool true]) (by simp [results, Tryd.f10, go_sem]) rfl ⟨by rw [hv]; rfl, HBL.out⟩
  rw [decide_eq_false hr] at hin
  rw [if_neg hr] at hvN
  by_cases h5 : l = [43]
  · have q5 := beq_t hs h5
    have hv : infR l = some (500, 500, 499) := by rw [hvN, if_pos (Or.inl h5)]
    clear hvN
    go_enter Tryd.func10, Tryd.ntmps10
    go_wp2_with (go_at_call 17; refine hin.mono ?_; rintro e w' ⟨rfl, hw'⟩; subst hw')
    exact bodyPost_ret (v := .tuple #[.int .i64 500, .int .i64 500, .int .i64 499, .bool true]) (by simp [results, Tryd.f10, go_sem]) rfl ⟨by rw [hv]; rfl, HBL.out⟩
  have q5 := beq_f hs h5
  by_cases h6 : l = [45]
  · have q6 := beq_t hs h6
    have hv : infR l = some (500, 500, 499) := by rw [hvN, if_pos (Or.inr h6)]
    clear hvN
    go_enter Tryd.func10, Tryd.ntmps10
    go_wp2_with (go_at_call 17; refine hin.mono ?_; rintro e w' ⟨rfl, hw'⟩; subst hw')
    exact bodyPost_ret (v := .tuple #[.int .i64 500, .int .i64 500, .int .i64 499, .bool true]) (by simp [results, Tryd.f10, go_sem]) rfl ⟨by rw [hv]; rfl, HBL.out⟩
  have q6 := beq_f hs h6
  rw [if_neg (by rintro (h | h); exact h5 h; exact h6 h)] at hvN
  by_cases h7 : l = [42]
  · have q7 := beq_t hs h7
    have hv : infR l = some (400, 400, 399) := by rw [hvN, if_pos (Or.inl h7)]
    clear hvN
    go_enter Tryd.func10, Tryd.ntmps10
    go_wp2_with (go_at_call 17; refine hin.mono ?_; rintro e w' ⟨rfl, hw'⟩; subst hw')
    exact bodyPost_ret (v := .tuple #[.int .i64 400, .int .i64 400, .int .i64 399, .bool true]) (by simp [results, Tryd.f10, go_sem]) rfl ⟨by rw [hv]; rfl, HBL.out⟩
  have q7 := beq_f hs h7
  by_cases h8 : l = [47, 47]
  · have q8 := beq_t hs h8
    have hv : infR l = some (400, 400, 399) := by rw [hvN, if_pos (Or.inr (Or.inl h8))]
    clear hvN
    go_enter Tryd.func10, Tryd.ntmps10
    go_wp2_with (go_at_call 17; refine hin.mono ?_; rintro e w' ⟨rfl, hw'⟩; subst hw')
    exact bodyPost_ret (v := .tuple #[.int .i64 400, .int .i64 400, .int .i64 399, .bool true]) (by simp [results, Tryd.f10, go_sem]) rfl ⟨by rw [hv]; rfl, HBL.out⟩
  have q8 := beq_f hs h8
  by_cases h9 : l = [109, 111, 100]
  · have q9 := beq_t hs h9
    have hv : infR l = some (400, 400, 399) := by rw [hvN, if_pos (Or.inr (Or.inr h9))]
    clear hvN
    go_enter Tryd.func10, Tryd.ntmps10
    go_wp2_with (go_at_call 17; refine hin.mono ?_; rintro e w' ⟨rfl, hw'⟩; subst hw')
    exact bodyPost_ret (v := .tuple #[.int .i64 400, .int .i64 400, .int .i64 399, .bool true]) (by simp [results, Tryd.f10, go_sem]) rfl ⟨by rw [hv]; rfl, HBL.out⟩
  have q9 := beq_f hs h9
  rw [if_neg (by rintro (h | h | h); exact h7 h; exact h8 h; exact h9 h)] at hvN
  by_cases h10 : l = [64]
  · have q10 := beq_t hs h10
    have hv : infR l = some (189, 190, 189) := by rw [hvN, if_pos h10]
    clear hvN
    go_enter Tryd.func10, Tryd.ntmps10
    go_wp2_with (go_at_call 17; refine hin.mono ?_; rintro e w' ⟨rfl, hw'⟩; subst hw')
    exact bodyPost_ret (v := .tuple #[.int .i64 189, .int .i64 190, .int .i64 189, .bool true]) (by simp [results, Tryd.f10, go_sem]) rfl ⟨by rw [hv]; rfl, HBL.out⟩
  have q10 := beq_f hs h10
  have hv : infR l = none := by rw [hvN, if_neg h10]
  clear hvN
  go_enter Tryd.func10, Tryd.ntmps10
  go_wp2_with (go_at_call 17; refine hin.mono ?_; rintro e w' ⟨rfl, hw'⟩; subst hw')
  exact bodyPost_ret (v := .tuple #[.int .i64 0, .int .i64 0, .int .i64 0, .bool false]) (by simp [results, Tryd.f10, go_sem]) rfl ⟨by rw [hv]; rfl, HBL.out⟩

set_option maxHeartbeats 1000000 in
theorem rprefix_at (s : ByteArray) (l : List UInt8) (hs : s.data.toList = l) (w : World) :
    Calls Tryd.prog 12 #[.string s] w (Gives w (preV (preR l))) := by
  by_cases h0 : l = [58, 45]
  · have hv : preR l = some (1200, 1199) := by rw [h0]; rfl
    have q0 := beq_t hs h0
    go_enter Tryd.func12, Tryd.ntmps12
    go_wp2
    exact bodyPost_ret (v := .tuple #[.int .i64 1200, .int .i64 1199, .bool true]) (by simp [results, Tryd.f12, go_sem]) rfl ⟨by rw [hv]; rfl, Below.refl _ _⟩
  have q0 := beq_f hs h0
  by_cases h1 : l = [92, 43]
  · have hv : preR l = some (900, 900) := by rw [h1]; rfl
    have q1 := beq_t hs h1
    go_enter Tryd.func12, Tryd.ntmps12
    go_wp2
    exact bodyPost_ret (v := .tuple #[.int .i64 900, .int .i64 900, .bool true]) (by simp [results, Tryd.f12, go_sem]) rfl ⟨by rw [hv]; rfl, Below.refl _ _⟩
  have q1 := beq_f hs h1
  by_cases h2 : l = [45]
  · have hv : preR l = some (200, 200) := by rw [h2]; rfl
    have q2 := beq_t hs h2
    go_enter Tryd.func12, Tryd.ntmps12
    go_wp2
    exact bodyPost_ret (v := .tuple #[.int .i64 200, .int .i64 200, .bool true]) (by simp [results, Tryd.f12, go_sem]) rfl ⟨by rw [hv]; rfl, Below.refl _ _⟩
  have q2 := beq_f hs h2
  have hv : preR l = none := by unfold preR; rw [if_neg h0, if_neg h1, if_neg h2]
  go_enter Tryd.func12, Tryd.ntmps12
  go_wp2
  exact bodyPost_ret (v := .tuple #[.int .i64 0, .int .i64 0, .bool false]) (by simp [results, Tryd.f12, go_sem]) rfl ⟨by rw [hv]; rfl, Below.refl _ _⟩

set_option maxRecDepth 100000 in
set_option maxHeartbeats 2000000 in
theorem shown_at (w : World) (T : Tab w) : Calls Tryd.prog 8 #[] w (Gives w (.bool true)) := by
  have hI := infix_at (ByteArray.mk #[45]) [45] rfl w T
  have hP := fun W hb => prefix_at (ByteArray.mk #[45]) [45] rfl W (T.later hb)
  have eI : infV (infR [45]) = .tuple #[.int .i64 500, .int .i64 500, .int .i64 499, .bool true] := rfl
  have eP : preV (preR [45]) = .tuple #[.int .i64 200, .int .i64 200, .bool true] := rfl
  rw [eI] at hI
  rw [eP] at hP
  clear eI eP T
  go_enter Tryd.func8, Tryd.ntmps8
  go_wp2_with (first | (go_at_call 9; refine hI.mono ?_; rintro e w1 ⟨rfl, hb1⟩) | (go_at_call 11; refine (hP _ hb1).mono ?_; rintro e w2 ⟨rfl, hb2⟩))
  go_ret
  exact ⟨rfl, hb1.trans (hb2.mono hb1.size)⟩
end Go.Proofs.YtcjefmalgpbajaaDoor
