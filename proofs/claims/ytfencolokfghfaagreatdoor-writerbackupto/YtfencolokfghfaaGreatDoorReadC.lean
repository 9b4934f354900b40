/-
  infix, beginsOperand: what stands next.
-/
import Derived.Test.YtfencolokfghfaaGreatDoorReadB
namespace Go.Proofs.YtfencolokfghfaaGreatDoor
open Go.RowKit Go.Maps
set_option linter.unusedVariables false
set_option linter.unusedSectionVars false

theorem infV_some (a b c : Nat) : infV (some (a, b, c)) = .tuple #[.int .i64 a, .int .i64 b, .int .i64 c, .bool true] := rfl
def opV : Option (Nat × Nat) → Value
  | some (a, b) => .tuple #[.int .i64 a, .int .i64 b, .bool true]
  | none => .tuple #[.int .i64 0, .int .i64 0, .bool false]

theorem rd_beq {s : ByteArray} {l : List UInt8} (hs : s.data.toList = l) (r : List UInt8) : (s.toList == r) = decide (l = r) := by
  rw [ByteArray.toList_eq, hs, Bool.eq_iff_iff]; simp
set_option maxRecDepth 100000 in
set_option maxHeartbeats 2000000 in
theorem begins_at (t : Tok) (W : World) (T : Tab W) : Calls Tryz.prog 126 #[.agg #[.int .i64 t.kind, .string (strV t.s), .int .i64 t.n, .bool t.q, .bool t.tight]] W (Gets W (.bool (begins t))) := by
  obtain ⟨k, s, n, q, ti⟩ := t
  dsimp only
  obtain ⟨W1, hW1⟩ : ∃ W1, W1 = W.alloc (.cells #[.int .i64 k, .string (strV s), .int .i64 n, .bool q, .bool ti] 87) := ⟨_, rfl⟩
  have hB : Below W.heap.size W W1 := by rw [hW1]; exact (Below.refl W.heap.size W).alloc (Nat.le_refl _) _
  have hI := infix_at (strV s) s (strV_list s) W1 (T.later hB)
  have hE : ∀ l : List UInt8, ((strV s).toList == l) = decide (s = l) := fun l => rd_beq (strV_list s) l
  have hE1 := hE [40]
  have hE2 := hE [91]
  have hnot : ∀ (x : Bool) (w : World), (Op.unary .not (.bool x)).run Tryz.prog w = .ok (.bool (!x)) w := fun _ _ => rfl
  have x1 : W1.heap[W.heap.size]? = some (.cells #[.int .i64 k, .string (strV s), .int .i64 n, .bool q, .bool ti] 87 (0, 0)) := by rw [hW1]; exact alloc_new _ _
  obtain ⟨z0, z1, z2, z3, z4, -⟩ := box5 x1
  clear hE
  go_enter Tryz.func126, Tryz.ntmps126
  by_cases h3 : k = 3
  · subst h3
    go_wp2
    go_ret
    exact ⟨by simp [begins], by rw [← hW1]; exact hB⟩
  by_cases h2 : k = 2
  · subst h2
    go_wp2
    go_ret
    exact ⟨by simp [begins], by rw [← hW1]; exact hB⟩
  by_cases h4 : k = 4
  · subst h4
    by_cases he : s = [40]
    · subst he
      go_wp2
      go_ret
      exact ⟨by simp [begins], by rw [← hW1]; exact hB⟩
    · go_wp2
      go_ret
      exact ⟨by simp [begins, he], by rw [← hW1]; exact hB⟩
  by_cases h1 : k = 1
  · subst h1
    cases hr : infR s with
    | none =>
      rw [hr] at hI
      unfold infV at hI
      cases q
      all_goals
        go_wp2_with (rw [← hW1]; go_at_call 107; refine hI.mono ?_; rintro e W2 ⟨rfl, hb2⟩; have y := (hb2.block _ (Array.getElem?_eq_some_iff.1 x1).1).trans x1; obtain ⟨u0, u1, u2, u3, u4, -⟩ := box5 y)
        go_ret
        exact ⟨by simp [begins, hr], hB.trans (hb2.mono hB.size)⟩
    | some x =>
      obtain ⟨a, b, c⟩ := x
      rw [hr, infV_some] at hI
      cases q
      all_goals
        go_wp2_with (rw [← hW1]; go_at_call 107; refine hI.mono ?_; rintro e W2 ⟨rfl, hb2⟩; have y := (hb2.block _ (Array.getElem?_eq_some_iff.1 x1).1).trans x1; obtain ⟨u0, u1, u2, u3, u4, -⟩ := box5 y)
        go_ret
        exact ⟨by simp [begins, hr], hB.trans (hb2.mono hB.size)⟩
  · go_wp2
    go_ret
    exact ⟨by simp [begins, h1, h2, h3, h4], by rw [← hW1]; exact hB⟩

section
variable (c : Cx) (hc : c.Ok) {W : World} {na : Option Addr} {nc i d : Nat} {ns : Nms} (h : PAt c W na nc i d ns)
include hc h
set_option maxRecDepth 100000 in
set_option maxHeartbeats 2000000 in
theorem op_at (most pri : Nat) : Calls Tryz.prog 87 #[.pointer (some ⟨c.b, 0, none⟩), .int .i64 most, .int .i64 pri] W (Gets W (opV (opG c.L most pri i))) := by
  have ha := ahead_at c hc h 0 (by omega)
  rw [Nat.add_zero] at ha
  have hT := hc.tab.later h.bel
  unfold opG
  generalize ahd c.L i = t at *
  obtain ⟨k, s, n, q, ti⟩ := t
  dsimp only at *
  have hbar := fun W => isBare_at ⟨k, s, n, q, ti⟩ W
  have hpun := fun W => isPunct_at ⟨k, s, n, q, ti⟩ (ByteArray.mk #[44]) [44] rfl W
  dsimp only at hbar hpun
  have hI := fun W (T : Tab W) => infix_at (strV s) s (strV_list s) W T
  have hnot : ∀ (x : Bool) (w : World), (Op.unary .not (.bool x)).run Tryz.prog w = .ok (.bool (!x)) w := fun _ _ => rfl
  generalize bare ⟨k, s, n, q, ti⟩ = bb at *
  generalize isP ⟨k, s, n, q, ti⟩ [44] = pp at *
  go_enter Tryz.func87, Tryz.ntmps87
  have fin : ∀ {W2 : World} {v : Value}, Below W.heap.size W W2 → Gets W v (.returned v) W2 := fun h => ⟨rfl, h⟩
  by_cases hbp : bb = false ∧ pp = false
  · obtain ⟨rfl, rfl⟩ := hbp
    rw [if_neg (by simp)]
    go_wp2_with (first
        | (go_at_call 67; refine ha.mono ?_; rintro e W1 ⟨rfl, hb1⟩)
        | (go_at_call 105; refine (hbar _).mono ?_; rintro e W2 ⟨rfl, hb2⟩; have bx1 := (hb2.block _ (by simp)).trans (alloc_new W1 (.cells #[.int .i64 k, .string (strV s), .int .i64 n, .bool q, .bool ti] 87)); obtain ⟨z0, z1, z2, z3, z4, -⟩ := box5 bx1)
        | (go_at_call 106; refine (hpun _).mono ?_; rintro e W3 ⟨rfl, hb3⟩))
    refine bodyPost_ret (v := opV none) (by simp [results, Tryz.f87, go_sem, opV]) rfl (fin ?_)
    exact bel (bel (bel_al hb1 _) hb2) hb3
  · rw [if_pos (by revert hbp; cases bb <;> cases pp <;> simp)]
    cases hr : infR s with
    | none =>
      simp only [hr] at hI
      unfold infV at hI
      cases bb
      · obtain rfl : pp = true := by revert hbp; cases pp <;> simp
        go_wp2_with (first
          | (go_at_call 67; refine ha.mono ?_; rintro e W1 ⟨rfl, hb1⟩)
          | (go_at_call 105; refine (hbar _).mono ?_; rintro e W2 ⟨rfl, hb2⟩; have bx1 := (hb2.block _ (by simp)).trans (alloc_new W1 (.cells #[.int .i64 k, .string (strV s), .int .i64 n, .bool q, .bool ti] 87)); obtain ⟨z0, z1, z2, z3, z4, -⟩ := box5 bx1)
          | (go_at_call 106; refine (hpun _).mono ?_; rintro e W3 ⟨rfl, hb3⟩; have bx2 := (hb3.block _ (Array.getElem?_eq_some_iff.1 bx1).1).trans bx1; obtain ⟨u0, u1, u2, u3, u4, -⟩ := box5 bx2)
          | (go_at_call 107; refine (hI _ (hT.later (bel (bel (bel_al hb1 _) hb2) hb3))).mono ?_; rintro e W4 ⟨rfl, hb4⟩))
        refine bodyPost_ret (v := opV none) (by simp [results, Tryz.f87, go_sem, opV]) rfl (fin ?_)
        exact bel (bel (bel (bel_al hb1 _) hb2) hb3) hb4
      · go_wp2_with (first
          | (go_at_call 67; refine ha.mono ?_; rintro e W1 ⟨rfl, hb1⟩)
          | (go_at_call 105; refine (hbar _).mono ?_; rintro e W2 ⟨rfl, hb2⟩; have bx1 := (hb2.block _ (by simp)).trans (alloc_new W1 (.cells #[.int .i64 k, .string (strV s), .int .i64 n, .bool q, .bool ti] 87)); obtain ⟨z0, z1, z2, z3, z4, -⟩ := box5 bx1)
          | (go_at_call 107; refine (hI _ (hT.later (bel (bel_al hb1 _) hb2))).mono ?_; rintro e W4 ⟨rfl, hb4⟩))
        refine bodyPost_ret (v := opV none) (by simp [results, Tryz.f87, go_sem, opV]) rfl (fin ?_)
        exact bel (bel (bel_al hb1 _) hb2) hb4
    | some x =>
      obtain ⟨x1, x2, x3⟩ := x
      simp only [hr, infV_some] at hI
      dsimp only
      by_cases hq : x2 ≤ most ∧ pri ≤ x1
      · rw [if_pos hq]
        obtain ⟨hq1, hq2⟩ := hq
        have hq3 : ¬ ((most : Int) < (x2 : Int)) := by omega
        have hq4 : ¬ ((x1 : Int) < (pri : Int)) := by omega
        clear hq1 hq2
        cases bb
        · obtain rfl : pp = true := by revert hbp; cases pp <;> simp
          go_wp2_with (first
            | (go_at_call 67; refine ha.mono ?_; rintro e W1 ⟨rfl, hb1⟩)
            | (go_at_call 105; refine (hbar _).mono ?_; rintro e W2 ⟨rfl, hb2⟩; have bx1 := (hb2.block _ (by simp)).trans (alloc_new W1 (.cells #[.int .i64 k, .string (strV s), .int .i64 n, .bool q, .bool ti] 87)); obtain ⟨z0, z1, z2, z3, z4, -⟩ := box5 bx1)
            | (go_at_call 106; refine (hpun _).mono ?_; rintro e W3 ⟨rfl, hb3⟩; have bx2 := (hb3.block _ (Array.getElem?_eq_some_iff.1 bx1).1).trans bx1; obtain ⟨u0, u1, u2, u3, u4, -⟩ := box5 bx2)
            | (go_at_call 107; refine (hI _ (hT.later (bel (bel (bel_al hb1 _) hb2) hb3))).mono ?_; rintro e W4 ⟨rfl, hb4⟩))
          refine bodyPost_ret (v := opV (some (x2, x3))) (by simp [results, Tryz.f87, go_sem, opV]) rfl (fin ?_)
          exact bel (bel (bel (bel_al hb1 _) hb2) hb3) hb4
        · go_wp2_with (first
            | (go_at_call 67; refine ha.mono ?_; rintro e W1 ⟨rfl, hb1⟩)
            | (go_at_call 105; refine (hbar _).mono ?_; rintro e W2 ⟨rfl, hb2⟩; have bx1 := (hb2.block _ (by simp)).trans (alloc_new W1 (.cells #[.int .i64 k, .string (strV s), .int .i64 n, .bool q, .bool ti] 87)); obtain ⟨z0, z1, z2, z3, z4, -⟩ := box5 bx1)
            | (go_at_call 107; refine (hI _ (hT.later (bel (bel_al hb1 _) hb2))).mono ?_; rintro e W4 ⟨rfl, hb4⟩))
          refine bodyPost_ret (v := opV (some (x2, x3))) (by simp [results, Tryz.f87, go_sem, opV]) rfl (fin ?_)
          exact bel (bel (bel_al hb1 _) hb2) hb4
      · rw [if_neg hq]
        by_cases hq3 : (most : Int) < (x2 : Int)
        · clear hq
          cases bb
          · obtain rfl : pp = true := by revert hbp; cases pp <;> simp
            go_wp2_with (first
              | (go_at_call 67; refine ha.mono ?_; rintro e W1 ⟨rfl, hb1⟩)
              | (go_at_call 105; refine (hbar _).mono ?_; rintro e W2 ⟨rfl, hb2⟩; have bx1 := (hb2.block _ (by simp)).trans (alloc_new W1 (.cells #[.int .i64 k, .string (strV s), .int .i64 n, .bool q, .bool ti] 87)); obtain ⟨z0, z1, z2, z3, z4, -⟩ := box5 bx1)
              | (go_at_call 106; refine (hpun _).mono ?_; rintro e W3 ⟨rfl, hb3⟩; have bx2 := (hb3.block _ (Array.getElem?_eq_some_iff.1 bx1).1).trans bx1; obtain ⟨u0, u1, u2, u3, u4, -⟩ := box5 bx2)
              | (go_at_call 107; refine (hI _ (hT.later (bel (bel (bel_al hb1 _) hb2) hb3))).mono ?_; rintro e W4 ⟨rfl, hb4⟩))
            refine bodyPost_ret (v := opV none) (by simp [results, Tryz.f87, go_sem, opV]) rfl (fin ?_)
            exact bel (bel (bel (bel_al hb1 _) hb2) hb3) hb4
          · go_wp2_with (first
              | (go_at_call 67; refine ha.mono ?_; rintro e W1 ⟨rfl, hb1⟩)
              | (go_at_call 105; refine (hbar _).mono ?_; rintro e W2 ⟨rfl, hb2⟩; have bx1 := (hb2.block _ (by simp)).trans (alloc_new W1 (.cells #[.int .i64 k, .string (strV s), .int .i64 n, .bool q, .bool ti] 87)); obtain ⟨z0, z1, z2, z3, z4, -⟩ := box5 bx1)
              | (go_at_call 107; refine (hI _ (hT.later (bel (bel_al hb1 _) hb2))).mono ?_; rintro e W4 ⟨rfl, hb4⟩))
            refine bodyPost_ret (v := opV none) (by simp [results, Tryz.f87, go_sem, opV]) rfl (fin ?_)
            exact bel (bel (bel_al hb1 _) hb2) hb4
        · have hq4 : (x1 : Int) < (pri : Int) := by omega
          clear hq
          cases bb
          · obtain rfl : pp = true := by revert hbp; cases pp <;> simp
            go_wp2_with (first
              | (go_at_call 67; refine ha.mono ?_; rintro e W1 ⟨rfl, hb1⟩)
              | (go_at_call 105; refine (hbar _).mono ?_; rintro e W2 ⟨rfl, hb2⟩; have bx1 := (hb2.block _ (by simp)).trans (alloc_new W1 (.cells #[.int .i64 k, .string (strV s), .int .i64 n, .bool q, .bool ti] 87)); obtain ⟨z0, z1, z2, z3, z4, -⟩ := box5 bx1)
              | (go_at_call 106; refine (hpun _).mono ?_; rintro e W3 ⟨rfl, hb3⟩; have bx2 := (hb3.block _ (Array.getElem?_eq_some_iff.1 bx1).1).trans bx1; obtain ⟨u0, u1, u2, u3, u4, -⟩ := box5 bx2)
              | (go_at_call 107; refine (hI _ (hT.later (bel (bel (bel_al hb1 _) hb2) hb3))).mono ?_; rintro e W4 ⟨rfl, hb4⟩))
            refine bodyPost_ret (v := opV none) (by simp [results, Tryz.f87, go_sem, opV]) rfl (fin ?_)
            exact bel (bel (bel (bel_al hb1 _) hb2) hb3) hb4
          · go_wp2_with (first
              | (go_at_call 67; refine ha.mono ?_; rintro e W1 ⟨rfl, hb1⟩)
              | (go_at_call 105; refine (hbar _).mono ?_; rintro e W2 ⟨rfl, hb2⟩; have bx1 := (hb2.block _ (by simp)).trans (alloc_new W1 (.cells #[.int .i64 k, .string (strV s), .int .i64 n, .bool q, .bool ti] 87)); obtain ⟨z0, z1, z2, z3, z4, -⟩ := box5 bx1)
              | (go_at_call 107; refine (hI _ (hT.later (bel (bel_al hb1 _) hb2))).mono ?_; rintro e W4 ⟨rfl, hb4⟩))
            refine bodyPost_ret (v := opV none) (by simp [results, Tryz.f87, go_sem, opV]) rfl (fin ?_)
            exact bel (bel (bel_al hb1 _) hb2) hb4
end
end Go.Proofs.YtfencolokfghfaaGreatDoor
