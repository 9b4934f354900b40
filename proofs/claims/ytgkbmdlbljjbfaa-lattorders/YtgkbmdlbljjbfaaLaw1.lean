/-
  The walks of the laws' helpers: shown, few.
-/
import Derived.Test.YtgkbmdlbljjbfaaLat
namespace Go.Proofs.Ytgkbmdlbljjbfaa
open Go.RowKit

def exPairs : List (Int × Int) := [(0, 1), (0, 2), (1, 3), (2, 3)]
def exTab : Nat → Nat → Bool := fun a b => a == b || a == 0 || b == 3

theorem exTab_lat : IsLat 4 (fun a b => exTab a b && decide (b < 4)) := by
  exact IsLat.of (by decide) (by decide) (fun a i _ _ h => by simp at h; exact h.2) (by decide) (by decide) (by decide) (by decide) (by decide)

theorem ex_star (a b : Nat) (ha : a < 4) (hb : b < 4) (h : exTab a b = true) : Star (Rel 4 (tab exPairs)) a b := by
  have r : ∀ x y, x < 4 → y < 4 → tab exPairs x y = true → Star (Rel 4 (tab exPairs)) x y := fun x y hx hy h => .one ⟨hx, hy, h⟩
  have h03 : Star (Rel 4 (tab exPairs)) 0 3 := (r 0 1 (by decide) (by decide) (by decide)).trans (r 1 3 (by decide) (by decide) (by decide))
  have h01 := r 0 1 (by decide) (by decide) (by decide)
  have h02 := r 0 2 (by decide) (by decide) (by decide)
  have h13 := r 1 3 (by decide) (by decide) (by decide)
  have h23 := r 2 3 (by decide) (by decide) (by decide)
  have ca : a = 0 ∨ a = 1 ∨ a = 2 ∨ a = 3 := by omega
  have cb : b = 0 ∨ b = 1 ∨ b = 2 ∨ b = 3 := by omega
  rcases ca with rfl | rfl | rfl | rfl <;> rcases cb with rfl | rfl | rfl | rfl <;> first | exact .refl _ | assumption | exact absurd h (by decide)

theorem ex_iff {U D : Nat → Nat → Bool} (h : IsTab 4 exPairs U D) (a b : Nat) (ha : a < 4) (hb : b < 4) : U a b = true ↔ exTab a b = true :=
  h.eq (fun a b => exTab a b = true) (by decide) (by decide) (by decide) (fun a b ha hb h => ex_star a b ha hb h) a b ha hb

theorem ex_lat {U D : Nat → Nat → Bool} (h : IsTab 4 exPairs U D) : IsLat 4 U :=
  exTab_lat.congr (fun a b ha hb => by rw [ex_iff h a b ha hb]; simp [hb]) h.within

set_option maxRecDepth 100000 in
set_option maxHeartbeats 1000000 in
theorem shown_at (w : World) : Calls Try.prog 11 #[] w fun e w' => e = .returned (.bool true) ∧ Below w.heap.size w w' := by
  go_enter Try.func11, Try.ntmps11
  go_wp2_with fail
  obtain ⟨w1, hw1⟩ : ∃ w1, w1 = w.alloc (Obj.cells #[Value.int IntKind.i64 0, Value.int IntKind.i64 1, Value.int IntKind.i64 0, Value.int IntKind.i64 2, Value.int IntKind.i64 1, Value.int IntKind.i64 3, Value.int IntKind.i64 2, Value.int IntKind.i64 3] 42) := ⟨_, rfl⟩
  rw [← hw1]
  have HB1 : Hid (Below w.heap.size w w1) := by rw [hw1]; exact (Below.refl _ _).alloc (Nat.le_refl _) _
  have hp : PairsAt w1 (some ⟨w.heap.size, 0, none⟩) exPairs := by
    intro i hi
    have hi' : i < 4 := hi
    refine ⟨w.heap.size, 0, rfl, by rw [hw1]; exact Nat.lt_of_lt_of_eq (Nat.lt_succ_self _) (by simp), ?_⟩
    rw [hw1, World.cell?_alloc_new, World.cell?_alloc_new]
    have ci : i = 0 ∨ i = 1 ∨ i = 2 ∨ i = 3 := by omega
    rcases ci with rfl | rfl | rfl | rfl <;> exact ⟨rfl, rfl⟩
  clear hw1
  refine (new_at 4 _ 4 exPairs w1 (by simp [exPairs, maxLen]) hp).mono ?_
  rintro e w2 hpost
  obtain ⟨hb2, b, U, D, _, rfl, M⟩ := NewPost.ok (n := 4) hpost (by decide) (fun U D h => ex_lat h)
  have hu := ex_iff M.tab
  have hle : (4 : Int) ≤ 16 := by decide
  have HJ : Hid (joinB 4 U 1 2 = 3) := Lib.hid (M.join (x := 1) (y := 2) (c := 3) (by decide) (by decide) ⟨by decide, (hu 1 3 (by decide) (by decide)).2 (by decide), (hu 2 3 (by decide) (by decide)).2 (by decide), fun d hd _ _ => by
    rename_i h1 h2
    rw [hu 1 d (by decide) hd] at h1
    rw [hu 2 d (by decide) hd] at h2
    rw [hu 3 d (by decide) hd]
    revert d; decide⟩)
  have HM : Hid (joinB 4 D 1 2 = 0) := Lib.hid (M.meet (x := 1) (y := 2) (c := 0) (by decide) (by decide) ⟨by decide, (hu 0 1 (by decide) (by decide)).2 (by decide), (hu 0 2 (by decide) (by decide)).2 (by decide), fun d hd _ _ => by
    rename_i h1 h2
    rw [hu d 1 hd (by decide)] at h1
    rw [hu d 2 hd (by decide)] at h2
    rw [hu d 0 hd (by decide)]
    revert d; decide⟩)
  have HQ : Hid (leqB 4 U 0 3 = true) := by show _ = true; exact (M.leq (x := 0) (y := 3) (by decide) (by decide)).trans ((hu 0 3 (by decide) (by decide)).2 (by decide))
  have L := M.at_
  have HB2 : Hid (Below w.heap.size w w2) := HB1.out.trans (hb2.mono HB1.out.size)
  clear hpost hb2 hu M hp HB1
  go_wp2_with (first | (go_at_call 17; (with_reducible refine (join_is b 4 1 2 3 U D _ hle ?_ HJ.out).mono ?_); (first | exact L | exact L.drewN _); rintro e w' ⟨rfl, m1, rfl⟩) | (go_at_call 18; (with_reducible refine (meet_is b 4 1 2 0 U D _ hle ?_ HM.out).mono ?_); (first | exact L | exact L.drewN _); rintro e w' ⟨rfl, m2, rfl⟩) | (go_at_call 16; (with_reducible refine (leq_is b 4 0 3 U D true _ hle ?_ HQ.out).mono ?_); (first | exact L | exact L.drewN _); rintro e w' ⟨rfl, m3, rfl⟩))
  go_ret
  exact ⟨rfl, below_draws HB2.out _⟩

set_option maxHeartbeats 400000 in
theorem few_short (a : Option Addr) (len cap : Nat) (w : World) (h : len ≤ 100) : Calls Try.prog 12 #[.slice a len cap] w fun e w' => e = .returned (.slice a len cap) ∧ w = w' := by
  go_enter Try.func12, Try.ntmps12
  go_wp2
  go_ret
  exact ⟨rfl, rfl⟩

set_option maxHeartbeats 400000 in
theorem few_long (a : Option Addr) (len cap : Nat) (w : World) (h : 100 < len) (hc : len ≤ cap) (hm : cap ≤ maxLen) : Calls Try.prog 12 #[.slice a len cap] w fun e w' => e = .returned (.slice a 100 cap) ∧ w = w' := by
  unfold maxLen at hm
  go_enter Try.func12, Try.ntmps12
  go_wp2
  go_ret
  exact ⟨rfl, rfl⟩

/-- few: a slice of at most 100 pairs, the first ones. -/
theorem few_at (a : Option Addr) (cap : Nat) (ps : List (Int × Int)) (w : World) (hc : ps.length ≤ cap) (hm : cap ≤ maxLen) (hp : PairsAt w a ps) :
    Calls Try.prog 12 #[.slice a ps.length cap] w fun e w' => e = .returned (.slice a (ps.take 100).length cap) ∧ PairsAt w a (ps.take 100) ∧ (ps.take 100).length ≤ 100 ∧ w = w' := by
  have hq : PairsAt w a (ps.take 100) := fun i hi => by
    have hi' : i < ps.length := by rw [List.length_take] at hi; omega
    obtain ⟨pb, po, h1, h2, h3, h4⟩ := hp i hi'
    exact ⟨pb, po, h1, h2, by rw [h3, List.getElem_take], by rw [h4, List.getElem_take]⟩
  have hl : (ps.take 100).length ≤ 100 := List.length_take_le _ _
  by_cases h : 100 < ps.length
  · refine (few_long a ps.length cap w h hc hm).mono ?_
    rintro e w' ⟨rfl, rfl⟩
    exact ⟨by rw [List.length_take, Nat.min_eq_left (by omega)], hq, hl, rfl⟩
  · refine (few_short a ps.length cap w (by omega)).mono ?_
    rintro e w' ⟨rfl, rfl⟩
    exact ⟨by rw [List.length_take, Nat.min_eq_right (by omega)], hq, hl, rfl⟩
end Go.Proofs.Ytgkbmdlbljjbfaa
