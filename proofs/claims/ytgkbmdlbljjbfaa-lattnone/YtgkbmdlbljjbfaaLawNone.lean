/-
  The law LattNone: its mathematics and its walk.
-/
import Derived.Test.YtgkbmdlbljjbfaaOwn
namespace Go.Proofs.Ytgkbmdlbljjbfaa
open Go.RowKit

def nonePairs (k : Nat) : Nat → List (Int × Int)
  | 0 => []
  | j + 1 => nonePairs k j ++ [((k : Int), (j : Int)), ((j : Int), (k : Int) + 1)]

theorem nonePairs_length (k : Nat) : ∀ j, (nonePairs k j).length = 2 * j
  | 0 => rfl
  | j + 1 => by simp [nonePairs, nonePairs_length k j]; omega
theorem tab_none (k a b : Nat) : ∀ j, tab (nonePairs k j) a b = true ↔ (a = k ∧ b < j) ∨ (a < j ∧ b = k + 1)
  | 0 => by simp [nonePairs, tab]
  | j + 1 => by
    have := tab_none k a b j
    simp only [tab] at this
    simp only [nonePairs, tab, List.any_append, Bool.or_eq_true, this]
    simp
    omega
theorem good_none (k : Nat) : ∀ j, j ≤ k → goodB ((k : Int) + 2) (nonePairs k j) = true
  | 0, _ => rfl
  | j + 1, h => by
    have := good_none k j (by omega)
    simp only [goodB] at this
    simp only [nonePairs, goodB, List.all_append, this]
    simp [hasB]; omega

def noneT (k a b : Nat) : Prop := a = b ∨ a = k ∨ b = k + 1

theorem none_iff {k : Nat} (hk : 2 ≤ k) {U D : Nat → Nat → Bool} (h : IsTab (k + 2) (nonePairs k k) U D) (a b : Nat) (ha : a < k + 2) (hb : b < k + 2) : U a b = true ↔ noneT k a b := by
  refine h.eq (noneT k) (fun a _ => Or.inl rfl) (fun a _ b hb c hc => by unfold noneT; omega) (fun a ha b hb h => by rw [tab_none] at h; unfold noneT; omega) (fun a b ha hb h => ?_) a b ha hb
  have r : ∀ x y, x < k + 2 → y < k + 2 → ((x = k ∧ y < k) ∨ (x < k ∧ y = k + 1)) → Star (Rel (k + 2) (tab (nonePairs k k))) x y := fun x y hx hy h => .one ⟨hx, hy, (tab_none k x y k).2 h⟩
  unfold noneT at h
  by_cases e : a = b
  · rw [e]; exact .refl _
  · by_cases e1 : a = k
    · by_cases e2 : b = k + 1
      · exact (r a 0 ha (by omega) (by omega)).trans (r 0 b (by omega) hb (by omega))
      · exact r a b ha hb (by omega)
    · by_cases e2 : a < k
      · exact r a b ha hb (by omega)
      · omega

theorem none_lat {k : Nat} (hk : 2 ≤ k) (hk2 : k ≤ 14) {U D : Nat → Nat → Bool} (h : IsTab (k + 2) (nonePairs k k) U D) : IsLat (k + 2) U := by
  have e := none_iff hk h
  refine ⟨by omega, by omega, h.within, h.refl, fun a b c ha hb hc h1 h2 => h.trans a b ha hb h1 c (by omega) h2, fun a b ha hb h1 h2 => ?_, fun a b ha hb => ?_, fun a b ha hb => ?_⟩
  · rw [e a b ha hb] at h1; rw [e b a hb ha] at h2; unfold noneT at h1 h2; omega
  · by_cases c1 : noneT k a b
    · exact ⟨b, hb, (e a b ha hb).2 c1, h.refl b hb, fun d hd _ h4 => h4⟩
    · by_cases c2 : noneT k b a
      · exact ⟨a, ha, h.refl a ha, (e b a hb ha).2 c2, fun d hd h3 _ => h3⟩
      · refine ⟨k + 1, by omega, (e a _ ha (by omega)).2 (by unfold noneT; omega), (e b _ hb (by omega)).2 (by unfold noneT; omega), fun d hd h3 h4 => ?_⟩
        rw [e a d ha hd] at h3; rw [e b d hb hd] at h4; rw [e _ d (by omega) hd]; unfold noneT at *; omega
  · by_cases c1 : noneT k a b
    · exact ⟨a, ha, h.refl a ha, (e a b ha hb).2 c1, fun d hd h3 _ => h3⟩
    · by_cases c2 : noneT k b a
      · exact ⟨b, hb, (e b a hb ha).2 c2, h.refl b hb, fun d hd _ h4 => h4⟩
      · refine ⟨k, by omega, (e _ a (by omega) ha).2 (by unfold noneT; omega), (e _ b (by omega) hb).2 (by unfold noneT; omega), fun d hd h3 h4 => ?_⟩
        rw [e d a hd ha] at h3; rw [e d b hd hb] at h4; rw [e d _ hd (by omega)]; unfold noneT at *; omega

theorem no_pairs {k : Nat} (hk : 2 ≤ k) {U D : Nat → Nat → Bool} (h : IsTab k [] U D) : ¬ IsLat k U := by
  intro L
  have e := h.eq (fun a b => a = b) (fun _ _ => rfl) (fun a _ b _ c _ h1 h2 => h1.trans h2) (fun a _ b _ h => by simp [tab] at h) (fun a b _ _ h => by rw [h]; exact .refl _)
  obtain ⟨c, hc, h1, h2, _⟩ := L.lub 0 1 (by omega) (by omega)
  rw [e 0 c (by omega) hc] at h1
  rw [e 1 c (by omega) hc] at h2
  omega

theorem one_pair {k : Nat} (hk : 2 ≤ k) {U D : Nat → Nat → Bool} (h : IsTab (k + 1) [((k : Int), 0)] U D) : ¬ IsLat (k + 1) U := by
  intro L
  have et : ∀ a b, tab [((k : Int), (0 : Int))] a b = true ↔ a = k ∧ b = 0 := fun a b => by simp [tab]; omega
  have e := h.eq (fun a b => a = b ∨ (a = k ∧ b = 0)) (fun _ _ => Or.inl rfl) (fun a _ b _ c _ h1 h2 => by omega) (fun a _ b _ h => by rw [et] at h; omega)
    (fun a b ha hb h => by
      rcases h with h | h
      · rw [h]; exact .refl _
      · exact .one ⟨ha, hb, (et a b).2 h⟩)
  obtain ⟨c, hc, h1, h2, _⟩ := L.lub 0 1 (by omega) (by omega)
  rw [e 0 c (by omega) hc] at h1
  rw [e 1 c (by omega) hc] at h2
  omega

theorem OwnPairs.first {w : World} {a : Option Addr} {ps : List (Int × Int)} (h : PairsAt w a ps) (n : Nat) : PairsAt w a (ps.take n) := fun i hi => by
  have hi' : i < ps.length := by rw [List.length_take] at hi; omega
  obtain ⟨pb, po, h1, h2, h3, h4⟩ := h i hi'
  exact ⟨pb, po, h1, h2, by rw [h3, List.getElem_take], by rw [h4, List.getElem_take]⟩

theorem none_first {k j : Nat} (hj : 1 ≤ j) : (nonePairs k j).take 1 = [((k : Int), 0)] := by
  induction j with
  | zero => omega
  | succ j ih =>
    by_cases e : j = 0
    · subst e; rfl
    · rw [nonePairs, List.take_append_of_le_length (by rw [nonePairs_length]; omega)]; exact ih (by omega)

set_option maxRecDepth 100000 in
set_option maxHeartbeats 4000000 in
theorem lattNone_at (n : Int) (w : World) (n0 : 0 ≤ n) (n1 : n < 256) :
    Calls Try.prog 9 #[.int .u8 n] w fun e w' => e = .returned (.bool true) ∧ Below w.heap.size w w' := by
  obtain ⟨i0, hi, hz0, hz1, hz2⟩ := info_parts Try.infoPair
  go_enter Try.func9, Try.ntmps9
  go_wp2_with fail
  refine (shown_at w).mono ?_
  rintro e w1 ⟨rfl, hb1⟩
  have HB1 := Lib.hid hb1
  clear hb1
  go_wp2_with fail
  obtain ⟨k, hk, hk1, hk2⟩ : ∃ k : Nat, 2 + n % 13 = (k : Int) ∧ 2 ≤ k ∧ k ≤ 14 := ⟨(2 + n % 13).toNat, by omega, by omega, by omega⟩
  rw [hk]
  clear hk
  go_loopw [5, 6] (fun v i wr => ∃ j : Nat, j ≤ k ∧ i = .int .i64 j ∧ OwnPairs wr w.heap.size v (nonePairs k j) ∧ Below w.heap.size w wr) (fun _ i _ => k - (intOf i).toNat)
  case atStart => exact ⟨0, Nat.zero_le _, rfl, OwnPairs.nil _ _, HB1.out⟩
  case round =>
    obtain ⟨j, hj, rfl, hown, hbr⟩ := hrel
    have HB := Lib.hid hbr
    by_cases hlt : j < k
    · have hl : (nonePairs k j).length ≤ 28 := by rw [nonePairs_length]; omega
      go_wp2_with (first | (at_builtin; refine wpList_append_own _ rfl _ _ 22 rfl w.heap.size 42 i0 (.agg #[.int .i64 0, .int .i64 0]) 2 16 Try.underlying22 hi hz0 hz1 hz2 rfl (by decide) _ _ _ rfl (hown.alloc _) ⟨wr.heap.size, 0, none⟩ 2 2 [.int .i64 k, .int .i64 j, .int .i64 j, .int .i64 (k + 1)] rfl rfl ?c1 ?c2 ?c3 ?c4 ?c5 ?_))
      case c1 =>
        intro q u hq
        match q, hq with
        | 0, hq => simp at hq; subst hq; simp [Addr.add]
        | 1, hq => simp at hq; subst hq; simp [Addr.add]
        | 2, hq => simp at hq; subst hq; simp [Addr.add]
        | 3, hq => simp at hq; subst hq; simp [Addr.add]
      case c2 => intro u hu; simp at hu; rcases hu with rfl | rfl | rfl | rfl <;> rfl
      case c3 => unfold maxLen; omega
      case c4 => omega
      case c5 => have := hbr.size; simp; omega
      · intro v' w3 hown' hgrow _
        have HO : Hid (OwnPairs w3 w.heap.size v' (nonePairs k (j + 1))) := OwnPairs.more hown' (by simp) (by rw [flat_append]; rfl)
        have HB3 : Hid (Below w.heap.size w w3) := (hbr.alloc hbr.size _).grown hgrow (by simp; have := hbr.size; omega) (OwnPairs.lt hown)
        clear hown' hgrow hown hbr HB
        go_wp2
        go_roundw
        case rel => exact ⟨j + 1, by omega, by go_num, HO.out, HB3.out⟩
        case measure => simp [intOf]; omega
    · obtain rfl : k = j := by omega
      obtain ⟨sa, cap, rfl, hc1, hc2, _, hp⟩ := hown.pairs
      have hl : (nonePairs k k).length ≤ maxLen := by rw [nonePairs_length]; unfold maxLen; omega
      have hl1 : 1 ≤ (nonePairs k k).length := by rw [nonePairs_length]; omega
      have HP := Lib.hid hp
      clear hown hbr HB1
      go_wp2_with fail
      refine (new_at k none 0 [] wr (by simp) (fun i hi => by simp at hi)).mono ?_
      rintro e w3 hpost
      obtain ⟨hb3, rfl⟩ := NewPost.form hpost (by simp [okArgs, goodB]; omega) (fun U D h => no_pairs hk1 h)
      have HB3 := Lib.hid hb3
      clear hpost hb3
      have hp3 := hp.below HB3.out
      clear hp HP
      go_wp2_with fail
      refine (new_at ((k + 2 : Nat) : Int) sa cap (nonePairs k k) w3 hl hp3).mono ?_
      rintro e w4 hpost
      obtain ⟨hb4, b, U, D, _, rfl, M⟩ := NewPost.ok hpost (by have := good_none k k (Nat.le_refl _); simp [okArgs]; exact ⟨by omega, this⟩) (fun U D h => none_lat hk1 hk2 h)
      have HB4 := Lib.hid hb4
      clear hpost hb4
      have hp4 : PairsAt w4 sa ((nonePairs k k).take 1) := OwnPairs.first (hp3.below HB4.out) 1
      rw [none_first (by omega)] at hp4
      clear hp3
      go_wp2_with fail
      refine (new_at ((k + 1 : Nat) : Int) sa cap [((k : Int), 0)] w4 (by simp [maxLen]) hp4).mono ?_
      rintro e w5 hpost
      obtain ⟨hb5, rfl⟩ := NewPost.form hpost (by simp [okArgs, goodB, hasB]; omega) (fun U D h => one_pair hk1 h)
      have M5 := M.later hb5
      have HBB : Hid (Below w.heap.size w w5) := ((HB.out.trans (HB3.out.mono HB.out.size)).trans (HB4.out.mono (HB.out.trans (HB3.out.mono HB.out.size)).size)).trans (hb5.mono ((HB.out.trans (HB3.out.mono HB.out.size)).trans (HB4.out.mono (HB.out.trans (HB3.out.mono HB.out.size)).size)).size)
      clear hpost hb5 M hp4 HB HB3 HB4
      have e := none_iff hk1 M5.tab
      have EB := Lib.hid (bottom_eq M5.lat (c := k) (by omega) (fun i hi => (e k i (by omega) hi).2 (Or.inr (Or.inl rfl))))
      have ET : Hid (cover D (below (k + 2)) = (k : Int) + 1) := Lib.hid (top_eq M5.lat M5.tab.down (c := k + 1) (by omega) (fun i hi => (e i _ hi (by omega)).2 (Or.inr (Or.inr rfl))))
      have EJ : Hid (joinB ((k + 2 : Nat) : Int) U 0 1 = (k : Int) + 1) := M5.join (x := 0) (y := 1) (c := k + 1) (by omega) (by omega) ⟨by omega, (e 0 _ (by omega) (by omega)).2 (by unfold noneT; omega), (e 1 _ (by omega) (by omega)).2 (by unfold noneT; omega), fun d hd h3 h4 => by
        rw [e 0 d (by omega) hd] at h3; rw [e 1 d (by omega) hd] at h4; rw [e _ d (by omega) hd]; unfold noneT at *; omega⟩
      have EM : Hid (joinB ((k + 2 : Nat) : Int) D 0 1 = (k : Int)) := M5.meet (x := 0) (y := 1) (c := k) (by omega) (by omega) ⟨by omega, (e _ 0 (by omega) (by omega)).2 (by unfold noneT; omega), (e _ 1 (by omega) (by omega)).2 (by unfold noneT; omega), fun d hd h3 h4 => by
        rw [e d 0 hd (by omega)] at h3; rw [e d 1 hd (by omega)] at h4; rw [e d _ hd (by omega)]; unfold noneT at *; omega⟩
      have L := M5.at_
      clear e M5
      have hle : ((k + 2 : Nat) : Int) ≤ 16 := by omega
      have hle2 : k + 2 ≤ 16 := by omega
      go_wp2_with (first | (go_at_call 19; (with_reducible refine (bottom_is b (k + 2) k U D _ hle2 ?_ EB.out).mono ?_); (first | exact L | exact L.drewN _); rintro e w' ⟨rfl, m, rfl⟩) | (go_at_call 20; (with_reducible refine (top_is b (k + 2) (k + 1) U D _ hle2 ?_ ET.out).mono ?_); (first | exact L | exact L.drewN _); rintro e w' ⟨rfl, m, rfl⟩) | (go_at_call 17; (with_reducible refine (join_is b _ 0 1 (k + 1) U D _ hle ?_ EJ.out).mono ?_); (first | exact L | exact L.drewN _); rintro e w' ⟨rfl, m, rfl⟩) | (go_at_call 18; (with_reducible refine (meet_is b _ 0 1 k U D _ hle ?_ EM.out).mono ?_); (first | exact L | exact L.drewN _); rintro e w' ⟨rfl, m, rfl⟩))
      go_ret
      exact ⟨rfl, below_draws HBB.out _⟩
end Go.Proofs.Ytgkbmdlbljjbfaa
