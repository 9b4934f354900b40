/-
  The law LattChains: its mathematics and its walk.
-/
import Derived.Test.YtgkbmdlbljjbfaaOwn
namespace Go.Proofs.Ytgkbmdlbljjbfaa
open Go.RowKit

def chain : Nat → List (Int × Int)
  | 0 => []
  | j + 1 => chain j ++ [((j : Int), (j : Int) + 1)]

theorem chain_length : ∀ j, (chain j).length = j
  | 0 => rfl
  | j + 1 => by simp [chain, chain_length j]
theorem tab_chain (a b : Nat) : ∀ j, tab (chain j) a b = true ↔ a < j ∧ b = a + 1
  | 0 => by simp [chain, tab]
  | j + 1 => by
    have := tab_chain a b j
    simp only [tab] at this
    simp only [chain, tab, List.any_append, Bool.or_eq_true, this]
    simp
    omega
theorem good_chain (n : Nat) : ∀ j, j < n → goodB n (chain j) = true
  | 0, _ => rfl
  | j + 1, h => by
    have := good_chain n j (by omega)
    simp only [goodB] at this
    simp only [chain, goodB, List.all_append, this]
    simp [hasB]; omega

theorem chain_star (n j : Nat) (ps : List (Int × Int)) (hj : j < n) (hps : ∀ a b, a < j → b = a + 1 → tab ps a b = true) : ∀ d a, a + d ≤ j → Star (Rel n (tab ps)) a (a + d)
  | 0, a, _ => .refl a
  | d + 1, a, h => by
    have := chain_star n j ps hj hps d (a + 1) (by omega)
    rw [show a + 1 + d = a + (d + 1) by omega] at this
    exact .head ⟨by omega, by omega, hps a (a + 1) (by omega) rfl⟩ this

theorem chain_iff {k : Nat} {U D : Nat → Nat → Bool} (h : IsTab (k + 1) (chain k) U D) (a b : Nat) (ha : a < k + 1) (hb : b < k + 1) : U a b = true ↔ a ≤ b := by
  refine h.eq (fun a b => a ≤ b) (fun a _ => Nat.le_refl a) (fun a _ b _ c _ h1 h2 => Nat.le_trans h1 h2) (fun a _ b _ h => by rw [tab_chain] at h; omega) (fun a b ha hb h => ?_) a b ha hb
  have := chain_star (k + 1) k (chain k) (by omega) (fun a b h1 h2 => (tab_chain a b k).2 ⟨h1, h2⟩) (b - a) a (by omega)
  rw [show a + (b - a) = b by omega] at this
  exact this

theorem chain_lat {k : Nat} (hk : k < 16) {U D : Nat → Nat → Bool} (h : IsTab (k + 1) (chain k) U D) : IsLat (k + 1) U := by
  have e := chain_iff h
  refine ⟨by omega, by omega, h.within, h.refl, fun a b c ha hb hc h1 h2 => h.trans a b ha hb h1 c (by omega) h2, fun a b ha hb h1 h2 => ?_, fun a b ha hb => ?_, fun a b ha hb => ?_⟩
  · rw [e a b ha hb] at h1; rw [e b a hb ha] at h2; omega
  · by_cases c : a ≤ b
    · exact ⟨b, hb, (e a b ha hb).2 c, h.refl b hb, fun d hd _ h4 => h4⟩
    · exact ⟨a, ha, h.refl a ha, (e b a hb ha).2 (by omega), fun d hd h3 _ => h3⟩
  · by_cases c : a ≤ b
    · exact ⟨a, ha, h.refl a ha, (e a b ha hb).2 c, fun d hd h3 _ => h3⟩
    · exact ⟨b, hb, (e b a hb ha).2 (by omega), h.refl b hb, fun d hd _ h4 => h4⟩

theorem ring_not {k : Nat} (hk : 1 ≤ k) {U D : Nat → Nat → Bool} (h : IsTab (k + 1) (chain k ++ [((k : Int), 0)]) U D) : ¬ IsLat (k + 1) U := by
  intro L
  have h1 : U 0 k = true := by
    have := chain_star (k + 1) k (chain k ++ [((k : Int), 0)]) (by omega) (fun a b h1 h2 => by
      have := (tab_chain a b k).2 ⟨h1, h2⟩
      simp only [tab] at this
      simp only [tab, List.any_append, this]; rfl) k 0 (by omega)
    rw [Nat.zero_add] at this
    exact h.up this (by omega)
  have h2 : U k 0 = true := h.inv.ext k 0 (by omega) (by omega) (by simp [tab])
  have := L.antisymm 0 k (by omega) (by omega) h1 h2
  omega

theorem ring_one {U D : Nat → Nat → Bool} (h : IsTab 1 [((0 : Int), 0)] U D) : IsLat 1 U := by
  have r := h.refl 0 (by omega)
  have z : ∀ a, a < 1 → a = 0 := fun a ha => by omega
  exact ⟨by omega, by omega, h.within, h.refl, fun a b c ha hb hc h1 h2 => h.trans a b ha hb h1 c (by omega) h2, fun a b ha hb _ _ => by omega,
    fun a b ha hb => ⟨0, by omega, by rw [z a ha]; exact r, by rw [z b hb]; exact r, fun d hd _ _ => by rw [z d hd]; exact r⟩,
    fun a b ha hb => ⟨0, by omega, by rw [z a ha]; exact r, by rw [z b hb]; exact r, fun d hd _ _ => by rw [z d hd]; exact r⟩⟩

set_option maxRecDepth 100000 in
set_option maxHeartbeats 1000000 in
theorem lattChains_at (n a b : Int) (w : World) (n0 : 0 ≤ n) (n1 : n < 256) (a0 : 0 ≤ a) (a1 : a < 256) (b0 : 0 ≤ b) (b1 : b < 256) :
    Calls Try.prog 5 #[.int .u8 n, .int .u8 a, .int .u8 b] w fun e w' => e = .returned (.bool true) ∧ Below w.heap.size w w' := by
  go_enter Try.func5, Try.ntmps5
  go_wp2_with fail
  refine (shown_at w).mono ?_
  rintro e w1 ⟨rfl, hb1⟩
  have HB1 := Lib.hid hb1
  clear hb1
  go_wp2_with fail
  obtain ⟨k, hk, hk1⟩ : ∃ k : Nat, 1 + n % 16 = (k : Int) + 1 ∧ k < 16 := ⟨(n % 16).toNat, by omega, by omega⟩
  rw [hk]
  clear hk
  go_loopw [9, 10] (fun v i wr => ∃ j : Nat, j ≤ k ∧ i = .int .i64 ((j : Int) + 1) ∧ OwnPairs wr w.heap.size v (chain j) ∧ Below w.heap.size w wr) (fun _ i _ => k + 1 - (intOf i).toNat)
  case atStart => exact ⟨0, Nat.zero_le _, rfl, OwnPairs.nil _ _, HB1.out⟩
  case round =>
    obtain ⟨j, hj, rfl, hown, hbr⟩ := hrel
    have HB := Lib.hid hbr
    have hl : (chain j).length ≤ 16 := by rw [chain_length]; omega
    by_cases hlt : j < k
    · go_wp2_with (first | (at_builtin; refine wpList_append_pairs rfl _ _ rfl w.heap.size _ (chain j) rfl (hown.alloc _) (some ⟨wr.heap.size, 0, none⟩) 1 [((j : Int), (j : Int) + 1)] 1 rfl rfl ?c1 ?c2 ?c3 ?c4 ?_))
      case c1 => exact PairsAt.lit1 wr _ _
      case c2 => intro h; cases h
      case c3 => simp; omega
      case c4 => have := hbr.size; simp; omega
      · intro v' w3 hown' hgrow
        have HO : Hid (OwnPairs w3 w.heap.size v' (chain (j + 1))) := hown'
        have HB3 : Hid (Below w.heap.size w w3) := (hbr.alloc hbr.size _).grown hgrow (by simp; have := hbr.size; omega) (OwnPairs.lt hown)
        clear hown' hgrow hown hbr HB
        go_wp2
        go_roundw
        case rel => exact ⟨j + 1, by omega, by go_num, HO.out, HB3.out⟩
        case measure => simp [intOf]; omega
    · obtain rfl : k = j := by omega
      obtain ⟨sa, cap, rfl, hc1, hc2, hc3, hp⟩ := hown.pairs
      have hl2 : (chain k).length ≤ maxLen := by unfold maxLen; omega
      clear hown hbr HB1
      go_wp2_with fail
      refine (new_at ((k + 1 : Nat) : Int) sa cap (chain k) wr hl2 hp).mono ?_
      rintro e w3 hpost
      obtain ⟨hb3, lb, U, D, hlb, rfl, M⟩ := NewPost.ok hpost (by have := good_chain (k + 1) k (by omega); simp [okArgs]; exact ⟨by omega, this⟩) (fun U D h => chain_lat hk1 h)
      have HB3 : Hid (Below w.heap.size w w3) := HB.out.trans (hb3.mono HB.out.size)
      have hp3 := hp.below hb3
      clear hpost hb3 hp HB
      have HM := Lib.hid M
      clear M
      go_wp2_with (at_builtin; refine wpList_append_pairs rfl (.tmp 48) (.tmp 49) rfl w3.heap.size _ [] rfl (OwnPairs.empty w3 w3.heap.size (Nat.le_refl _)) sa cap (chain k) _ rfl rfl ?d1 hc3 ?d2 ?d3 ?_)
      case d1 => exact hp3.below ((Below.refl _ _).alloc (Nat.le_refl _) _)
      case d2 => simp; omega
      case d3 => simp
      intro v4 w4 hown4 hg4
      have hb4 : Below w3.heap.size w3 w4 := ((Below.refl _ _).alloc (Nat.le_refl _) _).grown hg4 (by simp) (fun q hq => by simp [Value.ownBlock] at hq; omega)
      have HB4 := Lib.hid hb4
      clear hg4 hp3
      go_wp2_with (at_builtin; refine wpList_append_pairs rfl (.tmp 50) (.tmp 54) rfl w3.heap.size _ (chain k) rfl (hown4.alloc _) (some ⟨w4.heap.size, 0, none⟩) 1 [((k : Int), 0)] 1 rfl rfl ?e1 ?e2 ?e3 ?e4 ?_)
      case e1 => exact PairsAt.lit1 w4 _ _
      case e2 => intro h; cases h
      case e3 => simp; omega
      case e4 => have := hb4.size; simp; omega
      intro v5 w5 hown5 hg5
      have hb5 : Below w3.heap.size w3 w5 := (hb4.alloc hb4.size _).grown hg5 (by simp; have := hb4.size; omega) (OwnPairs.lt hown4)
      have HB5 := Lib.hid hb5
      obtain ⟨qs, hqs⟩ : ∃ qs, qs = chain k ++ [((k : Int), (0 : Int))] := ⟨_, rfl⟩
      rw [← hqs] at hown5
      have HQ := Lib.hid hqs
      have hl5 : qs.length ≤ maxLen := by rw [hqs, List.length_append, chain_length]; unfold maxLen; simp; omega
      obtain ⟨sa5, cap5, rfl, _, _, _, hp5⟩ := hown5.pairs
      clear hg5 hown4 hown5 hb4 HB4 hqs
      go_wp2_with fail
      with_reducible refine (new_at ((k : Int) + 1) sa5 cap5 qs w5 hl5 hp5).mono ?_
      rintro e w6 hpost
      have hpost : NewPost w5 ((k + 1 : Nat) : Int) (chain k ++ [((k : Int), 0)]) e w6 := by rw [← HQ.out]; exact hpost
      have hb6 := hpost.1
      have h6 : ∃ (r : Option Addr) (c : Int), e = .returned (.tuple #[.pointer r, .int .i64 c]) ∧ ((c == 4) = decide (1 ≤ k)) := by
        by_cases hk0 : 1 ≤ k
        · obtain ⟨_, rfl⟩ := NewPost.form hpost (by have := good_chain (k + 1) k (by omega); simp only [goodB] at this; simp only [okArgs, goodB, List.all_append, this]; simp [hasB]; omega) (fun U D h => ring_not hk0 h)
          exact ⟨none, 4, rfl, by simp [hk0]⟩
        · obtain rfl : k = 0 := by omega
          obtain ⟨_, b, _, _, _, rfl, _⟩ := NewPost.ok hpost (by decide) (fun U D h => ring_one h)
          exact ⟨some ⟨b, 0, none⟩, 0, rfl, rfl⟩
      obtain ⟨r6, c6, rfl, hc6⟩ := h6
      have M := (HM.out.later HB5.out).later hb6
      have HBB : Hid (Below w.heap.size w w6) := (HB3.out.trans (HB5.out.mono HB3.out.size)).trans (hb6.mono (HB3.out.trans (HB5.out.mono HB3.out.size)).size)
      clear hpost hb6 hp5 hb5 HB5 HB3 HM
      have e := chain_iff M.tab
      have EB : Hid (cover U (below (k + 1)) = 0) := bottom_eq M.lat (c := 0) (by omega) (fun i hi => (e 0 i (by omega) hi).2 (Nat.zero_le _))
      have ET : Hid (cover D (below (k + 1)) = (k : Int)) := top_eq M.lat M.tab.down (c := k) (by omega) (fun i hi => (e i k hi (by omega)).2 (by omega))
      have L := M.at_
      have hle : ((k + 1 : Nat) : Int) ≤ 16 := by omega
      have hle2 : k + 1 ≤ 16 := by omega
      have HC6 : Hid ((c6 == 4) = decide (1 ≤ k)) := hc6
      clear hc6
      go_wp2_with fail
      obtain ⟨X, hX, hXN⟩ : ∃ X : Nat, a % ((k : Int) + 1) = X ∧ X < k + 1 := mod_level a (k + 1) (by omega)
      obtain ⟨Y, hY, hYN⟩ : ∃ Y : Nat, b % ((k : Int) + 1) = Y ∧ Y < k + 1 := mod_level b (k + 1) (by omega)
      rw [hX, hY]
      clear hX hY
      clear hc1 hc2 hc3 hl hl2 hl5 HQ hlb hlt hj
      rcases Nat.lt_trichotomy X Y with hxy | hxy | hxy
      · have EJ := Lib.hid (M.join hXN hYN ⟨hYN, (e X Y hXN hYN).2 (by omega), M.lat.refl Y hYN, fun d hd _ h4 => h4⟩)
        have EM := Lib.hid (M.meet hXN hYN ⟨hXN, M.lat.refl X hXN, (e X Y hXN hYN).2 (by omega), fun d hd h3 _ => h3⟩)
        have EL : Hid (leqB ((k + 1 : Nat) : Int) U X Y = true) := by show _ = true; rw [M.leq hXN hYN]; exact (e X Y hXN hYN).2 (by omega)
        have hxy1 : (X : Int) < (Y : Int) := by omega
        have hxy2 : decide ((Y : Int) < (X : Int)) = false := by simp; omega
        have hxy3 : decide (Y < X) = false := by simp; omega
        have hxy4 : X ≤ Y := by omega
        have hxy5 : (X : Int) ≤ (Y : Int) := by omega
        clear e M
        by_cases hk0 : 1 ≤ k
        · have h6 : (c6 == 4) = true := by rw [HC6.out]; simp [hk0]
          have h7 : (1 : Int) < (k : Int) + 1 := by omega
          clear HC6
          go_wp2_with (first | (go_at_call 19; (with_reducible refine (bottom_is lb (k + 1) 0 U D _ hle2 ?_ EB.out).mono ?_); (first | exact L | exact L.drewN _); rintro e w' ⟨rfl, m, rfl⟩) | (go_at_call 20; (with_reducible refine (top_is lb (k + 1) k U D _ hle2 ?_ ET.out).mono ?_); (first | exact L | exact L.drewN _); rintro e w' ⟨rfl, m, rfl⟩) | (go_at_call 17; (with_reducible refine (join_is lb _ X Y Y U D _ hle ?_ EJ.out).mono ?_); (first | exact L | exact L.drewN _); rintro e w' ⟨rfl, m, rfl⟩) | (go_at_call 18; (with_reducible refine (meet_is lb _ X Y X U D _ hle ?_ EM.out).mono ?_); (first | exact L | exact L.drewN _); rintro e w' ⟨rfl, m, rfl⟩) | (go_at_call 16; (with_reducible refine (leq_is lb _ X Y U D true _ hle ?_ EL.out).mono ?_); (first | exact L | exact L.drewN _); rintro e w' ⟨rfl, m, rfl⟩))
          go_ret
          exact ⟨rfl, below_draws HBB.out _⟩
        · have h6 : (c6 == 4) = false := by rw [HC6.out]; simp; omega
          have h7 : decide ((1 : Int) < (k : Int) + 1) = false := by simp; omega
          clear HC6
          go_wp2_with (first | (go_at_call 19; (with_reducible refine (bottom_is lb (k + 1) 0 U D _ hle2 ?_ EB.out).mono ?_); (first | exact L | exact L.drewN _); rintro e w' ⟨rfl, m, rfl⟩) | (go_at_call 20; (with_reducible refine (top_is lb (k + 1) k U D _ hle2 ?_ ET.out).mono ?_); (first | exact L | exact L.drewN _); rintro e w' ⟨rfl, m, rfl⟩) | (go_at_call 17; (with_reducible refine (join_is lb _ X Y Y U D _ hle ?_ EJ.out).mono ?_); (first | exact L | exact L.drewN _); rintro e w' ⟨rfl, m, rfl⟩) | (go_at_call 18; (with_reducible refine (meet_is lb _ X Y X U D _ hle ?_ EM.out).mono ?_); (first | exact L | exact L.drewN _); rintro e w' ⟨rfl, m, rfl⟩) | (go_at_call 16; (with_reducible refine (leq_is lb _ X Y U D true _ hle ?_ EL.out).mono ?_); (first | exact L | exact L.drewN _); rintro e w' ⟨rfl, m, rfl⟩))
          go_ret
          exact ⟨rfl, below_draws HBB.out _⟩
      · subst hxy
        have EJ := Lib.hid (M.join hXN hXN ⟨hXN, M.lat.refl X hXN, M.lat.refl X hXN, fun d hd _ h4 => h4⟩)
        have EM := Lib.hid (M.meet hXN hXN ⟨hXN, M.lat.refl X hXN, M.lat.refl X hXN, fun d hd h3 _ => h3⟩)
        have EL : Hid (leqB ((k + 1 : Nat) : Int) U X X = true) := by show _ = true; rw [M.leq hXN hXN]; exact M.lat.refl X hXN
        clear e M
        by_cases hk0 : 1 ≤ k
        · have h6 : (c6 == 4) = true := by rw [HC6.out]; simp [hk0]
          have h7 : (1 : Int) < (k : Int) + 1 := by omega
          clear HC6
          go_wp2_with (first | (go_at_call 19; (with_reducible refine (bottom_is lb (k + 1) 0 U D _ hle2 ?_ EB.out).mono ?_); (first | exact L | exact L.drewN _); rintro e w' ⟨rfl, m, rfl⟩) | (go_at_call 20; (with_reducible refine (top_is lb (k + 1) k U D _ hle2 ?_ ET.out).mono ?_); (first | exact L | exact L.drewN _); rintro e w' ⟨rfl, m, rfl⟩) | (go_at_call 17; (with_reducible refine (join_is lb _ X X X U D _ hle ?_ EJ.out).mono ?_); (first | exact L | exact L.drewN _); rintro e w' ⟨rfl, m, rfl⟩) | (go_at_call 18; (with_reducible refine (meet_is lb _ X X X U D _ hle ?_ EM.out).mono ?_); (first | exact L | exact L.drewN _); rintro e w' ⟨rfl, m, rfl⟩) | (go_at_call 16; (with_reducible refine (leq_is lb _ X X U D true _ hle ?_ EL.out).mono ?_); (first | exact L | exact L.drewN _); rintro e w' ⟨rfl, m, rfl⟩))
          go_ret
          exact ⟨rfl, below_draws HBB.out _⟩
        · have h6 : (c6 == 4) = false := by rw [HC6.out]; simp; omega
          have h7 : decide ((1 : Int) < (k : Int) + 1) = false := by simp; omega
          clear HC6
          go_wp2_with (first | (go_at_call 19; (with_reducible refine (bottom_is lb (k + 1) 0 U D _ hle2 ?_ EB.out).mono ?_); (first | exact L | exact L.drewN _); rintro e w' ⟨rfl, m, rfl⟩) | (go_at_call 20; (with_reducible refine (top_is lb (k + 1) k U D _ hle2 ?_ ET.out).mono ?_); (first | exact L | exact L.drewN _); rintro e w' ⟨rfl, m, rfl⟩) | (go_at_call 17; (with_reducible refine (join_is lb _ X X X U D _ hle ?_ EJ.out).mono ?_); (first | exact L | exact L.drewN _); rintro e w' ⟨rfl, m, rfl⟩) | (go_at_call 18; (with_reducible refine (meet_is lb _ X X X U D _ hle ?_ EM.out).mono ?_); (first | exact L | exact L.drewN _); rintro e w' ⟨rfl, m, rfl⟩) | (go_at_call 16; (with_reducible refine (leq_is lb _ X X U D true _ hle ?_ EL.out).mono ?_); (first | exact L | exact L.drewN _); rintro e w' ⟨rfl, m, rfl⟩))
          go_ret
          exact ⟨rfl, below_draws HBB.out _⟩
      · have EJ := Lib.hid (M.join hXN hYN ⟨hXN, M.lat.refl X hXN, (e Y X hYN hXN).2 (by omega), fun d hd h3 _ => h3⟩)
        have EM := Lib.hid (M.meet hXN hYN ⟨hYN, (e Y X hYN hXN).2 (by omega), M.lat.refl Y hYN, fun d hd _ h4 => h4⟩)
        have EL : Hid (leqB ((k + 1 : Nat) : Int) U X Y = false) := by
          show _ = false
          rw [M.leq hXN hYN]
          cases hu : U X Y
          · rfl
          · exact absurd ((e X Y hXN hYN).1 hu) (by omega)
        have hxy1 : (Y : Int) < (X : Int) := by omega
        have hxy2 : decide ((X : Int) ≤ (Y : Int)) = false := by simp; omega
        have hxy3 : decide (X ≤ Y) = false := by simp; omega
        have hxy4 : decide ((X : Int) < (Y : Int)) = false := by simp; omega
        have hxy5 : decide (X < Y) = false := by simp; omega
        clear e M
        by_cases hk0 : 1 ≤ k
        · have h6 : (c6 == 4) = true := by rw [HC6.out]; simp [hk0]
          have h7 : (1 : Int) < (k : Int) + 1 := by omega
          clear HC6
          go_wp2_with (first | (go_at_call 19; (with_reducible refine (bottom_is lb (k + 1) 0 U D _ hle2 ?_ EB.out).mono ?_); (first | exact L | exact L.drewN _); rintro e w' ⟨rfl, m, rfl⟩) | (go_at_call 20; (with_reducible refine (top_is lb (k + 1) k U D _ hle2 ?_ ET.out).mono ?_); (first | exact L | exact L.drewN _); rintro e w' ⟨rfl, m, rfl⟩) | (go_at_call 17; (with_reducible refine (join_is lb _ X Y X U D _ hle ?_ EJ.out).mono ?_); (first | exact L | exact L.drewN _); rintro e w' ⟨rfl, m, rfl⟩) | (go_at_call 18; (with_reducible refine (meet_is lb _ X Y Y U D _ hle ?_ EM.out).mono ?_); (first | exact L | exact L.drewN _); rintro e w' ⟨rfl, m, rfl⟩) | (go_at_call 16; (with_reducible refine (leq_is lb _ X Y U D false _ hle ?_ EL.out).mono ?_); (first | exact L | exact L.drewN _); rintro e w' ⟨rfl, m, rfl⟩))
          go_ret
          exact ⟨rfl, below_draws HBB.out _⟩
        · have h6 : (c6 == 4) = false := by rw [HC6.out]; simp; omega
          have h7 : decide ((1 : Int) < (k : Int) + 1) = false := by simp; omega
          clear HC6
          go_wp2_with (first | (go_at_call 19; (with_reducible refine (bottom_is lb (k + 1) 0 U D _ hle2 ?_ EB.out).mono ?_); (first | exact L | exact L.drewN _); rintro e w' ⟨rfl, m, rfl⟩) | (go_at_call 20; (with_reducible refine (top_is lb (k + 1) k U D _ hle2 ?_ ET.out).mono ?_); (first | exact L | exact L.drewN _); rintro e w' ⟨rfl, m, rfl⟩) | (go_at_call 17; (with_reducible refine (join_is lb _ X Y X U D _ hle ?_ EJ.out).mono ?_); (first | exact L | exact L.drewN _); rintro e w' ⟨rfl, m, rfl⟩) | (go_at_call 18; (with_reducible refine (meet_is lb _ X Y Y U D _ hle ?_ EM.out).mono ?_); (first | exact L | exact L.drewN _); rintro e w' ⟨rfl, m, rfl⟩) | (go_at_call 16; (with_reducible refine (leq_is lb _ X Y U D false _ hle ?_ EL.out).mono ?_); (first | exact L | exact L.drewN _); rintro e w' ⟨rfl, m, rfl⟩))
          go_ret
          exact ⟨rfl, below_draws HBB.out _⟩
end Go.Proofs.Ytgkbmdlbljjbfaa
