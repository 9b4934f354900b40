/-
  Levels one below the next one: their pairs, the table that they make; torcherelaw04.chain.
-/
import Derived.Test.YtcicggpcmmnohaaOwn
import Derived.Test.YtcicggpcmmnohaaLv
namespace Go.Proofs.Ytcicggpcmmnohaa
open Go.RowKit

def chain : Nat → List (Int × Int)
  | 0 => []
  | j + 1 => chain j ++ [((j : Int), (j : Int) + 1)]

theorem chain_length : ∀ j, (chain j).length = j
  | 0 => rfl
  | j + 1 => by simp [chain, chain_length j]
theorem tab_chain (a b : Nat) : ∀ j, tab (chain j) a b = true ↔ a < j ∧ b = a + 1
  | 0 => by simp [chain, tab]
  | j + 1 => by
    have := tab_chain a b j
    simp only [tab] at this
    simp only [chain, tab, List.any_append, Bool.or_eq_true, this]
    simp
    omega
theorem good_chain (n : Nat) : ∀ j, j < n → goodB n (chain j) = true
  | 0, _ => rfl
  | j + 1, h => by
    have := good_chain n j (by omega)
    simp only [goodB] at this
    simp only [chain, goodB, List.all_append, this]
    simp [hasB]; omega

theorem chain_star (n j : Nat) (ps : List (Int × Int)) (hj : j < n) (hps : ∀ a b, a < j → b = a + 1 → tab ps a b = true) : ∀ d a, a + d ≤ j → Star (Rel n (tab ps)) a (a + d)
  | 0, a, _ => .refl a
  | d + 1, a, h => by
    have := chain_star n j ps hj hps d (a + 1) (by omega)
    rw [show a + 1 + d = a + (d + 1) by omega] at this
    exact .head ⟨by omega, by omega, hps a (a + 1) (by omega) rfl⟩ this

theorem chain_iff {k : Nat} {U D : Nat → Nat → Bool} (h : IsTab (k + 1) (chain k) U D) (a b : Nat) (ha : a < k + 1) (hb : b < k + 1) : U a b = true ↔ a ≤ b := by
  refine h.eq (fun a b => a ≤ b) (fun a _ => Nat.le_refl a) (fun a _ b _ c _ h1 h2 => Nat.le_trans h1 h2) (fun a _ b _ h => by rw [tab_chain] at h; omega) (fun a b ha hb h => ?_) a b ha hb
  have := chain_star (k + 1) k (chain k) (by omega) (fun a b h1 h2 => (tab_chain a b k).2 ⟨h1, h2⟩) (b - a) a (by omega)
  rw [show a + (b - a) = b by omega] at this
  exact this

theorem chain_lat {k : Nat} (hk : k < 16) {U D : Nat → Nat → Bool} (h : IsTab (k + 1) (chain k) U D) : IsLat (k + 1) U := by
  have e := chain_iff h
  refine ⟨by omega, by omega, h.within, h.refl, fun a b c ha hb hc h1 h2 => h.trans a b ha hb h1 c (by omega) h2, fun a b ha hb h1 h2 => ?_, fun a b ha hb => ?_, fun a b ha hb => ?_⟩
  · rw [e a b ha hb] at h1; rw [e b a hb ha] at h2; omega
  · by_cases c : a ≤ b
    · exact ⟨b, hb, (e a b ha hb).2 c, h.refl b hb, fun d hd _ h4 => h4⟩
    · exact ⟨a, ha, h.refl a ha, (e b a hb ha).2 (by omega), fun d hd h3 _ => h3⟩
  · by_cases c : a ≤ b
    · exact ⟨a, ha, h.refl a ha, (e a b ha hb).2 c, fun d hd h3 _ => h3⟩
    · exact ⟨b, hb, (e b a hb ha).2 (by omega), h.refl b hb, fun d hd _ h4 => h4⟩

theorem chain_made {w : World} {k b : Nat} {U D : Nat → Nat → Bool} (hk : k < 16) (M : Made w (k + 1) (chain k) b U D) : ChainAt w b (k + 1) := by
  have e := chain_iff M.tab
  have L := M.lat
  refine ⟨M.lt, by omega, by omega, U, D, M.at_, fun x y hx hy => ?_, fun x y hx hy => ?_, fun x y hx hy => ?_, ?_, ?_⟩
  · rw [leqB_in hx hy, Bool.eq_iff_iff, decide_eq_true_iff]; exact e x y hx hy
  · refine M.join hx hy ⟨by omega, (e x _ hx (by omega)).2 (by omega), (e y _ hy (by omega)).2 (by omega), fun d hd h1 h2 => ?_⟩
    rw [e x d hx hd] at h1
    rw [e y d hy hd] at h2
    exact (e _ d (by omega) hd).2 (by omega)
  · refine M.meet hx hy ⟨by omega, (e _ x (by omega) hx).2 (by omega), (e _ y (by omega) hy).2 (by omega), fun d hd h1 h2 => ?_⟩
    rw [e d x hd hx] at h1
    rw [e d y hd hy] at h2
    exact (e d _ hd (by omega)).2 (by omega)
  · exact bottom_eq L (c := 0) (by omega) fun i hi => (e 0 i (by omega) hi).2 (by omega)
  · exact top_eq L M.tab.down (c := k + 1 - 1) (by omega) fun i hi => (e i _ hi (by omega)).2 (by omega)

end Go.Proofs.Ytcicggpcmmnohaa
