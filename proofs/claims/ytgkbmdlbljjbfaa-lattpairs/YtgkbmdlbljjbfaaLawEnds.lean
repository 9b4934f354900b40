/-
  The law LattEnds: its mathematics and its walk.
-/
import Derived.Test.YtgkbmdlbljjbfaaOwn
namespace Go.Proofs.Ytgkbmdlbljjbfaa
open Go.RowKit

theorem Star.mono {R S : Nat → Nat → Prop} (h : ∀ x y, R x y → S x y) {a b : Nat} (k : Star R a b) : Star S a b := by
  induction k with
  | refl a => exact .refl a
  | head r _ ih => exact .head (h _ _ r) ih

theorem goodB_tab {n : Nat} {ps : List (Int × Int)} (h : goodB n ps = true) (a i : Nat) (hi : tab ps a i = true) : a < n ∧ i < n := by
  unfold tab at hi
  obtain ⟨p, hp, hq⟩ := List.any_eq_true.1 hi
  unfold goodB at h
  have := List.all_eq_true.1 h p hp
  simp [hasB] at this hq
  omega
theorem goodB_mono {n m : Nat} {ps : List (Int × Int)} (h : goodB n ps = true) (hm : n ≤ m) : goodB m ps = true := by
  unfold goodB at *
  rw [List.all_eq_true] at *
  intro p hp
  have := h p hp
  simp [hasB] at *
  omega

/-- A level more, above all. -/
def oneMore (N : Nat) (U : Nat → Nat → Bool) (a b : Nat) : Prop := (a < N ∧ b < N ∧ U a b = true) ∨ b = N

theorem ends_iff {N to : Nat} {qs : List (Int × Int)} {U D U' D' : Nat → Nat → Bool} (ht : IsTab N qs U D) (hl : IsLat N U) (hg : goodB N qs = true) (hto : to < N) (htop : ∀ i, i < N → U i to = true)
    (h : IsTab (N + 1) (qs ++ [((to : Int), (N : Int))]) U' D') (a b : Nat) (ha : a < N + 1) (hb : b < N + 1) : U' a b = true ↔ oneMore N U a b := by
  have hle := ht.le
  have et : ∀ a b, tab (qs ++ [((to : Int), (N : Int))]) a b = true ↔ tab qs a b = true ∨ (a = to ∧ b = N) := fun a b => by
    have e : tab [((to : Int), (N : Int))] a b = true ↔ a = to ∧ b = N := by simp [tab]; omega
    rw [← e]; simp [tab]
  refine h.eq (oneMore N U) (fun a ha => ?_) (fun a ha b hb c hc h1 h2 => ?_) (fun a ha b hb h => ?_) (fun a b ha hb h => ?_) a b ha hb
  · by_cases e : a = N
    · exact Or.inr e
    · exact Or.inl ⟨by omega, by omega, ht.refl a (by omega)⟩
  · unfold oneMore at *
    rcases h2 with ⟨h3, h4, h5⟩ | h3
    · rcases h1 with ⟨h6, _, h8⟩ | h6
      · exact Or.inl ⟨h6, h4, hl.trans a b c h6 h3 h4 h8 h5⟩
      · omega
    · exact Or.inr h3
  · rw [et] at h
    rcases h with h | h
    · obtain ⟨h1, h2⟩ := goodB_tab hg a b h
      exact Or.inl ⟨h1, h2, ht.inv.ext a b h1 (by omega) h⟩
    · exact Or.inr h.2
  · have up : ∀ x y, x < N → y < N → U x y = true → Star (Rel (N + 1) (tab (qs ++ [((to : Int), (N : Int))]))) x y := fun x y hx hy hu =>
      (ht.inv.star x y hx (by omega) hu).mono fun x y r => ⟨by have := r.1; omega, by have := r.2.1; omega, (et x y).2 (Or.inl r.2.2)⟩
    rcases h with ⟨h1, h2, h3⟩ | h1
    · exact up a b h1 h2 h3
    · by_cases e : a = N
      · rw [e, h1]; exact .refl _
      · refine (up a to (by omega) hto (htop a (by omega))).trans (.one ⟨by omega, by omega, (et to b).2 (Or.inr ⟨rfl, h1⟩)⟩)

theorem ends_lat {N to : Nat} {qs : List (Int × Int)} {U D U' D' : Nat → Nat → Bool} (ht : IsTab N qs U D) (hl : IsLat N U) (hg : goodB N qs = true) (hto : to < N) (htop : ∀ i, i < N → U i to = true) (h16 : N + 1 ≤ 16)
    (h : IsTab (N + 1) (qs ++ [((to : Int), (N : Int))]) U' D') : IsLat (N + 1) U' := by
  have e := ends_iff ht hl hg hto htop h
  refine ⟨by omega, h16, h.within, h.refl, fun a b c ha hb hc h1 h2 => h.trans a b ha hb h1 c (by omega) h2, fun a b ha hb h1 h2 => ?_, fun a b ha hb => ?_, fun a b ha hb => ?_⟩
  · rw [e a b ha hb] at h1; rw [e b a hb ha] at h2; unfold oneMore at *
    rcases h1 with ⟨h3, h4, h5⟩ | h3
    · rcases h2 with ⟨_, _, h6⟩ | h6
      · exact hl.antisymm a b h3 h4 h5 h6
      · omega
    · rcases h2 with ⟨_, _, h6⟩ | h6
      · omega
      · omega
  · by_cases c1 : a = N ∨ b = N
    · refine ⟨N, by omega, (e a N ha (by omega)).2 (Or.inr rfl), (e b N hb (by omega)).2 (Or.inr rfl), fun d hd h3 h4 => ?_⟩
      rw [e a d ha hd] at h3; rw [e b d hb hd] at h4; rw [e N d (by omega) hd]; unfold oneMore at *; omega
    · obtain ⟨c, hc, h1, h2, h3⟩ := hl.lub a b (by omega) (by omega)
      refine ⟨c, by omega, (e a c ha (by omega)).2 (Or.inl ⟨by omega, hc, h1⟩), (e b c hb (by omega)).2 (Or.inl ⟨by omega, hc, h2⟩), fun d hd h4 h5 => ?_⟩
      rw [e a d ha hd] at h4; rw [e b d hb hd] at h5; rw [e c d (by omega) hd]; unfold oneMore at *
      rcases h4 with ⟨h6, h7, h8⟩ | h6
      · rcases h5 with ⟨_, _, h9⟩ | h9
        · exact Or.inl ⟨hc, h7, h3 d h7 h8 h9⟩
        · exact Or.inr h9
      · exact Or.inr h6
  · by_cases c1 : a = N
    · exact ⟨b, hb, by rw [c1, e b N hb (by omega)]; exact Or.inr rfl, h.refl b hb, fun d hd _ h4 => h4⟩
    · by_cases c2 : b = N
      · exact ⟨a, ha, h.refl a ha, by rw [c2, e a N ha (by omega)]; exact Or.inr rfl, fun d hd h3 _ => h3⟩
      · obtain ⟨c, hc, h1, h2, h3⟩ := hl.glb a b (by omega) (by omega)
        refine ⟨c, by omega, (e c a (by omega) ha).2 (Or.inl ⟨hc, by omega, h1⟩), (e c b (by omega) hb).2 (Or.inl ⟨hc, by omega, h2⟩), fun d hd h4 h5 => ?_⟩
        rw [e d a hd ha] at h4; rw [e d b hd hb] at h5; rw [e d c hd (by omega)]; unfold oneMore at *
        rcases h4 with ⟨h6, h7, h8⟩ | h6
        · rcases h5 with ⟨_, _, h9⟩ | h9
          · exact Or.inl ⟨h6, hc, h3 d h6 h8 h9⟩
          · omega
        · omega

set_option maxRecDepth 100000 in
set_option maxHeartbeats 1000000 in
theorem lattEnds_at (n a : Int) (sa : Option Addr) (cap : Nat) (ps : List (Int × Int)) (w : World) (n0 : 0 ≤ n) (n1 : n < 256) (a0 : 0 ≤ a) (a1 : a < 256)
    (hc : ps.length ≤ cap) (hm : cap ≤ maxLen) (hz : sa = none → cap = 0) (hp : PairsAt w sa ps) :
    Calls Try.prog 6 #[.int .u8 n, .slice sa ps.length cap, .int .u8 a] w fun e w' => e = .returned (.bool true) ∧ Below w.heap.size w w' := by
  go_enter Try.func6, Try.ntmps6
  go_wp2_with fail
  refine (shown_at w).mono ?_
  rintro e w1 ⟨rfl, hb1⟩
  have hp1 := hp.below hb1
  have HB1 := Lib.hid hb1
  clear hb1 hp
  go_wp2_with fail
  refine (few_at sa cap ps w1 hc hm hp1).mono ?_
  rintro e w2 ⟨rfl, hp2, hl2, rfl⟩
  obtain ⟨qs, hqs⟩ : ∃ qs, qs = ps.take 100 := ⟨_, rfl⟩
  rw [← hqs] at hp2 hl2 ⊢
  clear hqs hp1
  go_wp2_with fail
  have hq : qs.length ≤ maxLen := by unfold maxLen; omega
  refine (new_at n sa cap qs w1 hq hp2).mono ?_
  rintro e w3 hpost
  obtain ⟨hb3, ⟨cc, h1, rfl⟩ | ⟨N, lb, U, D, rfl, hlb, rfl, M⟩⟩ := hpost.cases
  · have HB3 : Hid (Below w.heap.size w w3) := HB1.out.trans (hb3.mono HB1.out.size)
    clear hpost hb3 hp2 HB1
    rcases h1 with rfl | rfl
    · go_wp2
      go_ret
      exact ⟨rfl, HB3.out⟩
    · go_wp2
      go_ret
      exact ⟨rfl, HB3.out⟩
  · have HB3 : Hid (Below w.heap.size w w3) := HB1.out.trans (hb3.mono HB1.out.size)
    have hp3 := hp2.below hb3
    clear hpost hb3 hp2 HB1 hq
    have hN1 := M.lat.pos
    have hN2 := M.lat.le
    have L := M.at_
    have HM := Lib.hid M
    go_wp2_with (go_at_call 15; (with_reducible refine (len_at lb N _ ?_).mono ?_); (exact L.len); rintro e w' ⟨rfl, m, rfl⟩)
    obtain ⟨X, hX, hXN⟩ := mod_level a N hN1
    rw [hX]
    clear hX
    have hle : (N : Int) ≤ 16 := by omega
    obtain ⟨bo, hbo, hbot⟩ := M.lat.low N (Nat.le_refl _)
    obtain ⟨to, hto, htop⟩ := M.lat.high N (Nat.le_refl _)
    have EB := Lib.hid (bottom_eq M.lat hbo hbot)
    have ET := Lib.hid (top_eq M.lat M.tab.down hto htop)
    have Jxb := Lib.hid (M.join hXN hbo ⟨hXN, M.lat.refl X hXN, hbot X hXN, fun d _ h _ => h⟩)
    have Mxt := Lib.hid (M.meet hXN hto ⟨hXN, M.lat.refl X hXN, htop X hXN, fun d _ h _ => h⟩)
    have Lbx : Hid (leqB N U bo X = true) := by show _ = true; rw [M.leq hbo hXN]; exact hbot X hXN
    have Lxt : Hid (leqB N U X to = true) := by show _ = true; rw [M.leq hXN hto]; exact htop X hXN
    have HBO := Lib.hid hbot
    have HTO := Lib.hid htop
    clear hbot htop M
    have HZ := Lib.hid hz
    have HP3 := Lib.hid hp3
    clear hz hp3 hc hm
    go_wp2_with (first | (go_at_call 17; (with_reducible refine (join_is lb N X bo X U D _ hle ?_ Jxb.out).mono ?_); (first | exact L | exact L.drewN _); rintro e w' ⟨rfl, m, rfl⟩) | (go_at_call 18; (with_reducible refine (meet_is lb N X to X U D _ hle ?_ Mxt.out).mono ?_); (first | exact L | exact L.drewN _); rintro e w' ⟨rfl, m, rfl⟩) | (go_at_call 16; (with_reducible refine (leq_is lb N bo X U D true _ hle ?_ Lbx.out).mono ?_); (first | exact L | exact L.drewN _); rintro e w' ⟨rfl, m, rfl⟩) | (go_at_call 16; (with_reducible refine (leq_is lb N X to U D true _ hle ?_ Lxt.out).mono ?_); (first | exact L | exact L.drewN _); rintro e w' ⟨rfl, m, rfl⟩) | (go_at_call 19; (with_reducible refine (bottom_is lb N bo U D _ hN2 ?_ EB.out).mono ?_); (first | exact L | exact L.drewN _); rintro e w' ⟨rfl, m, rfl⟩) | (go_at_call 20; (with_reducible refine (top_is lb N to U D _ hN2 ?_ ET.out).mono ?_); (first | exact L | exact L.drewN _); rintro e w' ⟨rfl, m, rfl⟩) | (go_at_call 15; (with_reducible refine (len_at lb N _ ?_).mono ?_); (exact L.len); rintro e w' ⟨rfl, m, rfl⟩) | (at_builtin; refine wpList_append_pairs rfl (.tmp 76) (.tmp 77) rfl w3.heap.size _ [] rfl ?d0 sa cap qs _ rfl rfl ?d1 HZ.out ?d2 ?d3 ?_))
    case d0 => exact OwnPairs.empty w3 w3.heap.size (Nat.le_refl _)
    case d1 => exact HP3.out.below (below_draws ((Below.refl _ _).alloc (Nat.le_refl _) _) _)
    case d2 => simp; omega
    case d3 => simp
    intro v4 w4 hown4 hg4
    have hb4 : Below w3.heap.size w3 w4 := (below_draws ((Below.refl _ _).alloc (Nat.le_refl _) _) _).grown hg4 (by simp) (fun q hq => by simp [Value.ownBlock] at hq; omega)
    have HB4 := Lib.hid hb4
    have HO4 := Lib.hid hown4
    have M4 := HM.out.later hb4
    have L := M4.at_
    clear hg4 HP3 hb4 hown4 M4
    go_wp2_with (first | (go_at_call 20; (with_reducible refine (top_is lb N to U D _ hN2 ?_ ET.out).mono ?_); (first | exact L | exact L.drewN _); rintro e w' ⟨rfl, m, rfl⟩) | (go_at_call 15; (with_reducible refine (len_at lb N _ ?_).mono ?_); (exact L.len); rintro e w' ⟨rfl, m, rfl⟩) | (at_builtin; refine wpList_append_pairs rfl (.tmp 78) (.tmp 84) rfl w3.heap.size _ qs rfl ?e0 (some ⟨w4.heap.size, 0, none⟩) 1 [((to : Int), (N : Int))] 1 rfl rfl ?e1 ?e2 ?e3 ?e4 ?_))
    case e0 => exact HO4.out.alloc _
    case e1 => exact PairsAt.lit1 w4 _ _
    case e2 => intro h; cases h
    case e3 => simp; omega
    case e4 => have := HB4.out.size; simp; omega
    intro v5 w5 hown5 hg5
    have hb5 : Below w3.heap.size w3 w5 := (below_draws (HB4.out.alloc HB4.out.size _) _).grown hg5 (by simp; have := HB4.out.size; omega) (OwnPairs.lt HO4.out)
    obtain ⟨rs, hrs⟩ : ∃ rs, rs = qs ++ [((to : Int), (N : Int))] := ⟨_, rfl⟩
    rw [← hrs] at hown5
    have HRS := Lib.hid hrs
    have hl5 : rs.length ≤ maxLen := by rw [hrs, List.length_append]; unfold maxLen; simp; omega
    obtain ⟨sa5, cap5, rfl, _, _, _, hp5⟩ := hown5.pairs
    have HB5 := Lib.hid hb5
    clear hg5 HO4 hown5 HB4 hb5 hrs L
    go_wp2_with fail
    with_reducible refine (new_at ((N : Int) + 1) sa5 cap5 rs w5 hl5 hp5).mono ?_
    rintro e w6 hpost
    have hb6 := hpost.1
    have M := (HM.out.later HB5.out).later hb6
    have L := M.at_
    have HBB : Hid (Below w.heap.size w w6) := (HB3.out.trans (HB5.out.mono HB3.out.size)).trans (hb6.mono (HB3.out.trans (HB5.out.mono HB3.out.size)).size)
    clear hp5 hl5 HB5 HB3 HM
    by_cases h16 : N = 16
    · obtain ⟨_, rfl⟩ := NewPost.arg hpost (by simp [okArgs]; omega)
      have h16a : ((N : Int) == 16) = true := by rw [h16]; rfl
      have h16b : (N == 16) = true := by rw [h16]; rfl
      clear hpost hb6 M h16
      go_wp2_with (go_at_call 15; (with_reducible refine (len_at lb N _ ?_).mono ?_); (exact L.len); rintro e w' ⟨rfl, m, rfl⟩)
      go_ret
      exact ⟨rfl, below_draws HBB.out _⟩
    · have hpost : NewPost w5 ((N + 1 : Nat) : Int) (qs ++ [((to : Int), (N : Int))]) e w6 := by rw [← HRS.out]; exact hpost
      have h15 : N + 1 ≤ 16 := by omega
      obtain ⟨_, lb2, U2, D2, _, rfl, M2⟩ := NewPost.ok hpost (by
        have := goodB_mono M.good (Nat.le_succ N)
        simp only [goodB] at this
        simp only [okArgs, goodB, List.all_append, this]; simp [hasB]; omega) (fun U' D' h => ends_lat M.tab M.lat M.good hto HTO.out h15 h)
      have e := ends_iff M.tab M.lat M.good hto HTO.out M2.tab
      have ET2 : Hid (cover D2 (below (N + 1)) = (N : Int)) := top_eq M2.lat M2.tab.down (c := N) (by omega) (fun i hi => (e i N hi (by omega)).2 (Or.inr rfl))
      have EB2 : Hid (cover U2 (below (N + 1)) = (bo : Int)) := bottom_eq M2.lat (c := bo) (by omega) (fun i hi => (e bo i (by omega) hi).2 (by
        by_cases c : i = N
        · exact Or.inr c
        · exact Or.inl ⟨hbo, by omega, HBO.out i (by omega)⟩))
      have EL2 : Hid (leqB ((N + 1 : Nat) : Int) U2 X N = true) := by show _ = true; rw [M2.leq (by omega) (by omega)]; exact (e X N (by omega) (by omega)).2 (Or.inr rfl)
      have L7 := M2.at_
      have hle3 : N + 1 ≤ 16 := h15
      have hle4 : ((N + 1 : Nat) : Int) ≤ 16 := by omega
      have h16a : ((N : Int) == 16) = false := by simp; omega
      have h16b : (N == 16) = false := by simp; omega
      clear hpost hb6 M M2 e HRS HBO HTO
      go_wp2_with (first | (go_at_call 20; (with_reducible refine (top_is lb2 (N + 1) N U2 D2 _ hle3 ?_ ET2.out).mono ?_); (first | exact L7 | exact L7.drewN _); rintro e w' ⟨rfl, m, rfl⟩) | (go_at_call 15; (with_reducible refine (len_at lb N _ ?_).mono ?_); (exact L.len); rintro e w' ⟨rfl, m, rfl⟩) | (go_at_call 19; (with_reducible refine (bottom_is lb2 (N + 1) bo U2 D2 _ hle3 ?_ EB2.out).mono ?_); (first | exact L7 | exact L7.drewN _); rintro e w' ⟨rfl, m, rfl⟩) | (go_at_call 19; (with_reducible refine (bottom_is lb N bo U D _ hN2 ?_ EB.out).mono ?_); (first | exact L | exact L.drewN _); rintro e w' ⟨rfl, m, rfl⟩) | (go_at_call 16; (with_reducible refine (leq_is lb2 _ X N U2 D2 true _ hle4 ?_ EL2.out).mono ?_); (first | exact L7 | exact L7.drewN _); rintro e w' ⟨rfl, m, rfl⟩))
      go_ret
      exact ⟨rfl, below_draws HBB.out _⟩
end Go.Proofs.Ytgkbmdlbljjbfaa
