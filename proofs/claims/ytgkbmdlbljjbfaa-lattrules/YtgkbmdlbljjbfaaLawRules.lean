/-
  The walk of the law LattRules.
-/
import Derived.Test.YtgkbmdlbljjbfaaLaw1
namespace Go.Proofs.Ytgkbmdlbljjbfaa
open Go.RowKit

set_option maxRecDepth 100000 in
set_option maxHeartbeats 4000000 in
theorem lattRules_at (n a b c : Int) (sa : Option Addr) (cap : Nat) (ps : List (Int × Int)) (w : World) (n0 : 0 ≤ n) (n1 : n < 256) (a0 : 0 ≤ a) (a1 : a < 256) (b0 : 0 ≤ b) (b1 : b < 256) (c0 : 0 ≤ c) (c1 : c < 256)
    (hc : ps.length ≤ cap) (hm : cap ≤ maxLen) (hp : PairsAt w sa ps) :
    Calls Try.prog 4 #[.int .u8 n, .slice sa ps.length cap, .int .u8 a, .int .u8 b, .int .u8 c] w fun e w' => e = .returned (.bool true) ∧ Below w.heap.size w w' := by
  go_enter Try.func4, Try.ntmps4
  go_wp2_with fail
  refine (shown_at w).mono ?_
  rintro e w1 ⟨rfl, hb1⟩
  have hp1 := hp.below hb1
  have HB1 := Lib.hid hb1
  clear hb1 hp
  go_wp2_with fail
  refine (few_at sa cap ps w1 hc hm hp1).mono ?_
  rintro e w2 ⟨rfl, hp2, hl2, rfl⟩
  obtain ⟨qs, hqs⟩ : ∃ qs, qs = ps.take 100 := ⟨_, rfl⟩
  rw [← hqs] at hp2 hl2 ⊢
  clear hqs hp1
  go_wp2_with fail
  have hq : qs.length ≤ maxLen := by unfold maxLen; omega
  refine (new_at n sa cap qs w1 hq hp2).mono ?_
  rintro e w3 hpost
  obtain ⟨hb3, ⟨cc, h1, rfl⟩ | ⟨N, lb, U, D, rfl, hlb, rfl, M⟩⟩ := hpost.cases
  · have HB3 : Hid (Below w.heap.size w w3) := HB1.out.trans (hb3.mono HB1.out.size)
    clear hpost hb3 hp2 HB1
    rcases h1 with rfl | rfl
    · go_wp2
      go_ret
      exact ⟨rfl, HB3.out⟩
    · go_wp2
      go_ret
      exact ⟨rfl, HB3.out⟩
  · have HB3 : Hid (Below w.heap.size w w3) := HB1.out.trans (hb3.mono HB1.out.size)
    clear hpost hb3 hp2 HB1 hq
    have hN1 := M.lat.pos
    have hN2 := M.lat.le
    have L := M.at_
    have HM := Lib.hid M
    clear M
    go_wp2_with (go_at_call 15; (with_reducible refine (len_at lb N _ ?_).mono ?_); (exact L.len); rintro e w' ⟨rfl, m, rfl⟩)
    have M := HM.out
    obtain ⟨X, hX, hXN⟩ : ∃ X : Nat, a % (N : Int) = X ∧ X < N := ⟨(a % (N : Int)).toNat, by have := Int.emod_nonneg a (show (N : Int) ≠ 0 by omega); omega, by have := Int.emod_nonneg a (show (N : Int) ≠ 0 by omega); have := Int.emod_lt_of_pos a (show (0 : Int) < N by omega); omega⟩
    obtain ⟨Y, hY, hYN⟩ : ∃ Y : Nat, b % (N : Int) = Y ∧ Y < N := ⟨(b % (N : Int)).toNat, by have := Int.emod_nonneg b (show (N : Int) ≠ 0 by omega); omega, by have := Int.emod_nonneg b (show (N : Int) ≠ 0 by omega); have := Int.emod_lt_of_pos b (show (0 : Int) < N by omega); omega⟩
    obtain ⟨Z, hZ, hZN⟩ : ∃ Z : Nat, c % (N : Int) = Z ∧ Z < N := ⟨(c % (N : Int)).toNat, by have := Int.emod_nonneg c (show (N : Int) ≠ 0 by omega); omega, by have := Int.emod_nonneg c (show (N : Int) ≠ 0 by omega); have := Int.emod_lt_of_pos c (show (0 : Int) < N by omega); omega⟩
    rw [hX, hY, hZ]
    clear hX hY hZ
    have hle : (N : Int) ≤ 16 := by omega
    obtain ⟨p, hp⟩ := M.lat.lub X Y hXN hYN
    obtain ⟨q, hq⟩ := M.lat.glb X Y hXN hYN
    obtain ⟨r, hr⟩ := M.lat.lub p Z hp.1 hZN
    obtain ⟨s, hs⟩ := M.lat.lub Y Z hYN hZN
    obtain ⟨t, ht⟩ := M.lat.glb q Z hq.1 hZN
    obtain ⟨u, hu⟩ := M.lat.glb Y Z hYN hZN
    have Jxy := Lib.hid (M.join hXN hYN hp)
    have Jyx := Lib.hid (M.join hYN hXN (Lub.swap hp))
    have Jxx := Lib.hid (M.join hXN hXN ⟨hXN, M.lat.refl X hXN, M.lat.refl X hXN, fun d _ h _ => h⟩)
    have Jpz := Lib.hid (M.join hp.1 hZN hr)
    have Jyz := Lib.hid (M.join hYN hZN hs)
    have Jxs := Lib.hid (M.join hXN hs.1 (lub_assoc M.lat hXN hYN hZN hp hr hs))
    have Jxq := Lib.hid (M.join hXN hq.1 (lub_absorb M.lat hXN hq))
    have Mxy := Lib.hid (M.meet hXN hYN hq)
    have Myx := Lib.hid (M.meet hYN hXN (Glb.swap hq))
    have Mxx := Lib.hid (M.meet hXN hXN ⟨hXN, M.lat.refl X hXN, M.lat.refl X hXN, fun d _ h _ => h⟩)
    have Mqz := Lib.hid (M.meet hq.1 hZN ht)
    have Myz := Lib.hid (M.meet hYN hZN hu)
    have Mxu := Lib.hid (M.meet hXN hu.1 (glb_assoc M.lat hXN hYN hZN hq ht hu))
    have Mxp := Lib.hid (M.meet hXN hp.1 (glb_absorb M.lat hXN hp))
    have hpy : p = Y ↔ U X Y = true := lub_iff M.lat hYN hp
    have hqx : q = X ↔ U X Y = true := glb_iff M.lat hXN hq
    have Lxy : Hid (leqB N U X Y = U X Y) := M.leq hXN hYN
    clear hp hq hr hs ht hu M HM
    cases hxy : U X Y
    · rw [hxy] at Lxy hpy hqx
      have p1 : (p == Y) = false := by simp; simp at hpy; exact hpy
      have p2 : ((p : Int) == (Y : Int)) = false := by simp; simp at hpy; omega
      have q1 : (q == X) = false := by simp; simp at hqx; exact hqx
      have q2 : ((q : Int) == (X : Int)) = false := by simp; simp at hqx; omega
      clear hxy hpy hqx
      go_wp2_with (first | (go_at_call 17; (with_reducible refine (join_is lb N X Y p U D _ hle ?_ Jxy.out).mono ?_); (first | exact L | exact L.drewN _); rintro e w' ⟨rfl, m, rfl⟩) | (go_at_call 17; (with_reducible refine (join_is lb N Y X p U D _ hle ?_ Jyx.out).mono ?_); (first | exact L | exact L.drewN _); rintro e w' ⟨rfl, m, rfl⟩) | (go_at_call 17; (with_reducible refine (join_is lb N X X X U D _ hle ?_ Jxx.out).mono ?_); (first | exact L | exact L.drewN _); rintro e w' ⟨rfl, m, rfl⟩) | (go_at_call 17; (with_reducible refine (join_is lb N p Z r U D _ hle ?_ Jpz.out).mono ?_); (first | exact L | exact L.drewN _); rintro e w' ⟨rfl, m, rfl⟩) | (go_at_call 17; (with_reducible refine (join_is lb N Y Z s U D _ hle ?_ Jyz.out).mono ?_); (first | exact L | exact L.drewN _); rintro e w' ⟨rfl, m, rfl⟩) | (go_at_call 17; (with_reducible refine (join_is lb N X s r U D _ hle ?_ Jxs.out).mono ?_); (first | exact L | exact L.drewN _); rintro e w' ⟨rfl, m, rfl⟩) | (go_at_call 17; (with_reducible refine (join_is lb N X q X U D _ hle ?_ Jxq.out).mono ?_); (first | exact L | exact L.drewN _); rintro e w' ⟨rfl, m, rfl⟩) | (go_at_call 18; (with_reducible refine (meet_is lb N X Y q U D _ hle ?_ Mxy.out).mono ?_); (first | exact L | exact L.drewN _); rintro e w' ⟨rfl, m, rfl⟩) | (go_at_call 18; (with_reducible refine (meet_is lb N Y X q U D _ hle ?_ Myx.out).mono ?_); (first | exact L | exact L.drewN _); rintro e w' ⟨rfl, m, rfl⟩) | (go_at_call 18; (with_reducible refine (meet_is lb N X X X U D _ hle ?_ Mxx.out).mono ?_); (first | exact L | exact L.drewN _); rintro e w' ⟨rfl, m, rfl⟩) | (go_at_call 18; (with_reducible refine (meet_is lb N q Z t U D _ hle ?_ Mqz.out).mono ?_); (first | exact L | exact L.drewN _); rintro e w' ⟨rfl, m, rfl⟩) | (go_at_call 18; (with_reducible refine (meet_is lb N Y Z u U D _ hle ?_ Myz.out).mono ?_); (first | exact L | exact L.drewN _); rintro e w' ⟨rfl, m, rfl⟩) | (go_at_call 18; (with_reducible refine (meet_is lb N X u t U D _ hle ?_ Mxu.out).mono ?_); (first | exact L | exact L.drewN _); rintro e w' ⟨rfl, m, rfl⟩) | (go_at_call 18; (with_reducible refine (meet_is lb N X p X U D _ hle ?_ Mxp.out).mono ?_); (first | exact L | exact L.drewN _); rintro e w' ⟨rfl, m, rfl⟩) | (go_at_call 16; (with_reducible refine (leq_is lb N X Y U D false _ hle ?_ Lxy.out).mono ?_); (first | exact L | exact L.drewN _); rintro e w' ⟨rfl, m, rfl⟩))
      go_ret
      exact ⟨rfl, below_draws HB3.out _⟩
    · rw [hxy] at Lxy hpy hqx
      obtain rfl : p = Y := hpy.2 rfl
      obtain rfl : q = X := hqx.2 rfl
      obtain rfl : r = s := by have := Jpz.out.symm.trans Jyz.out; omega
      clear hxy hpy hqx Jyz
      go_wp2_with (first | (go_at_call 17; (with_reducible refine (join_is lb N q p p U D _ hle ?_ Jxy.out).mono ?_); (first | exact L | exact L.drewN _); rintro e w' ⟨rfl, m, rfl⟩) | (go_at_call 17; (with_reducible refine (join_is lb N p q p U D _ hle ?_ Jyx.out).mono ?_); (first | exact L | exact L.drewN _); rintro e w' ⟨rfl, m, rfl⟩) | (go_at_call 17; (with_reducible refine (join_is lb N q q q U D _ hle ?_ Jxx.out).mono ?_); (first | exact L | exact L.drewN _); rintro e w' ⟨rfl, m, rfl⟩) | (go_at_call 17; (with_reducible refine (join_is lb N p Z r U D _ hle ?_ Jpz.out).mono ?_); (first | exact L | exact L.drewN _); rintro e w' ⟨rfl, m, rfl⟩) | (go_at_call 17; (with_reducible refine (join_is lb N q r r U D _ hle ?_ Jxs.out).mono ?_); (first | exact L | exact L.drewN _); rintro e w' ⟨rfl, m, rfl⟩) | (go_at_call 18; (with_reducible refine (meet_is lb N q p q U D _ hle ?_ Mxy.out).mono ?_); (first | exact L | exact L.drewN _); rintro e w' ⟨rfl, m, rfl⟩) | (go_at_call 18; (with_reducible refine (meet_is lb N p q q U D _ hle ?_ Myx.out).mono ?_); (first | exact L | exact L.drewN _); rintro e w' ⟨rfl, m, rfl⟩) | (go_at_call 18; (with_reducible refine (meet_is lb N q q q U D _ hle ?_ Mxx.out).mono ?_); (first | exact L | exact L.drewN _); rintro e w' ⟨rfl, m, rfl⟩) | (go_at_call 18; (with_reducible refine (meet_is lb N q Z t U D _ hle ?_ Mqz.out).mono ?_); (first | exact L | exact L.drewN _); rintro e w' ⟨rfl, m, rfl⟩) | (go_at_call 18; (with_reducible refine (meet_is lb N p Z u U D _ hle ?_ Myz.out).mono ?_); (first | exact L | exact L.drewN _); rintro e w' ⟨rfl, m, rfl⟩) | (go_at_call 18; (with_reducible refine (meet_is lb N q u t U D _ hle ?_ Mxu.out).mono ?_); (first | exact L | exact L.drewN _); rintro e w' ⟨rfl, m, rfl⟩) | (go_at_call 16; (with_reducible refine (leq_is lb N q p U D true _ hle ?_ Lxy.out).mono ?_); (first | exact L | exact L.drewN _); rintro e w' ⟨rfl, m, rfl⟩))
      go_ret
      exact ⟨rfl, below_draws HB3.out _⟩
end Go.Proofs.Ytgkbmdlbljjbfaa
