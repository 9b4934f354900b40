/-
  The walk of the law LattGrows.
-/
import Derived.Test.YtgkbmdlbljjbfaaLaw1
namespace Go.Proofs.Ytgkbmdlbljjbfaa
open Go.RowKit

set_option maxRecDepth 100000 in
set_option maxHeartbeats 4000000 in
theorem lattGrows_at (n a b c : Int) (sa : Option Addr) (cap : Nat) (ps : List (Int × Int)) (w : World) (n0 : 0 ≤ n) (n1 : n < 256) (a0 : 0 ≤ a) (a1 : a < 256) (b0 : 0 ≤ b) (b1 : b < 256) (c0 : 0 ≤ c) (c1 : c < 256)
    (hc : ps.length ≤ cap) (hm : cap ≤ maxLen) (hp : PairsAt w sa ps) :
    Calls Try.prog 10 #[.int .u8 n, .slice sa ps.length cap, .int .u8 a, .int .u8 b, .int .u8 c] w fun e w' => e = .returned (.bool true) ∧ Below w.heap.size w w' := by
  go_enter Try.func10, Try.ntmps10
  go_wp2_with fail
  refine (shown_at w).mono ?_
  rintro e w1 ⟨rfl, hb1⟩
  have hp1 := hp.below hb1
  have HB1 := Lib.hid hb1
  clear hb1 hp
  go_wp2_with fail
  refine (few_at sa cap ps w1 hc hm hp1).mono ?_
  rintro e w2 ⟨rfl, hp2, hl2, rfl⟩
  obtain ⟨qs, hqs⟩ : ∃ qs, qs = ps.take 100 := ⟨_, rfl⟩
  rw [← hqs] at hp2 hl2 ⊢
  clear hqs hp1
  go_wp2_with fail
  have hq : qs.length ≤ maxLen := by unfold maxLen; omega
  refine (new_at n sa cap qs w1 hq hp2).mono ?_
  rintro e w3 hpost
  obtain ⟨hb3, ⟨cc, h1, rfl⟩ | ⟨N, lb, U, D, rfl, hlb, rfl, M⟩⟩ := hpost.cases
  · have HB3 : Hid (Below w.heap.size w w3) := HB1.out.trans (hb3.mono HB1.out.size)
    clear hpost hb3 hp2 HB1
    rcases h1 with rfl | rfl
    · go_wp2
      go_ret
      exact ⟨rfl, HB3.out⟩
    · go_wp2
      go_ret
      exact ⟨rfl, HB3.out⟩
  · have HB3 : Hid (Below w.heap.size w w3) := HB1.out.trans (hb3.mono HB1.out.size)
    clear hpost hb3 hp2 HB1 hq
    have hN1 := M.lat.pos
    have hN2 := M.lat.le
    have L := M.at_
    have HM := Lib.hid M
    clear M
    go_wp2_with (go_at_call 15; (with_reducible refine (len_at lb N _ ?_).mono ?_); (exact L.len); rintro e w' ⟨rfl, m, rfl⟩)
    have M := HM.out
    obtain ⟨X, hX, hXN⟩ := mod_level a N hN1
    obtain ⟨Y, hY, hYN⟩ := mod_level b N hN1
    obtain ⟨Z, hZ, hZN⟩ := mod_level c N hN1
    rw [hX, hY, hZ]
    clear hX hY hZ
    have hle : (N : Int) ≤ 16 := by omega
    have Lxy : Hid (leqB N U X Y = U X Y) := M.leq hXN hYN
    cases hxy : U X Y
    · rw [hxy] at Lxy
      clear hxy
      go_wp2_with (first | (go_at_call 16; (with_reducible refine (leq_is lb N X Y U D false _ hle ?_ Lxy.out).mono ?_); (first | exact L | exact L.drewN _); rintro e w' ⟨rfl, m, rfl⟩))
      go_ret
      exact ⟨rfl, below_draws HB3.out _⟩
    · rw [hxy] at Lxy
      obtain ⟨p, hp⟩ := M.lat.lub X Z hXN hZN
      obtain ⟨p2, hp2⟩ := M.lat.lub Y Z hYN hZN
      obtain ⟨q, hq⟩ := M.lat.glb X Z hXN hZN
      obtain ⟨q2, hq2⟩ := M.lat.glb Y Z hYN hZN
      have Jxz := Lib.hid (M.join hXN hZN hp)
      have Jyz := Lib.hid (M.join hYN hZN hp2)
      have Mxz := Lib.hid (M.meet hXN hZN hq)
      have Myz := Lib.hid (M.meet hYN hZN hq2)
      have g1 : U X p2 = true := M.lat.trans X Y p2 hXN hYN hp2.1 hxy hp2.2.1
      have Lpp : Hid (leqB N U p p2 = true) := by show _ = true; rw [M.leq hp.1 hp2.1]; exact hp.2.2.2 p2 hp2.1 g1 hp2.2.2.1
      have Lqq : Hid (leqB N U q q2 = true) := by show _ = true; rw [M.leq hq.1 hq2.1]; exact hq2.2.2.2 q hq.1 (M.lat.trans q X Y hq.1 hXN hYN hq.2.1 hxy) hq.2.2.1
      have Lxp : Hid (leqB N U X p2 = true) := by show _ = true; rw [M.leq hXN hp2.1]; exact g1
      have Lyz : Hid (leqB N U Y Z = U Y Z) := M.leq hYN hZN
      have Lxz : Hid (U Y Z = true → leqB N U X Z = true) := fun h => by rw [M.leq hXN hZN]; exact M.lat.trans X Y Z hXN hYN hZN hxy h
      clear hp hp2 hq hq2 g1 hxy M HM
      cases hyz : U Y Z
      · rw [hyz] at Lyz
        clear hyz Lxz
        go_wp2_with (first | (go_at_call 17; (with_reducible refine (join_is lb N X Z p U D _ hle ?_ Jxz.out).mono ?_); (first | exact L | exact L.drewN _); rintro e w' ⟨rfl, m, rfl⟩) | (go_at_call 17; (with_reducible refine (join_is lb N Y Z p2 U D _ hle ?_ Jyz.out).mono ?_); (first | exact L | exact L.drewN _); rintro e w' ⟨rfl, m, rfl⟩) | (go_at_call 18; (with_reducible refine (meet_is lb N X Z q U D _ hle ?_ Mxz.out).mono ?_); (first | exact L | exact L.drewN _); rintro e w' ⟨rfl, m, rfl⟩) | (go_at_call 18; (with_reducible refine (meet_is lb N Y Z q2 U D _ hle ?_ Myz.out).mono ?_); (first | exact L | exact L.drewN _); rintro e w' ⟨rfl, m, rfl⟩) | (go_at_call 16; (with_reducible refine (leq_is lb N X Y U D true _ hle ?_ Lxy.out).mono ?_); (first | exact L | exact L.drewN _); rintro e w' ⟨rfl, m, rfl⟩) | (go_at_call 16; (with_reducible refine (leq_is lb N p p2 U D true _ hle ?_ Lpp.out).mono ?_); (first | exact L | exact L.drewN _); rintro e w' ⟨rfl, m, rfl⟩) | (go_at_call 16; (with_reducible refine (leq_is lb N q q2 U D true _ hle ?_ Lqq.out).mono ?_); (first | exact L | exact L.drewN _); rintro e w' ⟨rfl, m, rfl⟩) | (go_at_call 16; (with_reducible refine (leq_is lb N X p2 U D true _ hle ?_ Lxp.out).mono ?_); (first | exact L | exact L.drewN _); rintro e w' ⟨rfl, m, rfl⟩) | (go_at_call 16; (with_reducible refine (leq_is lb N Y Z U D false _ hle ?_ Lyz.out).mono ?_); (first | exact L | exact L.drewN _); rintro e w' ⟨rfl, m, rfl⟩))
        go_ret
        exact ⟨rfl, below_draws HB3.out _⟩
      · rw [hyz] at Lyz
        have Lxz2 := Lib.hid (Lxz.out hyz)
        clear hyz Lxz
        go_wp2_with (first | (go_at_call 17; (with_reducible refine (join_is lb N X Z p U D _ hle ?_ Jxz.out).mono ?_); (first | exact L | exact L.drewN _); rintro e w' ⟨rfl, m, rfl⟩) | (go_at_call 17; (with_reducible refine (join_is lb N Y Z p2 U D _ hle ?_ Jyz.out).mono ?_); (first | exact L | exact L.drewN _); rintro e w' ⟨rfl, m, rfl⟩) | (go_at_call 18; (with_reducible refine (meet_is lb N X Z q U D _ hle ?_ Mxz.out).mono ?_); (first | exact L | exact L.drewN _); rintro e w' ⟨rfl, m, rfl⟩) | (go_at_call 18; (with_reducible refine (meet_is lb N Y Z q2 U D _ hle ?_ Myz.out).mono ?_); (first | exact L | exact L.drewN _); rintro e w' ⟨rfl, m, rfl⟩) | (go_at_call 16; (with_reducible refine (leq_is lb N X Y U D true _ hle ?_ Lxy.out).mono ?_); (first | exact L | exact L.drewN _); rintro e w' ⟨rfl, m, rfl⟩) | (go_at_call 16; (with_reducible refine (leq_is lb N p p2 U D true _ hle ?_ Lpp.out).mono ?_); (first | exact L | exact L.drewN _); rintro e w' ⟨rfl, m, rfl⟩) | (go_at_call 16; (with_reducible refine (leq_is lb N q q2 U D true _ hle ?_ Lqq.out).mono ?_); (first | exact L | exact L.drewN _); rintro e w' ⟨rfl, m, rfl⟩) | (go_at_call 16; (with_reducible refine (leq_is lb N X p2 U D true _ hle ?_ Lxp.out).mono ?_); (first | exact L | exact L.drewN _); rintro e w' ⟨rfl, m, rfl⟩) | (go_at_call 16; (with_reducible refine (leq_is lb N Y Z U D true _ hle ?_ Lyz.out).mono ?_); (first | exact L | exact L.drewN _); rintro e w' ⟨rfl, m, rfl⟩) | (go_at_call 16; (with_reducible refine (leq_is lb N X Z U D true _ hle ?_ Lxz2.out).mono ?_); (first | exact L | exact L.drewN _); rintro e w' ⟨rfl, m, rfl⟩))
        go_ret
        exact ⟨rfl, below_draws HB3.out _⟩
end Go.Proofs.Ytgkbmdlbljjbfaa
