/-
  The law LattPairs: its mathematics and its walk.
-/
import Derived.Test.YtgkbmdlbljjbfaaLawEnds
import Derived.Deep.RegionHeld3
import Derived.Deep.AppendLies
namespace Go.Proofs.Ytgkbmdlbljjbfaa
open Go.RowKit

def twice : List (Int × Int) → List (Int × Int)
  | [] => []
  | p :: r => twice r ++ [p, p]
/-- The pairs from j on, turned round, each twice. -/
def backTo (qs : List (Int × Int)) (j : Nat) : List (Int × Int) := twice (qs.drop j)

theorem twice_length : ∀ ps, (twice ps).length = 2 * ps.length
  | [] => rfl
  | p :: r => by simp [twice, twice_length r]; omega
theorem tab_twice (a b : Nat) : ∀ ps, tab (twice ps) a b = tab ps a b
  | [] => rfl
  | p :: r => by
    have := tab_twice a b r
    simp only [tab] at this
    simp only [twice, tab, List.any_append, this, List.any_cons, List.any_nil]
    cases (p.1 == (a : Int) && p.2 == (b : Int)) <;> simp
theorem good_twice (n : Int) : ∀ ps, goodB n (twice ps) = goodB n ps
  | [] => rfl
  | p :: r => by
    have := good_twice n r
    simp only [goodB] at this
    simp only [twice, goodB, List.all_append, this, List.all_cons, List.all_nil]
    cases (hasB n p.1 && hasB n p.2) <;> simp
theorem backTo_end (qs : List (Int × Int)) : backTo qs qs.length = [] := by simp [backTo, twice]
theorem backTo_step (qs : List (Int × Int)) (j : Nat) (h : j < qs.length) : backTo qs j = backTo qs (j + 1) ++ [qs[j], qs[j]] := by
  unfold backTo
  rw [List.drop_eq_getElem_cons h, twice]

theorem pairs_iff {N x p q : Nat} {qs : List (Int × Int)} {U D U' D' : Nat → Nat → Bool} (ht : IsTab N qs U D) (hl : IsLat N U) (hx : x < N) (hqp : U q p = true)
    (h : IsTab N (backTo qs 0 ++ [((q : Int), (p : Int)), ((x : Int), (x : Int))]) U' D') (a b : Nat) (ha : a < N) (hb : b < N) : U' a b = true ↔ U a b = true := by
  have hle := ht.le
  have et : ∀ a b, tab (backTo qs 0 ++ [((q : Int), (p : Int)), ((x : Int), (x : Int))]) a b = true ↔ tab qs a b = true ∨ (a = q ∧ b = p) ∨ (a = x ∧ b = x) := fun a b => by
    have e : tab [((q : Int), (p : Int)), ((x : Int), (x : Int))] a b = true ↔ (a = q ∧ b = p) ∨ (a = x ∧ b = x) := by simp [tab]; omega
    have e2 := tab_twice a b qs
    rw [← e, ← e2]; simp [tab, backTo]
  refine h.eq (fun a b => U a b = true) ht.refl (fun a ha b hb c hc h1 h2 => hl.trans a b c ha hb hc h1 h2) (fun a ha b hb h => ?_) (fun a b ha hb h => ?_) a b ha hb
  · rw [et] at h
    rcases h with h | ⟨rfl, rfl⟩ | ⟨rfl, rfl⟩
    · exact ht.inv.ext a b ha (by omega) h
    · exact hqp
    · exact ht.refl _ hx
  · exact (ht.inv.star a b ha (by omega) h).mono fun x y r => ⟨r.1, r.2.1, (et x y).2 (Or.inl r.2.2)⟩

theorem Lub.congr {n : Nat} {U T : Nat → Nat → Bool} (e : ∀ a b, a < n → b < n → (T a b = true ↔ U a b = true)) {a b c : Nat} (ha : a < n) (hb : b < n) (h : Lub n U a b c) : Lub n T a b c :=
  ⟨h.1, (e a c ha h.1).2 h.2.1, (e b c hb h.1).2 h.2.2.1, fun d hd h1 h2 => (e c d h.1 hd).2 (h.2.2.2 d hd ((e a d ha hd).1 h1) ((e b d hb hd).1 h2))⟩
theorem Glb.congr {n : Nat} {U T : Nat → Nat → Bool} (e : ∀ a b, a < n → b < n → (T a b = true ↔ U a b = true)) {a b c : Nat} (ha : a < n) (hb : b < n) (h : Glb n U a b c) : Glb n T a b c :=
  ⟨h.1, (e c a h.1 ha).2 h.2.1, (e c b h.1 hb).2 h.2.2.1, fun d hd h1 h2 => (e d c hd h.1).2 (h.2.2.2 d hd ((e d a hd ha).1 h1) ((e d b hd hb).1 h2))⟩

set_option maxRecDepth 100000 in
set_option maxHeartbeats 1000000 in
theorem lattPairs_at (n a b c : Int) (sa : Option Addr) (cap : Nat) (ps : List (Int × Int)) (w : World) (n0 : 0 ≤ n) (n1 : n < 256) (a0 : 0 ≤ a) (a1 : a < 256) (b0 : 0 ≤ b) (b1 : b < 256) (c0 : 0 ≤ c) (c1 : c < 256)
    (hc : ps.length ≤ cap) (hm : cap ≤ maxLen) (hp : PairsAt w sa ps) :
    Calls Try.prog 8 #[.int .u8 n, .slice sa ps.length cap, .int .u8 a, .int .u8 b, .int .u8 c] w fun e w' => e = .returned (.bool true) ∧ Below w.heap.size w w' := by
  go_enter Try.func8, Try.ntmps8
  go_wp2_with fail
  refine (shown_at w).mono ?_
  rintro e w1 ⟨rfl, hb1⟩
  have hp1 := hp.below hb1
  have HB1 := Lib.hid hb1
  clear hb1 hp
  go_wp2_with fail
  refine (few_at sa cap ps w1 hc hm hp1).mono ?_
  rintro e w2 ⟨rfl, hp2, hl2, rfl⟩
  obtain ⟨qs, hqs⟩ : ∃ qs, qs = ps.take 100 := ⟨_, rfl⟩
  rw [← hqs] at hp2 hl2 ⊢
  clear hqs hp1
  go_wp2_with fail
  have hq : qs.length ≤ maxLen := by unfold maxLen; omega
  refine (new_at n sa cap qs w1 hq hp2).mono ?_
  rintro e w3 hpost
  obtain ⟨hb3, ⟨cc, h1, rfl⟩ | ⟨N, lb, U, D, rfl, hlb, rfl, M⟩⟩ := hpost.cases
  · have HB3 : Hid (Below w.heap.size w w3) := HB1.out.trans (hb3.mono HB1.out.size)
    clear hpost hb3 hp2 HB1
    rcases h1 with rfl | rfl
    · go_wp2
      go_ret
      exact ⟨rfl, HB3.out⟩
    · go_wp2
      go_ret
      exact ⟨rfl, HB3.out⟩
  · have HB3 : Hid (Below w.heap.size w w3) := HB1.out.trans (hb3.mono HB1.out.size)
    have hp3 := hp2.below hb3
    have HP3 := Lib.hid hp3
    clear hpost hb3 hp2 HB1 hq hp3 hc hm
    have hN1 := M.lat.pos
    have hN2 := M.lat.le
    have L := M.at_
    have HM := Lib.hid M
    have hle : (N : Int) ≤ 16 := by omega
    clear M
    go_wp2_with (go_at_call 15; (with_reducible refine (len_at lb N _ ?_).mono ?_); (exact L.len); rintro e w' ⟨rfl, m, rfl⟩)
    obtain ⟨X, hX, hXN⟩ := mod_level a N hN1
    obtain ⟨Y, hY, hYN⟩ := mod_level b N hN1
    rw [hX, hY]
    clear hX hY
    go_loopw [17, 18] (fun v i wr => ∃ j : Nat, j ≤ qs.length ∧ i = .int .i64 ((j : Int) - 1) ∧ OwnPairs wr w3.heap.size v (backTo qs j) ∧ Below w3.heap.size w3 wr) (fun _ i _ => (intOf i + 1).toNat)
    case atStart => exact ⟨qs.length, Nat.le_refl _, rfl, by rw [backTo_end]; exact OwnPairs.nil _ _, below_draws (Below.refl _ _) _⟩
    case round =>
      obtain ⟨j, hj, rfl, hown, hbr⟩ := hrel
      cases j with
      | succ j =>
        have e1 : (((j + 1 : Nat) : Int) - 1) = (j : Int) := by omega
        rw [e1]
        clear e1
        have hjl : j < qs.length := by omega
        have hji : (j : Int) < (qs.length : Int) := by omega
        have hlen : (backTo qs (j + 1)).length ≤ 1000 := by unfold backTo; rw [twice_length, List.length_drop]; omega
        obtain ⟨pb, po, rfl, hpb, c0', c1'⟩ := HP3.out j hjl
        obtain ⟨x, hx⟩ : ∃ x, (qs[j]).1 = x := ⟨_, rfl⟩
        obtain ⟨y, hy⟩ : ∃ y, (qs[j]).2 = y := ⟨_, rfl⟩
        rw [hx] at c0'
        rw [hy] at c1'
        have c0 : wr.cell? ⟨pb, po + j * 2, none⟩ = some (.int .i64 x) := by rw [hbr.cell (p := ⟨pb, _, none⟩) hpb]; exact c0'
        have c1 : wr.cell? ⟨pb, po + j * 2 + 1, none⟩ = some (.int .i64 y) := by rw [hbr.cell (p := ⟨pb, _, none⟩) hpb]; exact c1'
        have hpw : pb < wr.heap.size := Nat.lt_of_lt_of_le hpb hbr.size
        have HX := Lib.hid hx
        have HY := Lib.hid hy
        have HO := Lib.hid hown
        have HB := Lib.hid hbr
        have hbs := hbr.size
        have hne : _ = some pb → False := fun h => absurd (OwnPairs.lt hown pb h) (by omega)
        have HNE := Lib.hid hne
        clear hx hy hown hbr c0' c1' hne
        obtain ⟨i0, hi, hz0, hz1, hz2⟩ := info_parts Try.infoPair
        go_wp2_with fail
        go_region_held3 (fun w' => w'.cell? ⟨pb, po + j * 2, none⟩ = some (.int .i64 x) ∧ w'.cell? ⟨pb, po + j * 2 + 1, none⟩ = some (.int .i64 y))
          (first
            | go_keep
            | (go_split_ands
               refine ⟨?_, ?_⟩
               · (rw [hgrow.cell_far _ (by simp; omega) (fun h => HNE.out h.symm)]; assumption)
               · (rw [hgrow.cell_far _ (by simp; omega) (fun h => HNE.out h.symm)]; assumption)))
          ((refine step_append_lies _ (by rfl) _ _ _ (by rfl) w3.heap.size 42 i0 _ 2 16 Try.underlying22 hi hz0 hz1 hz2 rfl (by omega) _ _ _ (by rfl) ((World.ownsRow.alloc HO.out _).drew) ⟨wr.heap.size, 0, none⟩ 2 2 [.int .i64 x, .int .i64 y, .int .i64 x, .int .i64 y] (by rfl) (by rfl) (World.news_of_block (cs := #[.int .i64 x, .int .i64 y, .int .i64 x, .int .i64 y]) (t := 42) (fr := (0, 0)) (heap_alloc_new wr _)) (by simp [Value.oneCell']) (by omega) (by unfold maxLen; omega) (by omega) (by simp; omega) (wr.heap.size + 1) (by simp) ?_; intro gg cp w4 hown4 hgrow hat hlt))
        have HO4 : Hid (OwnPairs w4 w3.heap.size (.slice (some ⟨gg, 0, none⟩) ((backTo qs (j + 1)).length + 2) cp) (backTo qs j)) := by
          have e : backTo qs j = backTo qs (j + 1) ++ [(x, y), (x, y)] := by rw [backTo_step qs j hjl, ← HX.out, ← HY.out]
          rw [e]; exact OwnPairs.more hown4 (by simp) (by rw [flat_append]; rfl)
        have HB4 : Hid (Below w3.heap.size w3 w4) := (HB.out.alloc HB.out.size _).drew.grown hgrow (by simp; omega) (OwnPairs.lt HO.out)
        clear hown4 hgrow hat hlt HO HB
        go_wp2
        go_roundw
        case rel => exact ⟨j, by omega, by go_num, HO4.out, HB4.out⟩
        case measure => simp [intOf]
      | zero =>
        have e1 : (((0 : Nat) : Int) - 1) = -1 := by omega
        rw [e1]
        clear e1
        have hlen : (backTo qs 0).length ≤ 1000 := by unfold backTo; rw [twice_length, List.length_drop]; omega
        have HO := Lib.hid hown
        have HB := Lib.hid hbr
        have M := HM.out.later hbr
        have L := M.at_
        obtain ⟨p, hp⟩ := M.lat.lub X Y hXN hYN
        obtain ⟨q, hq⟩ := M.lat.glb X Y hXN hYN
        have Jxy := Lib.hid (M.join hXN hYN hp)
        have Mxy := Lib.hid (M.meet hXN hYN hq)
        have HQP : Hid (U q p = true) := M.lat.trans q X p hq.1 hXN hp.1 hq.2.1 hp.2.1
        have hpN := hp.1
        have hqN := hq.1
        clear hown hbr hp hq M
        go_wp2_with (first | (go_at_call 18; (with_reducible refine (meet_is lb N X Y q U D _ hle ?_ Mxy.out).mono ?_); (first | exact L | exact L.drewN _); rintro e w' ⟨rfl, m, rfl⟩) | (go_at_call 17; (with_reducible refine (join_is lb N X Y p U D _ hle ?_ Jxy.out).mono ?_); (first | exact L | exact L.drewN _); rintro e w' ⟨rfl, m, rfl⟩) | (at_builtin; refine wpList_append_pairs rfl (.tmp 71) (.tmp 84) rfl w3.heap.size _ (backTo qs 0) rfl ?e0 (some ⟨wr.heap.size, 0, none⟩) 2 [((q : Int), (p : Int)), ((X : Int), (X : Int))] 2 rfl rfl ?e1 ?e2 ?e3 ?e4 ?_))
        case e0 => exact HO.out.alloc _
        case e1 => exact PairsAt.lit2 wr _ _ _ _
        case e2 => intro h; cases h
        case e3 => simp; omega
        case e4 => have := HB.out.size; simp; omega
        intro v5 w5 hown5 hg5
        have hb5 : Below w3.heap.size w3 w5 := (below_draws (HB.out.alloc HB.out.size _) _).grown hg5 (by simp; have := HB.out.size; omega) (OwnPairs.lt HO.out)
        obtain ⟨rs, hrs⟩ : ∃ rs, rs = backTo qs 0 ++ [((q : Int), (p : Int)), ((X : Int), (X : Int))] := ⟨_, rfl⟩
        rw [← hrs] at hown5
        have HRS := Lib.hid hrs
        have hl5 : rs.length ≤ maxLen := by rw [hrs, List.length_append]; unfold maxLen; simp; omega
        obtain ⟨sa5, cap5, rfl, _, _, _, hp5⟩ := hown5.pairs
        have HB5 := Lib.hid hb5
        clear hg5 HO hown5 HB hb5 hrs L
        go_wp2_with fail
        with_reducible refine (new_at (N : Int) sa5 cap5 rs w5 hl5 hp5).mono ?_
        rintro e w6 hpost
        have hb6 := hpost.1
        have M := (HM.out.later HB5.out).later hb6
        have L := M.at_
        have HBB : Hid (Below w.heap.size w w6) := (HB3.out.trans (HB5.out.mono HB3.out.size)).trans (hb6.mono (HB3.out.trans (HB5.out.mono HB3.out.size)).size)
        clear hp5 hl5 HB5 HB3 HM HP3
        rw [HRS.out] at hpost
        obtain ⟨_, lb2, U2, D2, _, rfl, M2⟩ := NewPost.ok hpost (by
          have h1 := good_twice N qs
          have h2 := M.good
          rw [← h1] at h2
          simp only [goodB] at h2
          simp only [okArgs, goodB, List.all_append, backTo, List.drop_zero, h2]; simp [hasB]; omega) (fun U' D' h => M.lat.congr (pairs_iff M.tab M.lat hXN HQP.out h) h.within)
        have e := pairs_iff M.tab M.lat hXN HQP.out M2.tab
        have L2 := M2.at_
        clear hpost hb6 HRS
        go_wp2_with (go_at_call 15; (with_reducible refine (len_at lb N _ ?_).mono ?_); (exact L.len); rintro e w' ⟨rfl, m, rfl⟩)
        obtain ⟨Z, hZ, hZN⟩ := mod_level c N hN1
        rw [hZ]
        clear hZ
        obtain ⟨r, hr⟩ := M.lat.lub X Z hXN hZN
        obtain ⟨s, hs⟩ := M.lat.glb Y Z hYN hZN
        have J1 := Lib.hid (M.join hXN hZN hr)
        have J2 := Lib.hid (M2.join hXN hZN (Lub.congr e hXN hZN hr))
        have M1 := Lib.hid (M.meet hYN hZN hs)
        have M2a := Lib.hid (M2.meet hYN hZN (Glb.congr e hYN hZN hs))
        have L1 : Hid (leqB N U Z X = U Z X) := M.leq hZN hXN
        have L2a : Hid (leqB N U2 Z X = U Z X) := by show _ = _; rw [M2.leq hZN hXN, Bool.eq_iff_iff]; exact e Z X hZN hXN
        clear e M M2 hr hs
        cases hzx : U Z X
        · rw [hzx] at L1 L2a
          clear hzx
          go_wp2_with (first | (go_at_call 15; (with_reducible refine (len_at lb N _ ?_).mono ?_); (exact L.len); rintro e w' ⟨rfl, m, rfl⟩) | (go_at_call 17; (with_reducible refine (join_is lb2 N X Z r U2 D2 _ hle ?_ J2.out).mono ?_); (first | exact L2 | exact L2.drewN _); rintro e w' ⟨rfl, m, rfl⟩) | (go_at_call 17; (with_reducible refine (join_is lb N X Z r U D _ hle ?_ J1.out).mono ?_); (first | exact L | exact L.drewN _); rintro e w' ⟨rfl, m, rfl⟩) | (go_at_call 18; (with_reducible refine (meet_is lb2 N Y Z s U2 D2 _ hle ?_ M2a.out).mono ?_); (first | exact L2 | exact L2.drewN _); rintro e w' ⟨rfl, m, rfl⟩) | (go_at_call 18; (with_reducible refine (meet_is lb N Y Z s U D _ hle ?_ M1.out).mono ?_); (first | exact L | exact L.drewN _); rintro e w' ⟨rfl, m, rfl⟩) | (go_at_call 16; (with_reducible refine (leq_is lb2 N Z X U2 D2 false _ hle ?_ L2a.out).mono ?_); (first | exact L2 | exact L2.drewN _); rintro e w' ⟨rfl, m, rfl⟩) | (go_at_call 16; (with_reducible refine (leq_is lb N Z X U D false _ hle ?_ L1.out).mono ?_); (first | exact L | exact L.drewN _); rintro e w' ⟨rfl, m, rfl⟩))
          go_ret
          exact ⟨rfl, below_draws HBB.out _⟩
        · rw [hzx] at L1 L2a
          clear hzx
          go_wp2_with (first | (go_at_call 15; (with_reducible refine (len_at lb N _ ?_).mono ?_); (exact L.len); rintro e w' ⟨rfl, m, rfl⟩) | (go_at_call 17; (with_reducible refine (join_is lb2 N X Z r U2 D2 _ hle ?_ J2.out).mono ?_); (first | exact L2 | exact L2.drewN _); rintro e w' ⟨rfl, m, rfl⟩) | (go_at_call 17; (with_reducible refine (join_is lb N X Z r U D _ hle ?_ J1.out).mono ?_); (first | exact L | exact L.drewN _); rintro e w' ⟨rfl, m, rfl⟩) | (go_at_call 18; (with_reducible refine (meet_is lb2 N Y Z s U2 D2 _ hle ?_ M2a.out).mono ?_); (first | exact L2 | exact L2.drewN _); rintro e w' ⟨rfl, m, rfl⟩) | (go_at_call 18; (with_reducible refine (meet_is lb N Y Z s U D _ hle ?_ M1.out).mono ?_); (first | exact L | exact L.drewN _); rintro e w' ⟨rfl, m, rfl⟩) | (go_at_call 16; (with_reducible refine (leq_is lb2 N Z X U2 D2 true _ hle ?_ L2a.out).mono ?_); (first | exact L2 | exact L2.drewN _); rintro e w' ⟨rfl, m, rfl⟩) | (go_at_call 16; (with_reducible refine (leq_is lb N Z X U D true _ hle ?_ L1.out).mono ?_); (first | exact L | exact L.drewN _); rintro e w' ⟨rfl, m, rfl⟩))
          go_ret
          exact ⟨rfl, below_draws HBB.out _⟩
end Go.Proofs.Ytgkbmdlbljjbfaa
