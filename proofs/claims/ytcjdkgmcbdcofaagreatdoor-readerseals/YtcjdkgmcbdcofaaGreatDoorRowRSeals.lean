/-
  The statement of ReaderSeals, proved: whatever it is given, the call returns true, and each argument reads as it did. Conditions: the listed variables hold what the program's text lays (the card ties them).
-/
import Derived.Test.YtcjdkgmcbdcofaaGreatDoorReadW
import Derived.Test.YtcjdkgmcbdcofaaGreatDoorRShown
import Derived.Test.YtcjdkgmcbdcofaaGreatDoorReadX
namespace Go.Proofs.YtcjdkgmcbdcofaaGreatDoor
open Go.RowKit Go.Maps
set_option linter.unusedVariables false

theorem one_text7 {W : World} {B : Nat} {c : UInt8} (h : W.cell? ⟨B, 0, none⟩ = some (.int .u8 (c.toNat : Int))) : (convert 36 9 (.slice (some ⟨B, 0, none⟩) 1 1)).run Tryz.prog W = .ok (.string (strV [c])) W := by
  refine run_convert_bytes_back W 36 9 5 ⟨B, 0, none⟩ 1 [c] Tryz.underlying36 Tryz.underlying5 Tryz.underlying9 (fun j hj => ?_)
  have : j = 0 := by simpa using hj
  subst this
  exact h
theorem rd_app (a b : ByteArray) : (a ++ b).data.toList = a.data.toList ++ b.data.toList := by
  rw [ByteArray.data_append]; simp
theorem one_has {w : World} {v : Value} {x : Tm} (hk : HasTs w v [x]) : ∃ b o cap k n s a l c, v = .slice (some ⟨b, o, none⟩) 1 cap ∧ b < w.heap.size ∧
    w.cell? ⟨b, o, none⟩ = some (.int .i64 k) ∧ w.cell? ⟨b, o + 1, none⟩ = some (.int .i64 n) ∧ w.cell? ⟨b, o + 2, none⟩ = some (.string s) ∧ w.cell? ⟨b, o + 3, none⟩ = some (.slice a l c) ∧ Has w (.agg #[.int .i64 k, .int .i64 n, .string s, .slice a l c]) x := by
  obtain ⟨a, cap, rfl, hl, hm, ha, hx⟩ := hk
  obtain ⟨b, o, k0, n0, s0, a0, l0, c0, rfl, hb, q0, q1, q2, q3, hT0⟩ := hx 0 (by simp)
  exact ⟨b, o, cap, k0, n0, s0, a0, l0, c0, rfl, hb, by simpa using q0, by simpa using q1, by simpa using q2, by simpa using q3, hT0⟩
theorem seal_kids {w : World} {k n : Int} {s : ByteArray} {v : Value} {c : UInt8} {m : Nat} (h : Has w (.agg #[.int .i64 k, .int .i64 n, .string s, v]) (sealT c m)) : HasTs w v [.mk 3 0 (strV [102]) [.mk 3 0 (strV [c]) []]] := by
  cases h with
  | mk hk hn hs hc hm ha vs K N S hv hkid => exact (TmIn.mk hk hn hs hc hm ha vs K N S hv hkid).kids
theorem all_txt (s : ByteArray) (l : List UInt8) (hs : s.data.toList = l) (hl : l.length ≤ 4096) (w : World) (L : Laid w) (T : Tab w) (E : ErrT w) (lv : Int) : Calls Tryz.prog 10 #[.string s, .int .i64 lv] w (AllPost w (allG l lv)) :=
  all_at s l hs w L T E (by have : s.size = l.length := by rw [← hs]; rfl
                            omega) lv
set_option maxRecDepth 100000 in
set_option maxHeartbeats 4000000 in
theorem seals_at (x y z : Int) (v : Bool) (hx : 0 ≤ x ∧ x ≤ 255) (hy : 0 ≤ y ∧ y ≤ 255) (hz' : 0 ≤ z ∧ z ≤ 255) (w : World) (L : Laid w) (T : Tab w) (E : ErrT w) : Calls Tryz.prog 8 #[.int .u8 x, .int .u8 y, .int .u8 z, .bool v] w (Gets w (.bool true)) := by
  have hsh := shown7_at w L T E
  obtain ⟨i, hi, hi'⟩ : ∃ i : Nat, i < 26 ∧ x % 26 = i := ⟨(x % 26).toNat, by omega, by omega⟩
  obtain ⟨j, hj, hj'⟩ : ∃ j : Nat, j < 10 ∧ y % 10 = j := ⟨(y % 10).toNat, by omega, by omega⟩
  obtain ⟨k, hk, hk'⟩ : ∃ k : Nat, k < 12 ∧ z % 12 = k := ⟨(z % 12).toNat, by omega, by omega⟩
  obtain ⟨c, hc⟩ : ∃ c : UInt8, c = UInt8.ofNat (97 + i) := ⟨_, rfl⟩
  obtain ⟨g, hg⟩ : ∃ g : UInt8, g = UInt8.ofNat (48 + j) := ⟨_, rfl⟩
  have hcn : (c.toNat : Int) = 97 + i := by rw [hc]; simp [UInt8.toNat_ofNat]; omega
  have hgn : (g.toNat : Int) = 48 + j := by rw [hg]; simp [UInt8.toNat_ofNat]; omega
  have cg : ∀ W : World, (convert 36 9 (.slice (some ⟨W.heap.size, 0, none⟩) 1 1)).run Tryz.prog (W.alloc (.cells #[.int .u8 (48 + (j : Int))] 5)) = .ok (.string (strV [g])) (W.alloc (.cells #[.int .u8 (48 + (j : Int))] 5)) := fun W => one_text7 (by rw [hgn]; have := alloc_new W (.cells #[.int .u8 (48 + (j : Int))] 5); simp only [World.cell?, this]; rfl)
  have cc1 : ∀ (W : World) (A : Obj), (convert 36 9 (.slice (some ⟨W.heap.size + 1, 0, none⟩) 1 1)).run Tryz.prog ((W.alloc A).alloc (.cells #[.int .u8 (97 + (i : Int))] 5)) = .ok (.string (strV [c])) ((W.alloc A).alloc (.cells #[.int .u8 (97 + (i : Int))] 5)) := fun W A => one_text7 (by rw [hcn]; have := alloc_new (W.alloc A) (.cells #[.int .u8 (97 + (i : Int))] 5); simp at this; simp [World.cell?, this])
  have cc2 : ∀ (W : World) (A B : Obj), (convert 36 9 (.slice (some ⟨W.heap.size + 1 + 1, 0, none⟩) 1 1)).run Tryz.prog (((W.alloc A).alloc B).alloc (.cells #[.int .u8 (97 + (i : Int))] 5)) = .ok (.string (strV [c])) (((W.alloc A).alloc B).alloc (.cells #[.int .u8 (97 + (i : Int))] 5)) := fun W A B => one_text7 (by rw [hcn]; have := alloc_new ((W.alloc A).alloc B) (.cells #[.int .u8 (97 + (i : Int))] 5); simp at this; simp [World.cell?, this])
  have zc : (strV [c]).size = 1 := rfl
  have zg : (strV [g]).size = 1 := rfl
  have hz := zeroTerm
  have hi9 : (i : Int) < 26 := by omega
  have hj9 : (j : Int) < 10 := by omega
  have hi8 : (0 : Int) ≤ (i : Int) := by omega
  have hj8 : (0 : Int) ≤ (j : Int) := by omega
  have hat := fun W => atom_at (strV [c]) W (by rw [zc]; unfold maxLen; omega)
  have HC := Lib.hid hc
  have HG := Lib.hid hg
  clear hc hg hcn hgn
  go_enter Tryz.func8, Tryz.ntmps8
  cases v with
  | true =>
    obtain ⟨v1, v2⟩ := seal_var hj hk
    rw [← HG.out] at v1 v2
    obtain ⟨q1, e1⟩ := chkV_bad v1
    obtain ⟨q2, e2⟩ := chkV_bad v2
    clear v1 v2
    have HA := fun W (L : Laid W) (T : Tab W) (E : ErrT W) => all_txt ((ByteArray.mk #[102, 40, 88, 41]) ++ (ByteArray.mk #[64]) ++ strV [g] ++ (ByteArray.mk #[32, 46])) (tA 88 g) (by simp only [rd_app, strV_list]; rfl) (by simp [tA]) W L T E k
    have HBB := fun W (L : Laid W) (T : Tab W) (E : ErrT W) => all_txt ((ByteArray.mk #[64, 40]) ++ (ByteArray.mk #[102, 40, 88, 41]) ++ (ByteArray.mk #[44, 32]) ++ strV [g] ++ (ByteArray.mk #[41, 46])) (tB 88 g) (by simp only [rd_app, strV_list]; rfl) (by simp [tB]) W L T E k
    simp only [e1] at HA
    simp only [e2] at HBB
    unfold AllPost at HA HBB
    have HHA := Lib.hid HA
    have HHB := Lib.hid HBB
    clear HA HBB e1 e2
    go_wp2_with (first
      | (go_at_call 9; refine hsh.mono ?_; rintro e W1 ⟨rfl, hb1⟩)
      | (go_at_call 18; refine (hat _).mono ?_; rintro e W2 h4; obtain ⟨k1, m1, s1, a1, l1, c1, rfl, hT1, hb2⟩ := h4.form4; have hw2 : Below w.heap.size w W2 := bel (bel_al (bel_al (bel_al hb1 _) _) _) hb2; have hmk := make_at (ByteArray.mk #[102]) (.slice (some ⟨W2.heap.size, 0, none⟩) 1 1) [.mk 3 0 (strV [c]) []] (W2.alloc (.cells #[.int .i64 k1, .int .i64 m1, .string s1, .slice a1 l1 c1] 30)) (by decide) (one_ts (alloc_new _ _) (by simp) (Has.below (hasNew hT1) (bel_al (Below.refl _ _) _))) (by rw [Tm.sizes_cons, Tm.sizes_nil, Tm.size_mk, Tm.sizes_nil]; decide))
      | (go_at_call 16; refine hmk.mono ?_; rintro e W3 h4; obtain ⟨k3, m3, s3, a3, l3, c3, rfl, hT3, hb3⟩ := h4.form4; have hw3 : Below w.heap.size w (W3.alloc (.cells #[.int .i64 k3, .int .i64 m3, .string s3, .slice a3 l3 c3] 30)) := bel_al (bel (bel_al hw2 _) hb3) _)
      | (go_at_call 10; (with_reducible refine (HHA.out _ (L.later hw3) (T.later hw3) (E.later hw3)).mono ?_); rintro e W4 ⟨rfl, hb4⟩; have hw4 := bel hw3 hb4)
      | (go_at_call 10; (with_reducible refine (HHB.out _ (L.later hw4) (T.later hw4) (E.later hw4)).mono ?_); rintro e W5 ⟨rfl, hb5⟩))
    go_ret
    exact ⟨rfl, bel hw4 hb5⟩
  | false =>
    obtain ⟨v1, v2⟩ := seal_case hi hj hk
    rw [← HG.out, ← HC.out] at v1 v2
    by_cases hjk : k ≤ j
    · obtain ⟨q1, e1⟩ := chk_bad v1 hjk
      obtain ⟨q2, e2⟩ := chk_bad v2 hjk
      have hjk' : (k : Int) ≤ (j : Int) := by omega
      clear v1 v2
      have HA := fun W (L : Laid W) (T : Tab W) (E : ErrT W) => all_txt (((ByteArray.mk #[102, 40]) ++ strV [c] ++ (ByteArray.mk #[41])) ++ (ByteArray.mk #[64]) ++ strV [g] ++ (ByteArray.mk #[32, 46])) (tA c g) (by simp only [rd_app, strV_list]; rfl) (by simp [tA]) W L T E k
      have HBB := fun W (L : Laid W) (T : Tab W) (E : ErrT W) => all_txt ((ByteArray.mk #[64, 40]) ++ ((ByteArray.mk #[102, 40]) ++ strV [c] ++ (ByteArray.mk #[41])) ++ (ByteArray.mk #[44, 32]) ++ strV [g] ++ (ByteArray.mk #[41, 46])) (tB c g) (by simp only [rd_app, strV_list]; rfl) (by simp [tB]) W L T E k
      simp only [e1] at HA
      simp only [e2] at HBB
      unfold AllPost at HA HBB
      have HHA := Lib.hid HA
      have HHB := Lib.hid HBB
      clear HA HBB e1 e2
      go_wp2_with (first
      | (go_at_call 9; refine hsh.mono ?_; rintro e W1 ⟨rfl, hb1⟩)
      | (go_at_call 18; refine (hat _).mono ?_; rintro e W2 h4; obtain ⟨k1, m1, s1, a1, l1, c1, rfl, hT1, hb2⟩ := h4.form4; have hw2 : Below w.heap.size w W2 := bel (bel_al (bel_al (bel_al hb1 _) _) _) hb2; have hmk := make_at (ByteArray.mk #[102]) (.slice (some ⟨W2.heap.size, 0, none⟩) 1 1) [.mk 3 0 (strV [c]) []] (W2.alloc (.cells #[.int .i64 k1, .int .i64 m1, .string s1, .slice a1 l1 c1] 30)) (by decide) (one_ts (alloc_new _ _) (by simp) (Has.below (hasNew hT1) (bel_al (Below.refl _ _) _))) (by rw [Tm.sizes_cons, Tm.sizes_nil, Tm.size_mk, Tm.sizes_nil]; decide))
      | (go_at_call 16; refine hmk.mono ?_; rintro e W3 h4; obtain ⟨k3, m3, s3, a3, l3, c3, rfl, hT3, hb3⟩ := h4.form4; have hw3 : Below w.heap.size w (W3.alloc (.cells #[.int .i64 k3, .int .i64 m3, .string s3, .slice a3 l3 c3] 30)) := bel_al (bel (bel_al hw2 _) hb3) _)
      | (go_at_call 10; (with_reducible refine (HHA.out _ (L.later hw3) (T.later hw3) (E.later hw3)).mono ?_); rintro e W4 ⟨rfl, hb4⟩; have hw4 := bel hw3 hb4)
      | (go_at_call 10; (with_reducible refine (HHB.out _ (L.later hw4) (T.later hw4) (E.later hw4)).mono ?_); rintro e W5 ⟨rfl, hb5⟩))
      go_ret
      exact ⟨rfl, bel hw4 hb5⟩
    · have e1 := chk_ok v1 (by omega)
      have e2 := chk_ok v2 (by omega)
      have hjk' : ¬ ((k : Int) ≤ (j : Int)) := by omega
      clear v1 v2
      have HA := fun W (L : Laid W) (T : Tab W) (E : ErrT W) => all_txt (((ByteArray.mk #[102, 40]) ++ strV [c] ++ (ByteArray.mk #[41])) ++ (ByteArray.mk #[64]) ++ strV [g] ++ (ByteArray.mk #[32, 46])) (tA c g) (by simp only [rd_app, strV_list]; rfl) (by simp [tA]) W L T E k
      have HBB := fun W (L : Laid W) (T : Tab W) (E : ErrT W) => all_txt ((ByteArray.mk #[64, 40]) ++ ((ByteArray.mk #[102, 40]) ++ strV [c] ++ (ByteArray.mk #[41])) ++ (ByteArray.mk #[44, 32]) ++ strV [g] ++ (ByteArray.mk #[41, 46])) (tB c g) (by simp only [rd_app, strV_list]; rfl) (by simp [tB]) W L T E k
      simp only [e1] at HA
      simp only [e2] at HBB
      unfold AllPost at HA HBB
      have HHA := Lib.hid HA
      have HHB := Lib.hid HBB
      clear HA HBB e1 e2
      go_wp2_with (first
      | (go_at_call 9; refine hsh.mono ?_; rintro e W1 ⟨rfl, hb1⟩)
      | (go_at_call 18; refine (hat _).mono ?_; rintro e W2 h4; obtain ⟨k1, m1, s1, a1, l1, c1, rfl, hT1, hb2⟩ := h4.form4; have hw2 : Below w.heap.size w W2 := bel (bel_al (bel_al (bel_al hb1 _) _) _) hb2; have hmk := make_at (ByteArray.mk #[102]) (.slice (some ⟨W2.heap.size, 0, none⟩) 1 1) [.mk 3 0 (strV [c]) []] (W2.alloc (.cells #[.int .i64 k1, .int .i64 m1, .string s1, .slice a1 l1 c1] 30)) (by decide) (one_ts (alloc_new _ _) (by simp) (Has.below (hasNew hT1) (bel_al (Below.refl _ _) _))) (by rw [Tm.sizes_cons, Tm.sizes_nil, Tm.size_mk, Tm.sizes_nil]; decide))
      | (go_at_call 16; refine hmk.mono ?_; rintro e W3 h4; obtain ⟨k3, m3, s3, a3, l3, c3, rfl, hT3, hb3⟩ := h4.form4; have hw3 : Below w.heap.size w (W3.alloc (.cells #[.int .i64 k3, .int .i64 m3, .string s3, .slice a3 l3 c3] 30)) := bel_al (bel (bel_al hw2 _) hb3) _)
      | (go_at_call 10; (with_reducible refine (HHA.out _ (L.later hw3) (T.later hw3) (E.later hw3)).mono ?_); rintro e W4 ⟨pa, pcap, rfl, hb4, ht4⟩; have hw4 := bel hw3 hb4)
      | (go_at_call 10; (with_reducible refine (HHB.out _ (L.later hw4) (T.later hw4) (E.later hw4)).mono ?_); rintro e W5 ⟨qa, qcap, rfl, hb5, ht5⟩))
      have hb35 := bel (bel (bel_al (Below.refl W3.heap.size W3) (.cells #[.int .i64 k3, .int .i64 m3, .string s3, .slice a3 l3 c3] 30)) hb4) hb5
      have x13 : W5.heap[W3.heap.size]? = some (.cells #[.int .i64 k3, .int .i64 m3, .string s3, .slice a3 l3 c3] 30 (0, 0)) := (hb5.block _ (Nat.lt_of_lt_of_le (by simp) hb4.size)).trans ((hb4.block _ (by simp)).trans (alloc_new _ _))
      have hl13 : W3.heap.size < W5.heap.size := (Array.getElem?_eq_some_iff.1 x13).1
      have h13 : Has W5 (.agg #[.int .i64 k3, .int .i64 m3, .string s3, .slice a3 l3 c3]) (.mk 3 0 (strV [102]) [.mk 3 0 (strV [c]) []]) := Has.below (show Has W3 _ (.mk 3 0 (strV [102]) [.mk 3 0 (strV [c]) []]) from hasNew hT3) hb35
      obtain ⟨lb, lo, lcap, x0, y0, z0, u0, lu0, cu0, hv, hlb, p0, p1, p2, p3, hL0⟩ := one_has (ht4.below hb5)
      obtain ⟨mb, mo, mcap, x1, y1, z1, u1, lu1, cu1, hv', hmb, r0, r1, r2, r3, hM0⟩ := one_has ht5
      injection hv with hv1 hv2 hv3
      injection hv' with hv1' hv2' hv3'
      subst hv1 hv1' hv3 hv3'
      obtain ⟨e4, e5, -⟩ := tm_head hL0
      have e4' : x0 = 4 := by rw [← e4]; rfl
      have e5' : y0 = (j : Int) := by rw [← e5]; rfl
      subst e4' e5'
      obtain ⟨kb, ko, kcap, x2, y2, z2, u2, lu2, cu2, hvk, hkb, f0, f1, f2, f3, hK0⟩ := one_has (seal_kids hL0)
      injection hvk with hk1 hk2 hk3
      subst hk1 hk2 hk3
      obtain ⟨I, inst, F, m0, hF0, hFb, hFc⟩ := op_later_family W5
      have hFx := fun i => ((hFb i).block W3.heap.size hl13).trans x13
      have t0 := fun i => (tbox_cells (hFx i)).1
      have t1 := fun i => (tbox_cells (hFx i)).2.1
      have t2 := fun i => (tbox_cells (hFx i)).2.2.1
      have t3 := fun i => (tbox_cells (hFx i)).2.2.2
      have cb := fun (bb : Nat) (hbb : bb < W5.heap.size) i (q : Nat) (u : Value) (hq : W5.cell? ⟨bb, q, none⟩ = some u) => (World.cell?_of_block (a := ⟨bb, q, none⟩) ((hFb i).block bb hbb)).trans hq
      have w0 := fun i => cb lb hlb i _ _ p0
      have w1 := fun i => cb lb hlb i _ _ p1
      have w2 := fun i => cb lb hlb i _ _ p2
      have w3 := fun i => cb lb hlb i _ _ p3
      have w4 := fun i => cb mb hmb i _ _ r0
      have w5 := fun i => cb mb hmb i _ _ r1
      have w6 := fun i => cb mb hmb i _ _ r2
      have w7 := fun i => cb mb hmb i _ _ r3
      have w8 := fun i => cb kb hkb i _ _ f0
      have w9 := fun i => cb kb hkb i _ _ f1
      have w10 := fun i => cb kb hkb i _ _ f2
      have w11 := fun i => cb kb hkb i _ _ f3
      have hS1 : Hid (∀ i, Calls Tryz.prog 17 #[.agg #[.int .i64 4, .int .i64 (j : Int), .string z0, .slice (some ⟨kb, ko, none⟩) 1 cu0], .agg #[.int .i64 x1, .int .i64 y1, .string z1, .slice u1 lu1 cu1]] (F i) fun e w'' => e = .returned (.bool true) ∧ ∃ m, w'' = F m) :=
        Lib.hid (fun i => (same_at (sealT c j) (sealT c j) _ _ (F i) (Has.below hL0 (hFb i)) (Has.below hM0 (hFb i)) (by simp [sealT, Tm.size_mk, Tm.sizes_cons, Tm.sizes_nil]) (by simp [sealT, Tm.size_mk, Tm.sizes_cons, Tm.sizes_nil])).mono fun e w' hg => ⟨by rw [hg.1]; simp, hFc i _ hg.2⟩)
      have hS2 : Hid (∀ i, Calls Tryz.prog 17 #[.agg #[.int .i64 x2, .int .i64 y2, .string z2, .slice u2 lu2 cu2], .agg #[.int .i64 k3, .int .i64 m3, .string s3, .slice a3 l3 c3]] (F i) fun e w'' => e = .returned (.bool true) ∧ ∃ m, w'' = F m) :=
        Lib.hid (fun i => (same_at (.mk 3 0 (strV [102]) [.mk 3 0 (strV [c]) []]) (.mk 3 0 (strV [102]) [.mk 3 0 (strV [c]) []]) _ _ (F i) (Has.below hK0 (hFb i)) (Has.below h13 (hFb i)) (by simp [Tm.size_mk, Tm.sizes_cons, Tm.sizes_nil]) (by simp [Tm.size_mk, Tm.sizes_cons, Tm.sizes_nil])).mono fun e w' hg => ⟨by rw [hg.1]; simp, hFc i _ hg.2⟩)
      have HB := Lib.hid (And.intro (bel hw4 hb5) hFb)
      have tm10 : Int.tmod y 10 = (j : Int) := by rw [Int.tmod_eq_emod_of_nonneg (by omega)]; exact hj'
      have wu : IntKind.u8.wrap (j : Int) = (j : Int) := by rw [IntKind.wrap_u8]; omega
      have wi : IntKind.i64.wrap (j : Int) = (j : Int) := by rw [IntKind.wrap_i64]; omega
      clear hFx hFb hFc cb p0 p1 p2 p3 r0 r1 r2 r3 f0 f1 f2 f3 hL0 hM0 hK0 h13 ht4 ht5 x13 hT1 hT3 hmk hat hsh e4 e5 cg cc1 cc2
      refine op_region_fam F m0 hF0 (by kernel_rfl) (by kernel_rfl) ?_
      clear hF0
      repeat (go_big_quiet_step (first | (go_at_call 17; (with_reducible exact hS1.out _)) | (go_at_call 17; (with_reducible exact hS2.out _))))
      refine wpQuiet_nil ?_
      intro _ hw'
      obtain ⟨nq, hw''⟩ := hw'
      subst hw''
      go_wp2_with fail
      go_ret
      exact ⟨rfl, bel HB.out.1 (HB.out.2 nq)⟩
end Go.Proofs.YtcjdkgmcbdcofaaGreatDoor
namespace Go.Proofs.YtcjdkgmcbdcofaaGreatDoor.readerSealsRow
open Go.ChangeShapes Go.WideShapes Go.ChangeAt Go.RowKit
open Go.ChangeMaps (open_string shut_string)
set_option linter.unusedVariables false
set_option maxRecDepth 100000

theorem reads (os : Os) {H : Type} (enc : TypeId × Value → H) : ∃ places, DataW.whole enc Tryz.prog ((World.doorLaid Tryz.prog 100 os).forCall (fun _ _ => 0) ⟨#[], #[.int .u8 0, .int .u8 0, .int .u8 0, .bool false], []⟩).memory Tryz.f8.params.toList Rows.readerSealsSpec.vars false (#[.int .u8 0, .int .u8 0, .int .u8 0, .bool false] : Array Value).toList 8 = some ([.lit (.int .u8 0), .lit (.int .u8 0), .lit (.int .u8 0), .lit (.bool false)], [], places) :=
  ⟨[], by kernel_rfl⟩

theorem lifted (os : Os) (started : os.Started) (H : Type) (enc : TypeId × Value → H) (F : Stop.Interp) :
    ReturnsInHanded {} Tryz.checked os 8 .any ((OpenSpec.ofChange Rows.readerSealsSpec).preRow enc Tryz.prog Tryz.f8 Rows.readerSealsRow.domain false Rows.readerSealsRow.laid) (((OpenSpec.ofChange Rows.readerSealsSpec).at F).post enc Tryz.prog Tryz.f8 false true false false) := by
  obtain ⟨places, hx⟩ := reads os enc
  refine returnsInHanded_of_row (C := Tryz.checked) (s := (OpenSpec.ofChange Rows.readerSealsSpec)) own started (by kernel_rfl) Tryz.func8
    (witness_row_atRef (enc := enc) (C := Tryz.checked) false (World.doorLaid Tryz.prog 100 os) #[.int .u8 0, .int .u8 0, .int .u8 0, .bool false] rfl (by kernel_rfl) (by kernel_rfl) (by kernel_rfl)
      (OpenSpec.preRow_of_cond 8 hx (by kernel_rfl) (fun k hk => by cases hk) (by kernel_rfl) (door_met7 os _))) ?_
  intro W base args ds gs before hval hW _ hcond _ hL _ _
  have hW' := hW
  obtain ⟨p, q, hA0, hV, rfl, hfz, hnd⟩ := hW
  have hA : DataW.TrodAll enc Tryz.prog W 0 (fun _ => true) true Tryz.f8.params.toList args.toList ds p := hA0
  have hval' : ∀ (j : Nat) t v, Tryz.f8.params[j]? = some t → args[j]? = some v → Value.okWide Tryz.prog W .any base t v := hval
  rw [Tryz.params8] at hA hval'
  obtain ⟨v0, vs0, d0, ds0, p0, q0, hargs, rfl, rfl, h0, r0⟩ := trodAll_cons hA
  obtain ⟨v1, vs1, d1, ds1, p1, q1, rfl, rfl, rfl, h1, r1⟩ := trodAll_cons r0
  obtain ⟨v2, vs2, d2, ds2, p2, q2, rfl, rfl, rfl, h2, r2⟩ := trodAll_cons r1
  obtain ⟨v3, vs3, d3, ds3, p3, q3, rfl, rfl, rfl, h3, r3⟩ := trodAll_cons r2
  obtain ⟨rfl, rfl, rfl⟩ := trodAll_nil r3
  obtain rfl : args = #[v0, v1, v2, v3] := by cases args; simp_all
  obtain ⟨rfl, rfl⟩ := trodVars_none hV
  obtain ⟨a0, rfl, rfl, rfl, wf0⟩ := open_int Tryz.underlying5 (hval' 0 5 v0 rfl rfl) h0
  have wb0 := bounds_u8 wf0
  obtain ⟨a1, rfl, rfl, rfl, wf1⟩ := open_int Tryz.underlying5 (hval' 1 5 v1 rfl rfl) h1
  have wb1 := bounds_u8 wf1
  obtain ⟨a2, rfl, rfl, rfl, wf2⟩ := open_int Tryz.underlying5 (hval' 2 5 v2 rfl rfl) h2
  have wb2 := bounds_u8 wf2
  obtain ⟨a3, rfl, rfl, rfl⟩ := open_bool Tryz.underlying4 (hval' 3 4 v3 rfl rfl) h3
  clear hA0 hval
  simp only [List.append_nil] at hW'
  refine (seals_at a0 a1 a2 a3 wb0 wb1 wb2 W (laid_of7 hL).1 (laid_of7 hL).2.1 (laid_of7 hL).2.2).mono fun e W' ⟨he, bel⟩ => ?_
  subst he
  exact ⟨_, rfl, _, _, _, [], _, [], hW', trodAll_mk1 (shut_bool Tryz.underlying4 _), (trodAll_cons_mk (shut_int Tryz.underlying5 wf0) (trodAll_cons_mk (shut_int Tryz.underlying5 wf1) (trodAll_cons_mk (shut_int Tryz.underlying5 wf2) (trodAll_cons_mk (shut_bool Tryz.underlying4 a3) trodAll_mk0)))), rfl, bel.frame _, fun h => by cases h⟩
end Go.Proofs.YtcjdkgmcbdcofaaGreatDoor.readerSealsRow
namespace Go.Proofs.YtcjdkgmcbdcofaaGreatDoor
open Go.ChangeShapes Go.WideShapes Go.ChangeAt Go.RowKit
open Go.ChangeMaps (open_string shut_string)
set_option linter.unusedVariables false
set_option maxRecDepth 100000

theorem readerSeals_said : Rows.ReaderSealsSaid :=
  OpenClaim.holds_of_cond 8 Tryz.f8 rfl rfl rfl rfl rfl rfl rfl ⟨rfl, rfl, rfl, rfl, rfl⟩ rfl rfl rfl rfl rfl (by kernel_rfl) Tryz.func8 (by kernel_rfl)
    (of_decide_eq_true (by kernel_rfl)) (by unfold Func.isWrapper; first | (rw [if_pos (by decide +kernel)]; kernel_rfl) | (rw [if_neg (by decide +kernel)]; exact ⟨rfl, rfl⟩))
    (fun os started H enc _ F => by rw [OpenClaim.pre_eq_preRow]; exact readerSealsRow.lifted os started H enc F)
theorem readerSeals_plain (f : FuncId) (fn : Func) (hf : Tryz.pinned.checked.prog.funcNamed "torchere/torcherelaw07.ReaderSeals" = some f) (hfn : Tryz.pinned.checked.prog.funcs[f]? = some fn) :
    true = Tryz.pinned.checked.prog.looks [] ∧ ∀ (j : Nat) t, fn.params[j]? = some t → Tryz.pinned.checked.prog.wantsStandIn t = false := by
  obtain rfl : f = 8 := Option.some.inj ((show Tryz.prog.funcNamed "torchere/torcherelaw07.ReaderSeals" = some 8 by kernel_rfl).symm.trans hf) |>.symm
  obtain rfl : fn = Tryz.f8 := (Option.some.inj (Tryz.func8.symm.trans hfn)).symm
  refine ⟨by kernel_rfl, fun j t ht => ?_⟩
  rw [Tryz.params8] at ht
  have hm : t = 5 ∨ t = 5 ∨ t = 5 ∨ t = 4 := by
    have := Array.mem_of_getElem? ht
    simpa using this
  rcases hm with rfl | rfl | rfl | rfl
  · exact (show Tryz.prog.wantsStandIn 5 = false by kernel_rfl)
  · exact (show Tryz.prog.wantsStandIn 5 = false by kernel_rfl)
  · exact (show Tryz.prog.wantsStandIn 5 = false by kernel_rfl)
  · exact (show Tryz.prog.wantsStandIn 4 = false by kernel_rfl)
theorem readerSeals_card : Rows.ReaderSealsCardSaid :=
  Claim7.holds_tied_plain_at .later [] _ _ _ _ readerSeals_said (fun _ h => by cases h) (by kernel_rfl) (fun _ h => by cases h) readerSeals_row_tie rfl ⟨rfl, rfl⟩ (by kernel_rfl) rfl readerSeals_plain (by kernel_rfl)
#print axioms readerSeals_card
end Go.Proofs.YtcjdkgmcbdcofaaGreatDoor
