/-
  unify.Unify; what the laws of layer 11 begin with: levels, a store of twelve variables, terms that may be.
-/
import Derived.Test.YtfjnajngelemkaaZUniH
import Derived.Test.YtfjnajngelemkaaZOwnn3
import Derived.Test.YtfjnajngelemkaaZSeal5
import Derived.Test.YtfjnajngelemkaaZRefCn2
import Derived.BigQuiet
namespace Go.Proofs.Ytfjnajngelemkaa
open Go.RowKit Go.Shelf
open Classical
set_option linter.unusedVariables false
set_option linter.unusedSimpArgs false

set_option maxRecDepth 100000 in
set_option maxHeartbeats 4000000 in
theorem unify_at {n₀ N : Nat} {w : World} {b lb : Nat} {V L : Value} {σ : St} (h : StAt (Oth w b V L) n₀ w b V L σ) (hn₀ : n₀ ≤ w.heap.size) (hL : ChainAt w lb N) (hLo : Oth w b V L lb) (hgs : σ.Gv N) (u v : Value) (A B : Tm)
    (hu : TmIn (Oth w b V L) w u A) (hv : TmIn (Oth w b V L) w v B) (hgA : GV N A) (hgB : GV N B) (hs : A.size ≤ 2000000) (ht : B.size ≤ 2000000) :
    Calls Try.prog 17 #[.pointer (some ⟨b, 0, none⟩), .pointer (some ⟨lb, 0, none⟩), u, v] w (MatchP n₀ w b V L (run N 2000 σ [(A, B)] 0)) := by
  obtain ⟨k1, n1, s1, a1, l1, c1, ks1, rfl, eA, -⟩ := hu.form
  obtain ⟨k2, n2, s2, a2, l2, c2, ks2, rfl, eB, -⟩ := hv.form
  clear eA eB
  obtain ⟨w2, hw2⟩ : ∃ w2, w2 = (w.alloc (.cells #[.int .i64 k1, .int .i64 n1, .string s1, .slice a1 l1 c1] 24)).alloc (.cells #[.int .i64 k2, .int .i64 n2, .string s2, .slice a2 l2 c2] 24) := ⟨_, rfl⟩
  have hb2 : Below w.heap.size w w2 := by rw [hw2]; exact ((Below.refl _ w).alloc (Nat.le_refl _) _).alloc (by simp) _
  have hx1 : w2.heap[w.heap.size]? = some (.cells #[.int .i64 k1, .int .i64 n1, .string s1, .slice a1 l1 c1] 24 (0, 0)) := by rw [hw2]; exact (Below.heap_alloc _ _ _ (by simp)).trans (World.alloc_heap_new _ _)
  have hx2 : w2.heap[w.heap.size + 1]? = some (.cells #[.int .i64 k2, .int .i64 n2, .string s2, .slice a2 l2 c2] 24 (0, 0)) := by rw [hw2]; simpa using World.alloc_heap_new (w.alloc (.cells #[.int .i64 k1, .int .i64 n1, .string s1, .slice a1 l1 c1] 24)) (.cells #[.int .i64 k2, .int .i64 n2, .string s2, .slice a2 l2 c2] 24)
  have hs2 : w2.heap.size = w.heap.size + 2 := by rw [hw2]; simp
  obtain ⟨w3, hw3⟩ : ∃ w3, w3 = w2.alloc (.cells #[.int .i64 k1, .int .i64 n1, .string s1, .slice a1 l1 c1] 24) := ⟨_, rfl⟩
  have hb23 : Below w2.heap.size w2 w3 := by rw [hw3]; exact (Below.refl _ _).alloc (Nat.le_refl _) _
  have hx2' := tbox_below hx2 hb23
  obtain ⟨w4, hw4⟩ : ∃ w4, w4 = w3.alloc (.cells #[.int .i64 k2, .int .i64 n2, .string s2, .slice a2 l2 c2] 24) := ⟨_, rfl⟩
  have hb34 : Below w3.heap.size w3 w4 := by rw [hw4]; exact (Below.refl _ _).alloc (Nat.le_refl _) _
  have hb3 : Below w.heap.size w w3 := hb2.trans (hb23.mono hb2.size)
  have hb4 : Below w.heap.size w w4 := hb3.trans (hb34.mono hb3.size)
  have tA : TsIn (Oth w4 b V L) w4 (.slice (some ⟨w2.heap.size, 0, none⟩) 1 1) [A] := by
    have h1 := one_ts (q := Oth w3 b V L) (hu.carry (q := Oth w2 b V L) (fun c hc => hb2.block c hc.1) (fun c hc => hc.below hb2)) (fun c hc => hc.1) (fun c hc => by rw [hw3]; exact ⟨by have := hc.1; simp; omega, hc.2⟩) (by have := h.fresh (w' := w3) (c := w2.heap.size) ⟨by omega, by rw [hw3]; simp⟩; exact this)
    rw [← hw3] at h1
    exact h1.carry (fun c hc => hb34.block c hc.1) (fun c hc => hc.below hb34)
  have tB : TsIn (Oth w4 b V L) w4 (.slice (some ⟨w3.heap.size, 0, none⟩) 1 1) [B] := by
    have h1 := one_ts (q := Oth w4 b V L) (hv.carry (q := Oth w3 b V L) (fun c hc => hb3.block c hc.1) (fun c hc => hc.below hb3)) (fun c hc => hc.1) (fun c hc => hc.below hb34) (by have := h.fresh (w' := w4) (c := w3.heap.size) ⟨hb3.size, by rw [hw4]; simp⟩; exact this)
    rw [← hw4] at h1
    exact h1
  have hM := match_at (h.step hb4) (Nat.le_trans hn₀ hb4.size) (hL.below hb4) (hLo.below hb4) hgs _ _ [A] [B] tA tB ⟨rfl, fun t ht' => by rw [List.mem_singleton.1 ht']; exact ⟨hgA, hs⟩, fun t ht' => by rw [List.mem_singleton.1 ht']; exact ⟨hgB, ht⟩⟩
  have hMb := Mut.of_below (b := b) (V := V) (L := L) hb4
  obtain ⟨x0, x1, x2, x3⟩ := tbox_cells hx1
  obtain ⟨y0, y1, y2, y3⟩ := tbox_cells hx2'
  rw [show [A].zip [B] = [(A, B)] from rfl] at hM
  generalize run N 2000 σ [(A, B)] 0 = R at hM ⊢
  have hs3 : w3.heap.size = w2.heap.size + 1 := by rw [hw3]; simp
  rw [hs3] at hM
  rw [hw3] at y0 y1 y2 y3
  have HW2 := Lib.hid hw2
  have HW3 := Lib.hid hw3
  have HW4 := Lib.hid hw4
  have HM := Lib.hid hMb
  clear hMb h hn₀ hL hLo hgs hu hv hgA hgB hs ht hb2 hx1 hx2 hs2 hb23 hx2' hb34 hb3 hb4 tA tB hw2 hw3 hw4 hs3
  unfold MatchP at hM
  go_enter Try.func17, Try.ntmps17
  go_upto_region 1 with fail
  rw [← HW2.out]
  go_wp2_with (go_at_call 25; rw [← HW3.out, ← HW4.out]; refine hM.mono ?_; clear hM; rintro e w5 ⟨rfl, L', hS5, hM5⟩)
  refine bodyPost_ret (v := .tuple #[.bool R.is, .int .i64 (R.lv : Int), .int .i64 R.err]) (by simp [results, Try.f17, go_sem]) rfl ?_
  exact ⟨rfl, L', hS5, HM.out.trans hM5⟩

set_option maxRecDepth 100000 in
set_option maxHeartbeats 1000000 in
/-- torcherelaw11.chain, and latt.New of what it gives. -/
theorem chain11_at (k : Nat) (w : World) (hk1 : k < 16) : Calls Try.prog 14 #[.int .i64 ((k : Int) + 1)] w fun e w' =>
    ∃ v, e = .returned v ∧ OwnPairs w' w.heap.size v (chain k) ∧ Below w.heap.size w w' := by
  go_enter Try.func14, Try.ntmps14
  go_wp2_with fail
  go_loopw [3, 4] (fun v i wr => ∃ j : Nat, j ≤ k ∧ i = .int .i64 ((j : Int) + 1) ∧ OwnPairs wr w.heap.size v (chain j) ∧ Below w.heap.size w wr) (fun _ i _ => k + 1 - (intOf i).toNat)
  case atStart => exact ⟨0, Nat.zero_le _, rfl, OwnPairs.nil _ _, Below.refl _ _⟩
  case round =>
    obtain ⟨j, hj, rfl, hown, hbr⟩ := hrel
    have hl : (chain j).length ≤ 16 := by rw [chain_length]; omega
    by_cases hlt : j < k
    · go_wp2_with (first | (at_builtin; refine wpList_append_pairs rfl _ _ rfl w.heap.size _ (chain j) rfl (hown.alloc _) (some ⟨wr.heap.size, 0, none⟩) 1 [((j : Int), (j : Int) + 1)] 1 rfl rfl ?c1 ?c2 ?c3 ?c4 ?_))
      case c1 => exact PairsAt.lit1 wr _ _
      case c2 => intro h; cases h
      case c3 => simp; omega
      case c4 => have := hbr.size; simp; omega
      · intro v' w3 hown' hgrow
        have HO : Hid (OwnPairs w3 w.heap.size v' (chain (j + 1))) := hown'
        have HB3 : Hid (Below w.heap.size w w3) := (hbr.alloc hbr.size _).grown hgrow (by simp; have := hbr.size; omega) (OwnPairs.lt hown)
        clear hown' hgrow hown hbr
        go_wp2
        go_roundw
        case rel => exact ⟨j + 1, by omega, by go_num, HO.out, HB3.out⟩
        case measure => simp [intOf]; omega
    · obtain rfl : k = j := by omega
      have HO := Lib.hid (And.intro hown hbr)
      obtain ⟨sa, cap, rfl, -⟩ := hown.pairs
      clear hown hbr
      go_wp2_with fail
      go_ret
      exact ⟨_, rfl, HO.out.1, HO.out.2⟩
theorem latt11_at (k : Nat) (v : Value) (w0 w : World) (hk1 : k < 16) (hown : OwnPairs w w0.heap.size v (chain k)) : Calls Try.prog 13 #[.int .i64 ((k : Int) + 1), v] w fun e w' =>
    ∃ b, e = .returned (.tuple #[.pointer (some ⟨b, 0, none⟩), .int .i64 0]) ∧ ChainAt w' b (k + 1) ∧ Below w.heap.size w w' := by
  obtain ⟨sa, cap, rfl, hc1, hc2, hc3, hp⟩ := hown.pairs
  have hl2 : (chain k).length ≤ maxLen := by rw [chain_length]; unfold maxLen; omega
  refine (new_at ((k + 1 : Nat) : Int) sa cap (chain k) w hl2 hp).mono ?_
  intro e w3 hpost
  obtain ⟨hb3, lb, U, D, hlb, rfl, M⟩ := NewPost.ok hpost (by have := good_chain (k + 1) k (by omega); simp [okArgs]; exact ⟨by omega, this⟩) (fun U D h => chain_lat hk1 h)
  exact ⟨lb, rfl, chain_made hk1 M, hb3⟩

theorem StAt.base {p : Nat → Prop} {n₀ m : Nat} {w : World} {b : Nat} {V L : Value} {σ : St} (h : StAt p m w b V L σ) (hn : n₀ ≤ m) : StAt p n₀ w b V L σ := by
  obtain ⟨xs, h1, h2⟩ := h.rV
  obtain ⟨r1, r2⟩ := h1
  refine ⟨h.box, Nat.le_trans hn h.lo, h.sub, ⟨xs, ⟨r1, ?_⟩, h2⟩, ?_, h.ok⟩
  · rcases r2 with r2 | ⟨g, cap, cur, e, hg, r⟩
    · exact .inl r2
    · exact .inr ⟨g, cap, cur, e, Nat.le_trans hn hg, r⟩
  · rcases h.rL with r | ⟨g, cap, cur, e, hg, r⟩
    · exact .inl r
    · exact .inr ⟨g, cap, cur, e, Nat.le_trans hn hg, r⟩
set_option maxRecDepth 100000 in
/-- torcherelaw11.vars. -/
theorem vars11_at (w : World) (n₀ : Nat) (hn : n₀ ≤ w.heap.size) : Calls Try.prog 15 #[] w fun e w' => e = .returned (.pointer (some ⟨w.heap.size, 0, none⟩)) ∧ ∃ V L, StAt (Oth w' w.heap.size V L) n₀ w' w.heap.size V L ((St.mk [] []).fresh 12) ∧ Below w.heap.size w w' := by
  have hnew := new_at10 w w.heap.size (Nat.le_refl _)
  go_enter Try.func15, Try.ntmps15
  go_wp2_with fail
  refine hnew.mono ?_
  rintro e w1 ⟨rfl, hB1, hlt1, hS1⟩
  have H1 := Lib.hid (And.intro hB1 hS1)
  clear hB1 hS1 hlt1 hnew
  go_wp2_with fail
  refine (fresh_at10 H1.out.2 H1.out.1.size 12 (by decide)).mono ?_
  rintro e w2 ⟨rfl, V2, hS2, hM2⟩
  have H2 := Lib.hid (And.intro hS2 (H1.out.1.trans (Mut.below H1.out.2 hM2 H1.out.1.size)))
  clear hS2 hM2 H1
  go_wp2_with fail
  go_ret
  exact ⟨rfl, V2, _, H2.out.1.base hn, H2.out.2⟩

/-- What the laws' may tells. -/
noncomputable def Tm.may11 (T : Tm) : Bool := decide ((∀ x ∈ T.vars, x < 12) ∧ T.size ≤ 200 ∧ T.check 9 = 0)
theorem may_gv {T : Tm} (h : T.may11 = true) : GV 9 T ∧ T.size ≤ 200 ∧ ∀ x ∈ T.vars, x < 12 := by
  obtain ⟨h1, h2, h3⟩ := of_decide_eq_true h
  refine ⟨gv_of_valid (N := 9) T ?_, h2, h1⟩
  unfold Tm.check at h3
  split at h3
  · cases h3
  · split at h3
    · cases h3
    · split at h3
      · assumption
      · cases h3

set_option maxRecDepth 100000 in
set_option maxHeartbeats 4000000 in
theorem rvars11_at (v : Value) (T : Tm) (w : World) (hv : Has w v T) (hs : T.size ≤ 1000000000) : Calls Try.prog 48 #[v] w fun e w' => ∃ r, e = .returned r ∧ IntsAt w' r T.vars ∧ Below w.heap.size w w' := (rvars_at v T w hv hs).mono fun e w' h => by
  obtain ⟨a, c, h1, h2, h3⟩ := h
  exact ⟨_, h1, h2, h3⟩
set_option maxRecDepth 100000 in
set_option maxHeartbeats 4000000 in
theorem few11_at (v : Value) (T : Tm) (w : World) (hv : Has w v T) (hs : T.size ≤ 1000000000000) :
    Calls Try.prog 49 #[v] w (Gets w (.bool (decide (T.size ≤ 200)))) := by
  obtain ⟨k, n, s, a, len, cap, ks, rfl, e, -⟩ := hv.form
  clear e
  have hb : Below w.heap.size w (w.alloc (.cells #[.int .i64 k, .int .i64 n, .string s, .slice a len cap] 24)) := (Below.refl _ w).alloc (Nat.le_refl _) _
  have h := (rsize_at T _ _ (Has.below hv hb) hs).mono (R' := Gets w (.int .i64 (T.size : Int))) (fun e w2 h => ⟨h.1, hb.trans (h.2.mono hb.size)⟩)
  clear hv hb
  go_enter Try.func49, Try.ntmps49
  go_wp2_with (go_at_call 63; refine h.mono ?_; clear h; rintro e w2 ⟨rfl, hB⟩)
  go_ret
  refine ⟨congrArg (fun b => Ending.returned (Value.bool b)) ?_, hB⟩
  rw [Bool.eq_iff_iff]
  simp
  omega

set_option maxRecDepth 100000 in
set_option maxHeartbeats 8000000 in
theorem may11_at (v : Value) (T : Tm) (w : World) (hv : Has w v T) (hs : T.size ≤ 1000000000) : Calls Try.prog 16 #[v] w (Gets w (.bool T.may11)) := by
  obtain ⟨k, n, s, a, len, cap, ks, rfl, e, -⟩ := hv.form
  clear e
  obtain ⟨w1, hw1⟩ : ∃ w1, w1 = w.alloc (.cells #[.int .i64 k, .int .i64 n, .string s, .slice a len cap] 24) := ⟨_, rfl⟩
  have hb1 : Below w.heap.size w w1 := by rw [hw1]; exact (Below.refl _ w).alloc (Nat.le_refl _) _
  have hx1 : w1.heap[w.heap.size]? = some (.cells #[.int .i64 k, .int .i64 n, .string s, .slice a len cap] 24 (0, 0)) := by rw [hw1]; exact World.alloc_heap_new _ _
  obtain ⟨x0, x1, x2, x3⟩ := tbox_cells hx1
  have hv1 := Has.below hv hb1
  have hvars := rvars11_at _ T w1 hv1 hs
  have HW := Lib.hid hw1
  have H1 := Lib.hid (And.intro hb1 (And.intro hx1 hv1))
  clear hb1 hx1 hv1 hv hw1
  go_enter Try.func16, Try.ntmps16
  go_upto_region 1 with fail
  rw [← HW.out]
  go_upto_region 2 with (go_at_call 48; refine hvars.mono ?_; clear hvars; rintro e w2 ⟨r, rfl, hI, hb2⟩)
  have hx2 := tbox_below H1.out.2.1 hb2
  have hv2 := Has.below H1.out.2.2 hb2
  obtain ⟨ra, rc, rfl, hc1, hc2, hc3, hx⟩ := id hI
  have H2 := Lib.hid (And.intro (H1.out.1.trans (hb2.mono H1.out.1.size)) (And.intro hx2 hv2))
  obtain ⟨m, hm⟩ : ∃ m, m = T.vars.length := ⟨_, rfl⟩
  have hm63 : (m : Int) ≤ 9223372036854775807 := by unfold maxLen at hc2; omega
  have HI := Lib.hid (And.intro hx hm)
  rw [← hm]
  clear hb2 hx2 hv2 hI hx hc1 hc2 hc3 H1 hm x0 x1 x2 x3
  go_wp2_with fail
  go_loopw [4] (fun i wr => ∃ c : Nat, i = .int .i64 (c : Int) ∧ c ≤ m ∧ Hid (∀ (j : Nat) (x : Int), j < c → T.vars[j]? = some x → x < 12) ∧ wr = w2) (fun i _ => m - (intOf i).toNat)
  case atStart => exact ⟨0, rfl, Nat.zero_le _, (fun j x h => absurd h (Nat.not_lt_zero _)), rfl⟩
  case round =>
    obtain ⟨c, rfl, hcl, hall, rfl⟩ := hrel
    by_cases hlt : c < m
    · obtain ⟨hx, hm⟩ := id HI.out
      have hlt' : c < T.vars.length := by omega
      obtain ⟨b, o, rfl, hb, hcell⟩ := hx c hlt'
      obtain ⟨x, hxe⟩ : ∃ x, T.vars[c] = x := ⟨_, rfl⟩
      rw [hxe] at hcell
      have hget : T.vars[c]? = some x := by rw [List.getElem?_eq_getElem hlt', hxe]
      have hci : (c : Int) < (m : Int) := by omega
      have hc0 : (0 : Int) ≤ (c : Int) := by omega
      have hw1 : IntKind.i64.wrap ((c : Int) + 1) = (c : Int) + 1 := by rw [IntKind.wrap_i64]; omega
      have HGE := Lib.hid (And.intro hget hlt')
      clear hx hm hlt' hxe hget hb
      by_cases hx12 : x < 12
      · have hnot : ¬ (x ≥ 12) := by omega
        have hd12 : decide (x ≥ 12) = false := decide_eq_false hnot
        have HX12 := Lib.hid hx12
        clear hx12
        go_wp2_with fail
        refine ⟨⟨c + 1, by simp, hlt, fun j y hj hy => ?_, by first | rfl | trivial⟩, by simp [intOf]; omega⟩
        rcases Nat.lt_succ_iff_lt_or_eq.1 hj with h | rfl
        · exact hall.out j y h hy
        · rw [HGE.out.1] at hy; cases hy; exact HX12.out
      · have hyes : x ≥ 12 := by omega
        have hd12 : decide (x ≥ 12) = true := decide_eq_true hyes
        have hno : T.may11 = false := decide_eq_false (fun h => hx12 (h.1 x (List.mem_of_getElem? HGE.out.1)))
        have HNO := Lib.hid hno
        clear hx12 hno
        go_wp2_with fail
        go_ret
        exact ⟨by rw [HNO.out]; rfl, H2.out.1⟩
    · have hcm : c = m := by omega
      subst hcm
      have hall' : ∀ x ∈ T.vars, x < 12 := fun x hx => by
        obtain ⟨j, hj⟩ := List.getElem?_of_mem hx
        exact hall.out j x (by rw [HI.out.2]; exact (List.getElem?_eq_some_iff.1 hj).1) hj
      have hmay : T.may11 = decide (T.size ≤ 200 ∧ T.check 9 = 0) := by
        unfold Tm.may11
        rw [decide_eq_decide]
        exact ⟨fun h => h.2, fun h => ⟨hall', h⟩⟩
      have HMAY := Lib.hid hmay
      obtain ⟨x0, x1, x2, x3⟩ := tbox_cells H2.out.2.1
      have hfew := few11_at _ T wr H2.out.2.2 (by omega)
      have hchk : ∀ w', Below wr.heap.size wr w' → Calls Try.prog 31 #[.agg #[.int .i64 k, .int .i64 n, .string s, .slice a len cap], .int .i64 9] w' (Gets w' (.int .i64 (T.check 9))) := fun w' hb => check_at _ T 9 w' (Has.below H2.out.2.2 hb) (by omega)
      have hnlt : ¬ ((c : Int) < (c : Int)) := by omega
      have hx4 := H2.out.2.1
      clear hall hall' hmay hlt hcl
      by_cases hsz : T.size ≤ 200
      · rw [decide_eq_true hsz] at hfew
        have HSZ := Lib.hid hsz
        clear hsz
        go_wp2_with (first
          | (go_at_call 31; (with_reducible refine (hchk _ hb3).mono ?_); rintro e w4 ⟨rfl, hb4⟩)
          | (go_at_call 49; (with_reducible refine hfew.mono ?_); rintro e w3 ⟨rfl, hb3⟩; obtain ⟨x0, x1, x2, x3⟩ := tbox_cells (tbox_below hx4 hb3)))
        go_ret
        refine ⟨congrArg (fun b => Ending.returned (Value.bool b)) ?_, (H2.out.1.trans (hb3.mono H2.out.1.size)).trans (hb4.mono (Nat.le_trans H2.out.1.size hb3.size))⟩
        rw [HMAY.out, Bool.eq_iff_iff]
        simp [HSZ.out]
      · rw [decide_eq_false hsz] at hfew
        have HNF := Lib.hid (HMAY.out.trans (decide_eq_false (fun h => hsz h.1)))
        clear hsz
        go_wp2_with (go_at_call 49; (with_reducible refine hfew.mono ?_); rintro e w3 ⟨rfl, hb3⟩)
        go_ret
        exact ⟨by rw [HNF.out]; rfl, H2.out.1.trans (hb3.mono H2.out.1.size)⟩
end Go.Proofs.Ytfjnajngelemkaa

namespace Go.Proofs.Ytfjnajngelemkaa
open Go.RowKit Go.Shelf
open Classical
set_option linter.unusedVariables false
set_option linter.unusedSimpArgs false

theorem stp_fun {N : Nat} (σ : St) (s : ByteArray) (ks ls : List Tm) (hl : ks.length = ls.length) : σ.stp N (σ.fin (.mk 3 0 s ks)) (σ.fin (.mk 3 0 s ls)) = ⟨ks.zip ls, 0, true, σ⟩ := by
  have w1 : ∀ us : List Tm, (Tm.mk 3 0 s us).wrapsT = false := fun us => decide_eq_false (p := (3 : Int) = 4 ∧ us.length = 1) (fun e => absurd e.1 k34)
  rw [fin_non (T := .mk 3 0 s ks) k31, fin_non (T := .mk 3 0 s ls) k31]
  unfold St.stp
  rw [openC_neg (w1 ks), openC_neg (w1 ls), if_neg (fun e => e.elim (fun e => absurd e k31) (fun e => absurd e k31)), if_neg (fun e => absurd e.1 k32), if_pos ⟨rfl, rfl, rfl, hl⟩]
  rfl
theorem bindE_of {σ : St} {n : Nat} {T : Tm} (h : σ.vs[n]? = some none) (hM : ¬ Met σ (n : Int) T) : σ.bindE (n : Int) T = 0 := by
  have hlt := (List.getElem?_eq_some_iff.1 h).1
  unfold St.bindE
  rw [if_neg (fun e => e ⟨by omega, by omega⟩), if_neg (fun e => by obtain ⟨U, hU⟩ := e; rw [St.look_nat, h] at hU; cases hU), if_neg hM]
theorem val_free {σ : St} {n : Nat} (h : σ.vs[n]? = some none) : σ.val (.mk 1 (n : Int) e0 []) = none := by
  show (if (1 : Int) = 1 then σ.look (n : Int) else none) = none
  rw [if_pos rfl, St.look_nat, h]; rfl
theorem stp_bindL {N : Nat} {σ : St} {n : Nat} {B : Tm} (h : σ.vs[n]? = some none) (hB : B.kind ≠ 1) (hM : ¬ Met σ (n : Int) B) : σ.stp N (σ.fin (.mk 1 (n : Int) e0 [])) (σ.fin B) = ⟨[], 0, true, σ.bind n B⟩ := by
  rw [fin_non hB, St.fin_free (val_free h)]
  unfold St.stp
  rw [if_pos (.inl rfl), link_a (fun e => hB e.2.1) rfl]
  show Stp.mk [] 0 (decide (σ.bindE (n : Int) B = 0)) (σ.bnd (n : Int) B) = _
  unfold St.bnd
  rw [bindE_of h hM, if_pos rfl]
  rfl
theorem stp_bindR {N : Nat} {σ : St} {n : Nat} {A : Tm} (h : σ.vs[n]? = some none) (hA : A.kind ≠ 1) (hM : ¬ Met σ (n : Int) A) : σ.stp N (σ.fin A) (σ.fin (.mk 1 (n : Int) e0 [])) = ⟨[], 0, true, σ.bind n A⟩ := by
  rw [fin_non hA, St.fin_free (val_free h)]
  unfold St.stp
  rw [if_pos (.inr rfl), link_b hA]
  show Stp.mk [] 0 (decide (σ.bindE (n : Int) A = 0)) (σ.bnd (n : Int) A) = _
  unfold St.bnd
  rw [bindE_of h hM, if_pos rfl]
  rfl
theorem met_box {σ : St} {v : Int} {t : Tm} {l : Int} : ¬ Met σ v (putT t l) := by
  rintro ⟨n, h⟩
  cases h with
  | var _ h1 _ => exact absurd h1 k41
  | bound h _ => exact absurd (St.val_some h).1 k41
  | kid _ h4 _ _ => exact h4 rfl
theorem met_atom {σ : St} {v : Int} {s : ByteArray} : ¬ Met σ v (.mk 3 0 s []) := by
  rintro ⟨n, h⟩
  cases h with
  | var _ h1 _ => exact absurd h1 k31
  | bound h _ => exact absurd (St.val_some h).1 k31
  | kid _ _ hU _ => cases hU

def exB11 : Tm := .mk 3 0 (ByteArray.mk #[98]) []
def exX (n : Nat) : Tm := .mk 1 (n : Int) e0 []
def exF1 : Tm := .mk 3 0 (ByteArray.mk #[102]) [exX 0, exB11]
def exF2 : Tm := .mk 3 0 (ByteArray.mk #[102]) [putT exA10 1, exX 1]
def exF3 : Tm := .mk 3 0 (ByteArray.mk #[102]) [putT exA10 1]
def exF4 : Tm := .mk 3 0 (ByteArray.mk #[102]) [exA10]
def τ11 : St := (σ2.bind 0 (putT exA10 1)).bind 1 exB11
theorem run_ex1 : run 4 2000 σ2 [(exF1, exF2)] 0 = ⟨true, 0, 0, τ11⟩ := by
  show run 4 (1997 + 1 + 1 + 1) σ2 [(exF1, exF2)] 0 = _
  have e1 : σ2.stp 4 (σ2.fin exF1) (σ2.fin exF2) = ⟨[(exX 0, putT exA10 1), (exB11, exX 1)], 0, true, σ2⟩ := stp_fun σ2 _ _ _ rfl
  rw [run_succ]
  simp only [e1, if_true, List.append_nil]
  have e2 : σ2.stp 4 (σ2.fin (exX 0)) (σ2.fin (putT exA10 1)) = ⟨[], 0, true, σ2.bind 0 (putT exA10 1)⟩ := stp_bindL (n := 0) rfl k41 met_box
  rw [run_succ]
  simp only [e2, if_true, List.nil_append]
  have e3 : (σ2.bind 0 (putT exA10 1)).stp 4 ((σ2.bind 0 (putT exA10 1)).fin exB11) ((σ2.bind 0 (putT exA10 1)).fin (exX 1)) = ⟨[], 0, true, τ11⟩ := stp_bindR (n := 1) rfl k31 met_atom
  rw [run_succ]
  simp only [e3, if_true, List.nil_append]
  rw [run_nil]
  rfl
theorem run_ex2 (σ : St) : run 4 2000 σ [(exF3, exF4)] 0 = ⟨true, 1, 0, σ⟩ := by
  show run 4 (1998 + 1 + 1) σ [(exF3, exF4)] 0 = _
  have e1 : σ.stp 4 (σ.fin exF3) (σ.fin exF4) = ⟨[(putT exA10 1, exA10)], 0, true, σ⟩ := stp_fun σ _ _ _ rfl
  rw [run_succ]
  simp only [e1, if_true, List.append_nil]
  have o1 : (putT exA10 1).openC 4 = (exA10, 1) := by
    have h := open_put (N := 4) (x := 1) (by decide) exA10
    have hs : exA10.strip Nat.max (lvC 4) 0 = (exA10, 0) := Tm.strip_else (fun e => absurd e.1 k34) 0
    rw [hs] at h
    exact h
  have o2 : exA10.openC 4 = (exA10, 0) := openC_neg (decide_eq_false (p := (3 : Int) = 4 ∧ ([] : List Tm).length = 1) (fun e => absurd e.1 k34))
  have e2 : σ.stp 4 (σ.fin (putT exA10 1)) (σ.fin exA10) = ⟨[], 1, true, σ⟩ := by
    rw [fin_non (T := putT exA10 1) k41, fin_non (T := exA10) k31]
    unfold St.stp
    rw [o1, o2, if_neg (fun e => e.elim (fun e => absurd e k41) (fun e => absurd e k31)), if_neg (fun e => absurd e.1 k32), if_pos ⟨rfl, rfl, rfl, rfl⟩]
    rfl
  rw [run_succ]
  simp only [e2, if_true, List.nil_append]
  rw [run_nil]
  rfl
theorem τ11_fin : τ11.fin (exX 0) = putT exA10 1 := (EndsN.step (U := putT exA10 1) rfl (.stop rfl)).fin
theorem gvN_put (N l : Nat) (hl : l < N) (t : Tm) (h : GV N t) (hg : NoV t) : GV N (putT t l) := .box l t hl h hg
theorem noV_atom (s : ByteArray) : NoV (.mk 3 0 s []) := fun v h => by cases h with | kid ht _ => cases ht
theorem gv_atom (N : Nat) (s : ByteArray) : GV N (.mk 3 0 s []) := .fn s [] (fun t h => by cases h)
theorem gvF1 : GV 4 exF1 := .fn _ _ fun t h => by
  simp only [List.mem_cons, List.not_mem_nil, or_false] at h
  rcases h with rfl | rfl
  · exact .var _
  · exact gv_atom _ _
theorem gvPut : GV 4 (putT exA10 1) := gvN_put 4 1 (by decide) _ (gv_atom _ _) (noV_atom _)
theorem gvF2 : GV 4 exF2 := .fn _ _ fun t h => by
  simp only [List.mem_cons, List.not_mem_nil, or_false] at h
  rcases h with rfl | rfl
  · exact gvPut
  · exact .var _
theorem gvF3 : GV 4 exF3 := .fn _ _ fun t h => by
  simp only [List.mem_cons, List.not_mem_nil, or_false] at h
  subst h; exact gvPut
theorem gvF4 : GV 4 exF4 := .fn _ _ fun t h => by
  simp only [List.mem_cons, List.not_mem_nil, or_false] at h
  subst h; exact gv_atom _ _
theorem gvσ2 : σ2.Gv 4 := fun x U h => by
  match x, h with
  | 0, h => cases h
  | 1, h => cases h
  | x + 2, h => cases h
theorem gvτ : τ11.Gv 4 := fun x U h => by
  match x, h with
  | 0, h => cases h; exact gvPut
  | 1, h => cases h; exact gv_atom _ _
  | x + 2, h => cases h
theorem run_gv {N : Nat} (hN : 1 ≤ N) {σ : St} (hr : σ.Ranked) (hg : σ.Gv N) {A B : Tm} (hA : GV N A) (hB : GV N B) (f : Nat) : (run N f σ [(A, B)] 0).σ.Gv N :=
  (run_good (M := N - 1) hN f σ [(A, B)] 0 ⟨hr, hg, fun x U _ => jC_le hN U⟩ (fun p hp => by rw [List.mem_singleton.1 hp]; exact ⟨hA, hB, jC_le hN A, jC_le hN B⟩) (Nat.zero_le _)).1.gv
theorem NewTm.has2 {w w' : World} {T : Tm} {e : Ending} (h : NewTm w T e w') : ∃ k n s a len cap, e = .returned (.agg #[.int .i64 k, .int .i64 n, .string s, .slice a len cap]) ∧ TmIn (fun b => w.heap.size ≤ b ∧ b < w'.heap.size) w' (.agg #[.int .i64 k, .int .i64 n, .string s, .slice a len cap]) T ∧ Below w.heap.size w w' := by
  obtain ⟨r, rfl, hT, hB⟩ := h
  obtain ⟨k, n, s, a, len, cap, ks, rfl, -⟩ := hT.form
  exact ⟨k, n, s, a, len, cap, rfl, hT, hB⟩
theorem has_new {m : Nat} {w : World} {v : Value} {T : Tm} (h : TmIn (fun b => m ≤ b ∧ b < w.heap.size) w v T) : Has w v T := h.carry (fun _ _ => rfl) (fun _ hc => hc.2)
end Go.Proofs.Ytfjnajngelemkaa
