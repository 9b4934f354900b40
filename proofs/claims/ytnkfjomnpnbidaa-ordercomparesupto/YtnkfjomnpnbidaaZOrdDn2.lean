/-
  order.compareErased: two terms that were erased.
-/
import Derived.Test.YtnkfjomnpnbidaaZOrdBn3
import Derived.Deep.LoopGhost
import Derived.Deep.RegionHeld3
import Derived.Test.YtnkfjomnpnbidaaZGround
import Derived.Maps.OwnSet
namespace Go.Proofs.Ytnkfjomnpnbidaa
open Go.RowKit Go.Shelf
set_option linter.unusedVariables false

/-- Two terms side by side, in memory that lay there. -/
structure PE (n₀ : Nat) (w : World) where
  x : Q8
  T : Tm
  U : Tm
  h : IsTm n₀ w x.p.val T
  g : IsTm n₀ w x.r.val U
  hT : T.size ≤ 1000000000000
  hU : U.size ≤ 1000000000000
def PE.key {n₀ : Nat} {w : World} (z : PE n₀ w) : Tm × Tm := (z.T, z.U)
def tot {n₀ : Nat} {w : World} : List (PE n₀ w) → Nat
  | [] => 0
  | z :: r => z.T.size + tot r
theorem tot_append {n₀ : Nat} {w : World} : ∀ (xs ys : List (PE n₀ w)), tot (xs ++ ys) = tot xs + tot ys
  | [], ys => by simp [tot]
  | x :: r, ys => by rw [List.cons_append, tot, tot, tot_append r ys]; omega
theorem length_tot {n₀ : Nat} {w : World} : ∀ (xs : List (PE n₀ w)), xs.length ≤ tot xs
  | [] => by simp
  | x :: r => by have := length_tot r; have := x.T.size_pos; rw [List.length_cons, tot]; omega
abbrev keyL {n₀ : Nat} {w : World} (st : List (PE n₀ w)) : Int := cmpL (st.reverse.map PE.key)
theorem keyL_snoc {n₀ : Nat} {w : World} (st : List (PE n₀ w)) (z : PE n₀ w) : keyL (st ++ [z]) = lx (z.T.cmp z.U) (keyL st) := by
  unfold keyL; rw [List.reverse_append]; rfl
theorem mine {w : World} {x : Q8} {o1 o2 : Obj} : OwnP (((w.alloc o1).alloc o2).alloc (.cells x.cells.toArray 80)) w.heap.size (.slice (some ⟨w.heap.size + 1 + 1, 0, none⟩) 1 1) [x] := by
  refine ⟨by simp [flat8, Q8.cells_length], .inr ⟨_, 1, x.cells.toArray, rfl, by omega, ?_, Nat.le_refl _, by unfold maxLen; omega, by simp [Q8.cells_length], by simp [flat8, Q8.cells]⟩⟩
  have := World.alloc_heap_new ((w.alloc o1).alloc o2) (.cells x.cells.toArray 80)
  rw [World.size_alloc, World.size_alloc] at this
  exact this

theorem TmIn.look {p : Nat → Prop} {W : World} {k n : Int} {s : ByteArray} {a : Option Addr} {l c : Nat} {T : Tm} (h : TmIn p W (.agg #[.int .i64 k, .int .i64 n, .string s, .slice a l c]) T) : ∃ ks, T = .mk k n s ks ∧ l = ks.length := by
  cases h; exact ⟨_, rfl, rfl⟩
theorem tbox8 {W : World} {B : Nat} {c0 c1 c2 c3 c4 c5 c6 c7 : Value} {z : Nat} (h : W.heap[B]? = some (.cells #[c0, c1, c2, c3, c4, c5, c6, c7] z (0, 0))) :
    W.cell? ⟨B, 0, none⟩ = some c0 ∧ W.cell? ⟨B, 1, none⟩ = some c1 ∧ W.cell? ⟨B, 2, none⟩ = some c2 ∧ W.cell? ⟨B, 3, none⟩ = some c3 := by
  refine ⟨?_, ?_, ?_, ?_⟩ <;> simp [World.cell?, h]

theorem tbox8' {W : World} {B : Nat} {c0 c1 c2 c3 c4 c5 c6 c7 : Value} {z : Nat} (h : W.heap[B]? = some (.cells #[c0, c1, c2, c3, c4, c5, c6, c7] z (0, 0))) :
    W.cell? ⟨B, 0, none⟩ = some c0 ∧ W.cell? ⟨B, 1, none⟩ = some c1 ∧ W.cell? ⟨B, 2, none⟩ = some c2 ∧ W.cell? ⟨B, 3, none⟩ = some c3 ∧ W.cell? ⟨B, 7, none⟩ = some c7 := by
  refine ⟨?_, ?_, ?_, ?_, ?_⟩ <;> simp [World.cell?, h]
theorem tot_map {n₀ : Nat} {w : World} : ∀ ys : List (PE n₀ w), tot ys = Tm.sizes ((ys.map PE.key).map Prod.fst)
  | [] => by simp [tot, Tm.sizes_nil]
  | y :: r => by rw [tot, tot_map r, List.map_cons, List.map_cons, Tm.sizes_cons]; rfl
theorem sizes_reverse : ∀ ks : List Tm, Tm.sizes ks.reverse = Tm.sizes ks
  | [] => rfl
  | k :: r => by rw [List.reverse_cons, Tm.sizes_append, sizes_reverse r, Tm.sizes_cons, Tm.sizes_cons, Tm.sizes_nil]; omega
theorem tot_zip {n₀ : Nat} {w : World} (ys : List (PE n₀ w)) (ks1 ks2 : List Tm) (h : ks1.length = ks2.length) (e : ys.map PE.key = ((ks1.zip ks2).drop 0).reverse) : tot ys = Tm.sizes ks1 := by
  rw [tot_map, e, List.drop_zero, List.map_reverse, sizes_reverse, List.map_fst_zip (by omega)]

set_option maxRecDepth 100000 in
set_option maxHeartbeats 4000000 in
theorem erased_at (u v : Value) (T U : Tm) (w : World) (hu : Has w u T) (hv : Has w v U) (hs : T.size ≤ 1000000000000) (ht : U.size ≤ 1000000000000) :
    Calls Try.prog 31 #[u, v] w (Gets w (.int .i64 (T.cmp U))) := by
  obtain ⟨k, n, s, a, len, cap, ks, rfl, eT, rfl, hk, hn, hs', hc, hm, ha⟩ := hu.form
  obtain ⟨k', n', s', a', len', cap', ks', rfl, eU, rfl, hk', hn', hs'', hc', hm', ha'⟩ := hv.form
  clear hk hn hs' hc hm ha hk' hn' hs'' hc' hm' ha'
  obtain ⟨z0, hz0⟩ : ∃ z : PE w.heap.size w, z = ⟨⟨⟨k, n, s, a, ks.length, cap⟩, ⟨k', n', s', a', ks'.length, cap'⟩⟩, T, U, hu, hv, hs, ht⟩ := ⟨_, rfl⟩
  have HOWN : Hid (OwnP (((w.alloc (.cells #[.int .i64 k, .int .i64 n, .string s, .slice a ks.length cap] 24)).alloc (.cells #[.int .i64 k', .int .i64 n', .string s', .slice a' ks'.length cap'] 24)).alloc (.cells #[.int .i64 k, .int .i64 n, .string s, .slice a ks.length cap, .int .i64 k', .int .i64 n', .string s', .slice a' ks'.length cap'] 80)) w.heap.size (.slice (some ⟨w.heap.size + 1 + 1, 0, none⟩) 1 1) ([z0].map PE.x)) := by
    subst hz0; exact mine
  have HT0 : Hid (keyL [z0] = T.cmp U ∧ tot [z0] ≤ 1000000000000) := by
    subst hz0; exact ⟨by show lx _ 0 = _; unfold lx; split <;> simp_all [PE.key], by show T.size + 0 ≤ _; omega⟩
  clear hu hv hs ht eT eU hz0
  have HB0 : Hid (Below w.heap.size w (((w.alloc (.cells #[.int .i64 k, .int .i64 n, .string s, .slice a ks.length cap] 24)).alloc (.cells #[.int .i64 k', .int .i64 n', .string s', .slice a' ks'.length cap'] 24)).alloc (.cells #[.int .i64 k, .int .i64 n, .string s, .slice a ks.length cap, .int .i64 k', .int .i64 n', .string s', .slice a' ks'.length cap'] 80))) :=
    (((Below.refl _ w).alloc (Nat.le_refl _) _).alloc (by simp) _).alloc (by simp; omega) _
  have HB0 : Hid (Below w.heap.size w (((w.alloc (.cells #[.int .i64 k, .int .i64 n, .string s, .slice a ks.length cap] 24)).alloc (.cells #[.int .i64 k', .int .i64 n', .string s', .slice a' ks'.length cap'] 24)).alloc (.cells #[.int .i64 k, .int .i64 n, .string s, .slice a ks.length cap, .int .i64 k', .int .i64 n', .string s', .slice a' ks'.length cap'] 80))) :=
    (((Below.refl _ w).alloc (Nat.le_refl _) _).alloc (by simp) _).alloc (by simp; omega) _
  have HB0 : Hid (Below w.heap.size w (((w.alloc (.cells #[.int .i64 k, .int .i64 n, .string s, .slice a ks.length cap] 24)).alloc (.cells #[.int .i64 k', .int .i64 n', .string s', .slice a' ks'.length cap'] 24)).alloc (.cells #[.int .i64 k, .int .i64 n, .string s, .slice a ks.length cap, .int .i64 k', .int .i64 n', .string s', .slice a' ks'.length cap'] 80))) :=
    (((Below.refl _ w).alloc (Nat.le_refl _) _).alloc (by simp) _).alloc (by simp; omega) _
  have HB0 : Hid (Below w.heap.size w (((w.alloc (.cells #[.int .i64 k, .int .i64 n, .string s, .slice a ks.length cap] 24)).alloc (.cells #[.int .i64 k', .int .i64 n', .string s', .slice a' ks'.length cap'] 24)).alloc (.cells #[.int .i64 k, .int .i64 n, .string s, .slice a ks.length cap, .int .i64 k', .int .i64 n', .string s', .slice a' ks'.length cap'] 80))) :=
    (((Below.refl _ w).alloc (Nat.le_refl _) _).alloc (by simp) _).alloc (by simp; omega) _
  have HB0 : Hid (Below w.heap.size w (((w.alloc (.cells #[.int .i64 k, .int .i64 n, .string s, .slice a ks.length cap] 24)).alloc (.cells #[.int .i64 k', .int .i64 n', .string s', .slice a' ks'.length cap'] 24)).alloc (.cells #[.int .i64 k, .int .i64 n, .string s, .slice a ks.length cap, .int .i64 k', .int .i64 n', .string s', .slice a' ks'.length cap'] 80))) :=
    (((Below.refl _ w).alloc (Nat.le_refl _) _).alloc (by simp) _).alloc (by simp; omega) _
  have HB0 : Hid (Below w.heap.size w (((w.alloc (.cells #[.int .i64 k, .int .i64 n, .string s, .slice a ks.length cap] 24)).alloc (.cells #[.int .i64 k', .int .i64 n', .string s', .slice a' ks'.length cap'] 24)).alloc (.cells #[.int .i64 k, .int .i64 n, .string s, .slice a ks.length cap, .int .i64 k', .int .i64 n', .string s', .slice a' ks'.length cap'] 80))) :=
    (((Below.refl _ w).alloc (Nat.le_refl _) _).alloc (by simp) _).alloc (by simp; omega) _
  have HB0 : Hid (Below w.heap.size w (((w.alloc (.cells #[.int .i64 k, .int .i64 n, .string s, .slice a ks.length cap] 24)).alloc (.cells #[.int .i64 k', .int .i64 n', .string s', .slice a' ks'.length cap'] 24)).alloc (.cells #[.int .i64 k, .int .i64 n, .string s, .slice a ks.length cap, .int .i64 k', .int .i64 n', .string s', .slice a' ks'.length cap'] 80))) :=
    (((Below.refl _ w).alloc (Nat.le_refl _) _).alloc (by simp) _).alloc (by simp; omega) _
  have HB0 : Hid (Below w.heap.size w (((w.alloc (.cells #[.int .i64 k, .int .i64 n, .string s, .slice a ks.length cap] 24)).alloc (.cells #[.int .i64 k', .int .i64 n', .string s', .slice a' ks'.length cap'] 24)).alloc (.cells #[.int .i64 k, .int .i64 n, .string s, .slice a ks.length cap, .int .i64 k', .int .i64 n', .string s', .slice a' ks'.length cap'] 80))) :=
    (((Below.refl _ w).alloc (Nat.le_refl _) _).alloc (by simp) _).alloc (by simp; omega) _
  have HB0 : Hid (Below w.heap.size w (((w.alloc (.cells #[.int .i64 k, .int .i64 n, .string s, .slice a ks.length cap] 24)).alloc (.cells #[.int .i64 k', .int .i64 n', .string s', .slice a' ks'.length cap'] 24)).alloc (.cells #[.int .i64 k, .int .i64 n, .string s, .slice a ks.length cap, .int .i64 k', .int .i64 n', .string s', .slice a' ks'.length cap'] 80))) :=
    (((Below.refl _ w).alloc (Nat.le_refl _) _).alloc (by simp) _).alloc (by simp; omega) _
  have HB0 : Hid (Below w.heap.size w (((w.alloc (.cells #[.int .i64 k, .int .i64 n, .string s, .slice a ks.length cap] 24)).alloc (.cells #[.int .i64 k', .int .i64 n', .string s', .slice a' ks'.length cap'] 24)).alloc (.cells #[.int .i64 k, .int .i64 n, .string s, .slice a ks.length cap, .int .i64 k', .int .i64 n', .string s', .slice a' ks'.length cap'] 80))) :=
    (((Below.refl _ w).alloc (Nat.le_refl _) _).alloc (by simp) _).alloc (by simp; omega) _
  have HB0 : Hid (Below w.heap.size w (((w.alloc (.cells #[.int .i64 k, .int .i64 n, .string s, .slice a ks.length cap] 24)).alloc (.cells #[.int .i64 k', .int .i64 n', .string s', .slice a' ks'.length cap'] 24)).alloc (.cells #[.int .i64 k, .int .i64 n, .string s, .slice a ks.length cap, .int .i64 k', .int .i64 n', .string s', .slice a' ks'.length cap'] 80))) :=
    (((Below.refl _ w).alloc (Nat.le_refl _) _).alloc (by simp) _).alloc (by simp; omega) _
  have HB0 : Hid (Below w.heap.size w (((w.alloc (.cells #[.int .i64 k, .int .i64 n, .string s, .slice a ks.length cap] 24)).alloc (.cells #[.int .i64 k', .int .i64 n', .string s', .slice a' ks'.length cap'] 24)).alloc (.cells #[.int .i64 k, .int .i64 n, .string s, .slice a ks.length cap, .int .i64 k', .int .i64 n', .string s', .slice a' ks'.length cap'] 80))) :=
    (((Below.refl _ w).alloc (Nat.le_refl _) _).alloc (by simp) _).alloc (by simp; omega) _
  have HB0 : Hid (Below w.heap.size w (((w.alloc (.cells #[.int .i64 k, .int .i64 n, .string s, .slice a ks.length cap] 24)).alloc (.cells #[.int .i64 k', .int .i64 n', .string s', .slice a' ks'.length cap'] 24)).alloc (.cells #[.int .i64 k, .int .i64 n, .string s, .slice a ks.length cap, .int .i64 k', .int .i64 n', .string s', .slice a' ks'.length cap'] 80))) :=
    (((Below.refl _ w).alloc (Nat.le_refl _) _).alloc (by simp) _).alloc (by simp; omega) _
  have HB0 : Hid (Below w.heap.size w (((w.alloc (.cells #[.int .i64 k, .int .i64 n, .string s, .slice a ks.length cap] 24)).alloc (.cells #[.int .i64 k', .int .i64 n', .string s', .slice a' ks'.length cap'] 24)).alloc (.cells #[.int .i64 k, .int .i64 n, .string s, .slice a ks.length cap, .int .i64 k', .int .i64 n', .string s', .slice a' ks'.length cap'] 80))) :=
    (((Below.refl _ w).alloc (Nat.le_refl _) _).alloc (by simp) _).alloc (by simp; omega) _
  have HB0 : Hid (Below w.heap.size w (((w.alloc (.cells #[.int .i64 k, .int .i64 n, .string s, .slice a ks.length cap] 24)).alloc (.cells #[.int .i64 k', .int .i64 n', .string s', .slice a' ks'.length cap'] 24)).alloc (.cells #[.int .i64 k, .int .i64 n, .string s, .slice a ks.length cap, .int .i64 k', .int .i64 n', .string s', .slice a' ks'.length cap'] 80))) :=
    (((Below.refl _ w).alloc (Nat.le_refl _) _).alloc (by simp) _).alloc (by simp; omega) _
  go_enter Try.func31, Try.ntmps31
  go_wp2
  go_step3
  go_wp2
  go_step3
  go_wp2
  go_loopg [5, 6] 1000000000000 (fun gg f r wr => ∃ st : List (PE w.heap.size w), f = .int .i64 0 ∧ OwnP wr w.heap.size r (st.map PE.x) ∧ Below w.heap.size w wr ∧ Hid (keyL st = T.cmp U) ∧ tot st ≤ gg ∧ tot st ≤ 1000000000000)
  case atStart => exact ⟨[z0], rfl, HOWN.out, HB0.out, HT0.out.1, HT0.out.2, HT0.out.2⟩
  case round =>
    obtain ⟨st, rfl, hown, hB, HK, hg, htot⟩ := hrel
    clear HOWN HT0 HB0
    rcases List.eq_nil_or_concat st with rfl | ⟨st', z, rfl⟩
    · obtain ⟨a0, c0, rfl⟩ := hown.form
      simp only [List.map_nil, List.length_nil]
      clear hown
      go_wp2
      rw [Exit.noGoto_ret]
      go_ret
      exact ⟨by rw [← HK.out]; rfl, hB⟩
    have hown' := hown
    simp only [List.concat_eq_append, List.map_append, List.map_cons, List.map_nil] at hown' HK hg htot
    obtain ⟨g, cp, rfl, hgb, hgs, hcp, hcm, hown2, hcell⟩ := hown'.pop
    clear hown hown'
    rw [List.length_map] at hcp hcell hown2 ⊢
    rw [keyL_snoc] at HK
    rw [tot_append] at hg htot
    have hlen := length_tot st'
    obtain ⟨⟨⟨k1, n1, s1, a1, l1, c1⟩, ⟨k2, n2, s2, a2, l2, c2⟩⟩, T1, U1, h1, h2, hT1, hU1⟩ := z
    have htot1 : T1.size + tot st' ≤ gk := by have : tot [(⟨⟨⟨k1, n1, s1, a1, l1, c1⟩, ⟨k2, n2, s2, a2, l2, c2⟩⟩, T1, U1, h1, h2, hT1, hU1⟩ : PE w.heap.size w)] = T1.size := rfl; omega
    have htot2 : T1.size + tot st' ≤ 1000000000000 := by have : tot [(⟨⟨⟨k1, n1, s1, a1, l1, c1⟩, ⟨k2, n2, s2, a2, l2, c2⟩⟩, T1, U1, h1, h2, hT1, hU1⟩ : PE w.heap.size w)] = T1.size := rfl; omega
    have hT1p := T1.size_pos
    have q1 : IsTm w.heap.size w (.agg #[.int .i64 k1, .int .i64 n1, .string s1, .slice a1 l1 c1]) T1 := h1
    have q2 : IsTm w.heap.size w (.agg #[.int .i64 k2, .int .i64 n2, .string s2, .slice a2 l2 c2]) U1 := h2
    have HK1 : Hid (lx (T1.cmp U1) (keyL st') = T.cmp U) := HK
    have HTOT := Lib.hid (And.intro htot1 htot2)
    clear hg htot htot1
    have y0 : wr.cell? ⟨g, st'.length * 8, none⟩ = some (.int .i64 k1) := hcell 0 _ rfl
    have y1 : wr.cell? ⟨g, st'.length * 8 + 1, none⟩ = some (.int .i64 n1) := hcell 1 _ rfl
    have y2 : wr.cell? ⟨g, st'.length * 8 + 2, none⟩ = some (.string s1) := hcell 2 _ rfl
    have y3 : wr.cell? ⟨g, st'.length * 8 + 3, none⟩ = some (.slice a1 l1 c1) := hcell 3 _ rfl
    have y4 : wr.cell? ⟨g, st'.length * 8 + 4, none⟩ = some (.int .i64 k2) := hcell 4 _ rfl
    have y5 : wr.cell? ⟨g, st'.length * 8 + 5, none⟩ = some (.int .i64 n2) := hcell 5 _ rfl
    have y6 : wr.cell? ⟨g, st'.length * 8 + 6, none⟩ = some (.string s2) := hcell 6 _ rfl
    have y7 : wr.cell? ⟨g, st'.length * 8 + 7, none⟩ = some (.slice a2 l2 c2) := hcell 7 _ rfl
    clear hcell
    obtain ⟨m, hm⟩ : ∃ m, m = st'.length := ⟨_, rfl⟩
    rw [← hm] at hcp y0 y1 y2 y3 y4 y5 y6 y7 hlen ⊢
    have hm1 : m + 1 ≤ 1000000000000 := by omega
    have hm2 : (m : Int) < (m : Int) + 1 := by omega
    have hm3 : (0 : Int) < (m : Int) + 1 := by omega
    have hm4 : (0 : Int) ≤ (m : Int) := by omega
    have hm5 : IntKind.i64.wrap (m : Int) = (m : Int) := by rw [IntKind.wrap_i64]; omega
    have hm6 : m ≤ cp := by omega
    have HOWN2 := Lib.hid hown2
    have HM := Lib.hid hm
    clear hown2 hm hlen htot2 HK h1 h2
    obtain ⟨cv, hcv⟩ : ∃ c, ownC T1.kind T1.num T1.name T1.kids.length U1.kind U1.num U1.name U1.kids.length = c := ⟨_, rfl⟩
    have hcall : ∀ W, Below wr.heap.size wr W → Calls Try.prog 59 #[.agg #[.int .i64 k1, .int .i64 n1, .string s1, .slice a1 l1 c1], .agg #[.int .i64 k2, .int .i64 n2, .string s2, .slice a2 l2 c2]] W (Gets W (.int .i64 cv)) := fun W hW => by
      rw [← hcv]; exact own_at _ _ T1 U1 W (IsTm.later (hB.trans (hW.mono hB.size)) (Nat.le_trans hB.size hW.size) q1) (IsTm.later (hB.trans (hW.mono hB.size)) (Nat.le_trans hB.size hW.size) q2) hT1 hU1
    obtain ⟨bx, hbx⟩ : ∃ o : Obj, o = .cells #[.int .i64 k1, .int .i64 n1, .string s1, .slice a1 l1 c1, .int .i64 k2, .int .i64 n2, .string s2, .slice a2 l2 c2] 80 (0, 0) := ⟨_, rfl⟩
    have HBX : Hid (Below wr.heap.size wr (wr.alloc (.cells #[.int .i64 k1, .int .i64 n1, .string s1, .slice a1 l1 c1, .int .i64 k2, .int .i64 n2, .string s2, .slice a2 l2 c2] 80))) := (Below.refl _ wr).alloc (Nat.le_refl _) _
    have HNEW : Hid ((wr.alloc (.cells #[.int .i64 k1, .int .i64 n1, .string s1, .slice a1 l1 c1, .int .i64 k2, .int .i64 n2, .string s2, .slice a2 l2 c2] 80)).heap[wr.heap.size]? = some (.cells #[.int .i64 k1, .int .i64 n1, .string s1, .slice a1 l1 c1, .int .i64 k2, .int .i64 n2, .string s2, .slice a2 l2 c2] 80 (0, 0))) := World.alloc_heap_new wr _
    have HBW := Lib.hid hB
    have hcall2 := hcall _ HBX.out
    clear hcall hB hbx
    have ecmp : ∃ r, T1.cmp U1 = lx cv r := by obtain ⟨_, _, _, _⟩ := T1; obtain ⟨_, _, _, _⟩ := U1; rw [Tm.cmp_mk, ← hcv]; exact ⟨_, rfl⟩
    by_cases hc0 : cv = 0
    case neg =>
      have hc1 : (cv != 0) = true := by simpa using hc0
      obtain ⟨r, er⟩ := ecmp
      have HR : Hid (T.cmp U = cv) := by show _ = _; rw [← HK1.out]; rw [er]; unfold lx; rw [if_neg hc0, if_neg hc0]
      clear er hcv
      go_wp2_with (go_at_call 59; (with_reducible refine hcall2.mono ?_); rintro e w5 ⟨rfl, hb5⟩)
      go_ret
      exact ⟨congrArg (fun z => Ending.returned (Value.int IntKind.i64 z)) HR.out.symm, HBW.out.trans ((HBX.out.trans (hb5.mono HBX.out.size)).mono HBW.out.size)⟩
    subst hc0
    have hc1 : ((0 : Int) != 0) = false := rfl
    obtain ⟨ks1, hT1e, hl1e⟩ := TmIn.look q1
    obtain ⟨ks2, hU1e, hl2e⟩ := TmIn.look q2
    have hz := own_zero hcv
    have hkind : T1.kind = k1 := by rw [hT1e]; rfl
    have hnum : ∀ W, Below wr.heap.size wr W → Calls Try.prog 60 #[.agg #[.int .i64 k1, .int .i64 n1, .string s1, .slice a1 l1 c1]] W (Gets W (.bool (decide (isN k1)))) := fun W hW => by
      have := numbered_at _ T1 W (IsTm.later (HBW.out.trans (hW.mono HBW.out.size)) (Nat.le_trans HBW.out.size hW.size) q1); rw [hkind] at this; exact this
    by_cases hN : isN k1
    case pos =>
      rw [decide_eq_true hN] at hnum
      have HR : Hid (keyL st' = T.cmp U) := by
        show _ = _; rw [← HK1.out]
        have : T1.cmp U1 = 0 := by
          rw [hT1e, hU1e, Tm.cmp_mk, if_pos hN]
          rw [hT1e, hU1e] at hcv
          exact lx_zero.2 ⟨hcv, rfl⟩
        rw [this]; rfl
      clear hcv hz ecmp hT1e hU1e hl1e hl2e hkind
      go_wp2_with (first
        | (go_at_call 60; (with_reducible refine (hnum _ ?_).mono ?_); (· exact HBX.out.trans (hb5.mono HBX.out.size)); rintro e w6 ⟨rfl, hb6⟩)
        | (go_at_call 59; (with_reducible refine hcall2.mono ?_); rintro e w5 ⟨rfl, hb5⟩; have Z5 := (hb5.block _ (by simp)).trans HNEW.out; obtain ⟨z0', z1', z2', z3'⟩ := tbox8 Z5; clear Z5))
      go_roundg (tot st')
      case measure => have := HTOT.out.1; omega
      case rel =>
        have hb : Below wr.heap.size wr w6 := HBX.out.trans ((hb5.trans (hb6.mono hb5.size)).mono HBX.out.size)
        exact ⟨st', rfl, by rw [HM.out]; have := HOWN2.out.later hb; exact this, HBW.out.trans (hb.mono HBW.out.size), HR.out, Nat.le_refl _, by have := HTOT.out.2; omega⟩
    rw [decide_eq_false hN] at hnum
    have hll : ks1.length = ks2.length := by have := (hz.2.1 (by rw [hkind]; exact hN)).1; rw [hT1e, hU1e] at this; exact this
    have hsz1 : T1.size = 1 + Tm.sizes ks1 := by rw [hT1e, Tm.size_mk]
    have hsz2 : U1.size = 1 + Tm.sizes ks2 := by rw [hU1e, Tm.size_mk]
    have hlk := Tm.length_le_sizes ks1
    have HR : Hid (lx (Tm.cmps ks1 ks2) (keyL st') = T.cmp U) := by
      show _ = _; rw [← HK1.out]
      have : T1.cmp U1 = Tm.cmps ks1 ks2 := by
        rw [hT1e, hU1e, Tm.cmp_mk, if_neg hN]
        rw [hT1e, hU1e] at hcv
        have hcv' : ownC k1 n1 s1 ks1.length k2 n2 s2 ks2.length = 0 := hcv
        rw [hcv']; rfl
      rw [this]
    have HKD1 : Hid (TsIn (fun b => b < w.heap.size) w (.slice a1 l1 c1) ks1) := by rw [hT1e] at q1; exact TmIn.kids q1
    have HKD2 : Hid (TsIn (fun b => b < w.heap.size) w (.slice a2 l2 c2) ks2) := by rw [hU1e] at q2; exact TmIn.kids q2
    have HSZ := Lib.hid (And.intro hsz1 (And.intro hsz2 (And.intro hT1 (And.intro hU1 (And.intro hll hlk)))))
    have hl1b : l1 ≤ 1000000000000 := by omega
    have HL := Lib.hid (And.intro hl1e hl2e)
    clear hcv hz ecmp hT1e hU1e hkind q1 q2 hsz1 hsz2 hT1 hU1 hll hlk hl1e hl2e HK1 hT1p hN
    go_wp2_with (first
      | (go_at_call 60; (with_reducible refine (hnum _ ?_).mono ?_); (· exact HBX.out.trans (hb5.mono HBX.out.size)); rintro e w6 ⟨rfl, hb6⟩; have Z6 := (hb6.block _ (Nat.lt_of_lt_of_le (by simp) hb5.size)).trans ((hb5.block _ (by simp)).trans HNEW.out); have HZ6 := Lib.hid Z6; obtain ⟨z0', z1', z2', z3'⟩ := tbox8 Z6; clear Z6)
      | (go_at_call 59; (with_reducible refine hcall2.mono ?_); rintro e w5 ⟨rfl, hb5⟩; have Z5 := (hb5.block _ (by simp)).trans HNEW.out; obtain ⟨z0', z1', z2', z3'⟩ := tbox8 Z5; clear Z5))
    have hb7 : Below wr.heap.size wr w6 := HBX.out.trans ((hb5.trans (hb6.mono hb5.size)).mono HBX.out.size)
    have HBP : Hid (wr.heap.size < w6.heap.size ∧ w.heap.size ≤ wr.heap.size) := ⟨Nat.lt_of_lt_of_le (by simp) (Nat.le_trans hb5.size hb6.size), HBW.out.size⟩
    have HB7 : Hid (Below w.heap.size w w6) := HBW.out.trans (hb7.mono HBW.out.size)
    have HO7 : Hid (OwnP w6 w.heap.size (.slice (some ⟨g, 0, none⟩) m cp) (st'.map PE.x)) := by show OwnP _ _ _ _; have := HOWN2.out.later hb7; rw [HM.out]; exact this
    obtain ⟨Bp, hBp⟩ : ∃ B, B = wr.heap.size := ⟨_, rfl⟩
    rw [← hBp] at HBP HZ6 hgs ⊢
    have HNEG := Lib.hid (Nat.ne_of_lt hgs)
    clear hb5 hb6 hb7 z0' z1' z2' z3' HNEW HBX HOWN2 HBW y0 y1 y2 y3 y4 y5 y6 y7 hcall2 hnum hgs hgb
    clear hBp
    go_loopg [6, 9] (l1 + 1) (fun gg r kv wr2 => ∃ (i : Nat) (ys : List (PE w.heap.size w)), kv = .int .i64 ((i : Int) - 1) ∧ i ≤ l1 ∧ i < gg ∧ OwnP wr2 w.heap.size r ((st' ++ ys).map PE.x) ∧ Below w.heap.size w wr2 ∧ wr2.heap[Bp]? = some (.cells #[.int .i64 k1, .int .i64 n1, .string s1, .slice a1 l1 c1, .int .i64 k2, .int .i64 n2, .string s2, .slice a2 l2 c2] 80 (0, 0)) ∧ r.ownBlock ≠ some Bp ∧ Hid (ys.map PE.key = ((ks1.zip ks2).drop i).reverse))
    case atStart => exact ⟨l1, [], rfl, Nat.le_refl _, Nat.lt_succ_self _, by rw [List.append_nil]; exact HO7.out, HB7.out, HZ6.out, fun e => HNEG.out (by cases e; rfl), by show _ = _; rw [HL.out.1, List.drop_eq_nil_of_le (by rw [List.length_zip]; omega)]; rfl⟩
    case round =>
      obtain ⟨i, ys, rfl, hil, hig, hown, hB, hZ, hne, HY⟩ := hrel
      clear HO7 HB7 HZ6
      have hyl : ys.length = l1 - i := by
        have := congrArg List.length HY.out
        rw [List.length_map, List.length_reverse, List.length_drop, List.length_zip] at this
        have h5 := HSZ.out.2.2.2.2.1
        have h6 := HL.out.1
        omega
      have hlen := length_tot st'
      cases i with
      | zero =>
        have hneg : ¬ (0 : Int) ≤ ((0 : Nat) : Int) - 1 := by omega
        clear hZ
        obtain ⟨ra, rc, er⟩ := hown.form
        obtain ⟨rl, hrl⟩ : ∃ l, l = ((st' ++ ys).map PE.x).length := ⟨_, rfl⟩
        rw [← hrl] at er
        subst er
        have HO := Lib.hid hown
        clear hrl
        clear hown
        go_wp2
        go_roundg (tot (st' ++ ys))
        case measure =>
          have h8 := tot_zip ys _ _ HSZ.out.2.2.2.2.1 HY.out
          rw [tot_append]
          have h1 := HTOT.out.1
          have h2 := HSZ.out.1
          omega
        case rel =>
          refine ⟨st' ++ ys, rfl, HO.out, hB, ?_, Nat.le_refl _, ?_⟩
          · show _ = _
            rw [← HR.out]
            show cmpL ((st' ++ ys).reverse.map PE.key) = _
            rw [List.reverse_append, List.map_append, List.map_reverse, HY.out, List.reverse_reverse, List.drop_zero]
            exact cmpL_zip ks1 ks2 _
          · have h8 := tot_zip ys _ _ HSZ.out.2.2.2.2.1 HY.out
            rw [tot_append]
            have h1 := HTOT.out.2
            have h2 := HSZ.out.1
            omega
      | succ i =>
        have ei : ((i + 1 : Nat) : Int) - 1 = (i : Int) := by omega
        rw [ei]
        clear ei
        have hi0 : (0 : Int) ≤ (i : Int) := by omega
        have e1 := HL.out.1
        have e2 := HL.out.2
        have e5 := HSZ.out.2.2.2.2.1
        have hik : i < ks1.length := by omega
        have hik2 : i < ks2.length := by omega
        obtain ⟨a1_, c1_, ea1, hc1a, hm1a, ha1a, hx1⟩ := HKD1.out
        obtain ⟨a2_, c2_, ea2, hc2a, hm2a, ha2a, hx2⟩ := HKD2.out
        injection ea1 with ea1 el1 ec1
        injection ea2 with ea2 el2 ec2
        subst ea1 ea2 ec1 ec2
        clear el1 el2
        obtain ⟨b, o, k3, n3, s3, a3, l3, c3, rfl, hbn, f0, f1, f2, f3, ht3⟩ := hx1 i hik
        obtain ⟨b', o', k4, n4, s4, a4, l4, c4, rfl, hbn', j0, j1, j2, j3, ht4⟩ := hx2 i hik2
        have hbn : b < w.heap.size := hbn
        have hbn' : b' < w.heap.size := hbn'
        have g0 := (hB.drew.cell (p := ⟨b, _, none⟩) hbn).trans f0
        have g1 := (hB.drew.cell (p := ⟨b, _, none⟩) hbn).trans f1
        have g2 := (hB.drew.cell (p := ⟨b, _, none⟩) hbn).trans f2
        have g3 := (hB.drew.cell (p := ⟨b, _, none⟩) hbn).trans f3
        have r0 := (hB.drew.cell (p := ⟨b', _, none⟩) hbn').trans j0
        have r1 := (hB.drew.cell (p := ⟨b', _, none⟩) hbn').trans j1
        have r2 := (hB.drew.cell (p := ⟨b', _, none⟩) hbn').trans j2
        have r3 := (hB.drew.cell (p := ⟨b', _, none⟩) hbn').trans j3
        have hm1 : ks1[i] ∈ ks1 := List.getElem_mem _
        have hm2 : ks2[i] ∈ ks2 := List.getElem_mem _
        have hs1 := Tm.size_le_sizes hm1
        have hs2 := Tm.size_le_sizes hm2
        obtain ⟨znew, hzn⟩ : ∃ z : PE w.heap.size w, z = ⟨⟨⟨k3, n3, s3, a3, l3, c3⟩, ⟨k4, n4, s4, a4, l4, c4⟩⟩, ks1[i], ks2[i], ht3, ht4, by have h1 := HSZ.out.1; have h2 := HSZ.out.2.2.1; omega, by have h1 := HSZ.out.2.1; have h2 := HSZ.out.2.2.2.1; omega⟩ := ⟨_, rfl⟩
        have hzx : znew.x = ⟨⟨k3, n3, s3, a3, l3, c3⟩, ⟨k4, n4, s4, a4, l4, c4⟩⟩ := by rw [hzn]
        have HZK : Hid (znew.key = (ks1[i], ks2[i])) := by show _ = _; rw [hzn]; rfl
        have hZ' : wr.drew.heap[Bp]? = _ := hZ
        obtain ⟨_, _, _, z3', z7'⟩ := tbox8' hZ'
        obtain ⟨ra, rc, er⟩ := hown.form
        obtain ⟨rl, hrl⟩ : ∃ l, l = ((st' ++ ys).map PE.x).length := ⟨_, rfl⟩
        rw [← hrl] at er
        subst er
        clear hrl
        have hlb : ((st' ++ ys).map PE.x).length + 1 ≤ 1000000000000 := by
          rw [List.length_map, List.length_append]
          have h1 := HTOT.out.2
          have h2 := HSZ.out.1
          have h3 := HSZ.out.2.2.2.2.2
          omega
        have hi1 : (i : Int) < (l1 : Int) := by omega
        have hi2 : (i : Int) < (l2 : Int) := by omega
        obtain ⟨XS, hXS⟩ : ∃ X, X = (st' ++ ys).map PE.x := ⟨_, rfl⟩
        rw [← hXS] at hown hlb
        have hownD : OwnP wr.drew w.heap.size _ XS := hown.later ((Below.refl _ wr).drew)
        have HXS := Lib.hid hXS
        have HBD : Hid (Below w.heap.size w wr.drew ∧ wr.drew.heap.size = wr.heap.size) := ⟨hB.drew, rfl⟩
        have HZD := Lib.hid hZ
        have HOD := Lib.hid hownD
        have HZX := Lib.hid (And.intro hzx hne)
        clear hXS f0 f1 f2 f3 j0 j1 j2 j3 hs1 hs2 hm1 hm2 hzn hown hB hZ hZ' hx1 hx2 ht3 ht4 hzx hownD hlen e1 e2 e5 hc1a hm1a ha1a hc2a hm2a ha2a
        have HS : ∀ w' : World, (∀ q, q < w.heap.size ∨ q = Bp → w'.heap[q]? = wr.drew.heap[q]?) → (w'.cell? ⟨b, o + i * 4, none⟩ = some (.int .i64 k3) ∧ w'.cell? ⟨b, o + i * 4 + 1, none⟩ = some (.int .i64 n3) ∧ w'.cell? ⟨b, o + i * 4 + 2, none⟩ = some (.string s3) ∧ w'.cell? ⟨b, o + i * 4 + 3, none⟩ = some (.slice a3 l3 c3) ∧ w'.cell? ⟨b', o' + i * 4, none⟩ = some (.int .i64 k4) ∧ w'.cell? ⟨b', o' + i * 4 + 1, none⟩ = some (.int .i64 n4) ∧ w'.cell? ⟨b', o' + i * 4 + 2, none⟩ = some (.string s4) ∧ w'.cell? ⟨b', o' + i * 4 + 3, none⟩ = some (.slice a4 l4 c4) ∧ w'.cell? ⟨Bp, 3, none⟩ = some (.slice (some ⟨b, o, none⟩) l1 c1) ∧ w'.cell? ⟨Bp, 7, none⟩ = some (.slice (some ⟨b', o', none⟩) l2 c2)) := fun w' hq =>
          ⟨(World.cell?_of_block (hq b (Or.inl hbn))).trans g0, (World.cell?_of_block (hq b (Or.inl hbn))).trans g1, (World.cell?_of_block (hq b (Or.inl hbn))).trans g2, (World.cell?_of_block (hq b (Or.inl hbn))).trans g3,
           (World.cell?_of_block (hq b' (Or.inl hbn'))).trans r0, (World.cell?_of_block (hq b' (Or.inl hbn'))).trans r1, (World.cell?_of_block (hq b' (Or.inl hbn'))).trans r2, (World.cell?_of_block (hq b' (Or.inl hbn'))).trans r3,
           (World.cell?_of_block (hq Bp (Or.inr rfl))).trans z3', (World.cell?_of_block (hq Bp (Or.inr rfl))).trans z7'⟩
        have hBP2 : Bp < wr.heap.size := (Array.getElem?_eq_some_iff.1 HZD.out).1
        have hsw : w.heap.size ≤ wr.heap.size := by have := HBD.out.1.size; rw [HBD.out.2] at this; exact this
        have hk1 : ∀ ob q, q < w.heap.size ∨ q = Bp → (wr.drew.alloc ob).heap[q]? = wr.drew.heap[q]? := fun ob q hq => Below.heap_alloc _ _ _ (by show q < wr.heap.size; omega)
        have hk2 : ∀ ob w2, World.grownBy (wr.drew.alloc ob) w2 (Value.slice ra rl rc).ownBlock → ∀ q, q < w.heap.size ∨ q = Bp → w2.heap[q]? = wr.drew.heap[q]? := fun ob w2 hg q hq => by
          rw [hg.block q (by simp; show q < wr.heap.size + 1; omega) (fun e => by
            rcases hq with hq | rfl
            · have := (HOD.out.lt q e.symm).1; omega
            · exact HZX.out.2 e.symm)]
          exact hk1 ob q hq
        clear g0 g1 g2 g3 r0 r1 r2 r3 z3' z7' hne
        have HBP2 := Lib.hid (And.intro hBP2 hsw)
        clear hBP2 hsw
        go_wp2
        go_region_held3 (fun w' => (w'.cell? ⟨b, o + i * 4, none⟩ = some (.int .i64 k3) ∧ w'.cell? ⟨b, o + i * 4 + 1, none⟩ = some (.int .i64 n3) ∧ w'.cell? ⟨b, o + i * 4 + 2, none⟩ = some (.string s3) ∧ w'.cell? ⟨b, o + i * 4 + 3, none⟩ = some (.slice a3 l3 c3) ∧ w'.cell? ⟨b', o' + i * 4, none⟩ = some (.int .i64 k4) ∧ w'.cell? ⟨b', o' + i * 4 + 1, none⟩ = some (.int .i64 n4) ∧ w'.cell? ⟨b', o' + i * 4 + 2, none⟩ = some (.string s4) ∧ w'.cell? ⟨b', o' + i * 4 + 3, none⟩ = some (.slice a4 l4 c4) ∧ w'.cell? ⟨Bp, 3, none⟩ = some (.slice (some ⟨b, o, none⟩) l1 c1) ∧ w'.cell? ⟨Bp, 7, none⟩ = some (.slice (some ⟨b', o', none⟩) l2 c2)))
          (first | exact HS _ (fun _ _ => rfl) | exact HS _ (hk1 _) | exact HS _ (hk2 _ _ hg2))
          (first | (refine step_push rfl (.tmp 48) (.tmp 62) rfl w.heap.size _ XS rfl (HOD.out.later ((Below.refl _ wr.drew).alloc (Nat.le_refl _) _)) wr.drew.heap.size ⟨⟨k3, n3, s3, a3, l3, c3⟩, ⟨k4, n4, s4, a4, l4, c4⟩⟩ rfl (World.alloc_heap_new wr.drew _) hlb (Nat.le_trans HBD.out.1.size (by simp)) ?_; intro v' w2 ho2 hg2 hat2))
        go_wp2
        go_roundg (i + 1)
        case measure => omega
        case rel =>
          refine ⟨i, ys ++ [znew], by first | rfl | go_num, by omega, by omega, ?_, ?_, ?_, ?_, ?_⟩
          · rw [← List.append_assoc, List.map_append, ← HXS.out]
            show OwnP _ _ _ (XS ++ [znew.x])
            rw [HZX.out.1]; exact ho2
          · exact (HBD.out.1.alloc HBD.out.1.size _).grown hg2 (Nat.le_trans HBD.out.1.size (by simp)) (fun q hq => ((HOD.out.lt) q hq).1)
          · exact (hk2 _ _ hg2 Bp (Or.inr rfl)).trans HZD.out
          · intro e
            rcases hat2 with hat2 | hat2
            · exact HZX.out.2 (hat2.symm.trans e)
            · rw [hat2] at e; injection e with e; have := HBP2.out.1; have e' : wr.heap.size + 1 = Bp := (by simpa using e); omega
          · show _ = _
            rw [List.map_append, HY.out]
            show _ ++ [znew.key] = _
            rw [HZK.out]
            have hlt : i < (ks1.zip ks2).length := by rw [List.length_zip]; omega
            rw [List.drop_eq_getElem_cons hlt, List.reverse_cons, List.getElem_zip]
end Go.Proofs.Ytnkfjomnpnbidaa

namespace Go.Proofs.Ytnkfjomnpnbidaa
open Go.RowKit Go.Shelf
set_option linter.unusedVariables false
attribute [local go_sem] Oper.semAt_some

def addNew (acc : List Int) (x : Int) : List Int := if acc.contains x then acc else acc ++ [x]
def addV (acc : List Int) (x : Nat × Tm) : List Int := if x.2.kind = 1 then addNew acc x.2.num else acc
/-- The variables of the parts that have come. -/
def varsL (l : List (Nat × Tm)) : List Int := l.foldl addV []
def Tm.vars (T : Tm) : List Int := varsL (T.parts 1)
theorem varsL_snoc (l : List (Nat × Tm)) (x : Nat × Tm) : varsL (l ++ [x]) = addV (varsL l) x := by simp [varsL]
theorem varsL_length (l : List (Nat × Tm)) : (varsL l).length ≤ l.length := by
  suffices h : ∀ acc : List Int, (l.foldl addV acc).length ≤ acc.length + l.length by simpa [varsL] using h []
  induction l with
  | nil => intro acc; simp
  | cons x l ih =>
    intro acc
    have h := ih (addV acc x)
    have h2 : (addV acc x).length ≤ acc.length + 1 := by
      unfold addV addNew
      split
      · split <;> simp
      · omega
    rw [List.foldl_cons, List.length_cons]
    omega

/-- A list of numbers in memory. -/
def IntsAt (w : World) (v : Value) (l : List Int) : Prop :=
  ∃ a cap, v = .slice a l.length cap ∧ l.length ≤ cap ∧ cap ≤ maxLen ∧ (a = none → cap = 0) ∧ ∀ i (h : i < l.length), ∃ b o, a = some ⟨b, o, none⟩ ∧ b < w.heap.size ∧ w.cell? ⟨b, o + i, none⟩ = some (.int .i64 l[i])

theorem IntsAt.below {w w' : World} {v : Value} {l : List Int} (h : IntsAt w v l) (k : Below w.heap.size w w') : IntsAt w' v l := by
  obtain ⟨a, cap, e, h1, h2, h3, h4⟩ := h
  refine ⟨a, cap, e, h1, h2, h3, fun i hi => ?_⟩
  obtain ⟨b, o, e2, hb, hc⟩ := h4 i hi
  exact ⟨b, o, e2, Nat.lt_of_lt_of_le hb k.size, (k.cell (p := ⟨b, _, none⟩) hb).trans hc⟩

theorem ints_of_row {w : World} {base : Nat} {t : TypeId} {v : Value} {l : List Int} (h : w.ownsRow base t 1 v l.length (l.map (Value.int .i64))) : IntsAt w v l := by
  obtain ⟨_, ⟨rfl, h0⟩ | ⟨g, cap, cur, rfl, hg, hh, h1, h2, h3, h4⟩⟩ := h
  · exact ⟨none, 0, by rw [h0], by omega, Nat.zero_le _, fun _ => rfl, fun i hi => by omega⟩
  · refine ⟨some ⟨g, 0, none⟩, cap, rfl, h1, h2, (fun h => by cases h), fun i hi => ⟨g, 0, rfl, (Array.getElem?_eq_some_iff.1 hh).1, ?_⟩⟩
    have e : (cur.toList.take (l.length * 1))[i]? = some (.int .i64 l[i]) := by rw [h4]; simp [hi]
    rw [List.getElem?_take_of_lt (by omega)] at e
    simpa [World.cell?, hh] using e

def setV (l : List Int) : DataW Unit := Maps.setOf (.agg []) (l.map (Lit.int .i64))
theorem any_i64 (x : Int) : ∀ l : List Int, l.any ((fun y : Lit => y.sameKey (.int .i64 x)) ∘ Lit.int .i64) = l.contains x
  | [] => rfl
  | a :: r => by
    rw [List.any_cons, List.contains_cons, any_i64 x r]
    congr 1
    show decide (IntKind.i64 = IntKind.i64 ∧ a = x) = (x == a)
    by_cases e : a = x
    · subst e
      simp
    · have e' : ¬ x = a := fun h => e h.symm
      simp [e, e']
theorem has_setV (l : List Int) (x : Int) : Maps.has (setV l) (.int .i64 x) = l.contains x := by
  unfold setV
  rw [Maps.has_setOf _ _ _ (fun y hy => by obtain ⟨_, _, rfl⟩ := List.mem_map.1 hy; trivial), List.any_map]
  exact any_i64 x _
theorem setV_snoc (l : List Int) (x : Int) : setV (l ++ [x]) = (setV l).put (.int .i64 x) (.agg []) := by
  unfold setV
  rw [List.map_append, List.map_singleton, Maps.setOf_snoc]

theorem infoInt : (Try.prog.info? 3).map (fun i => (i.zero, i.size, i.bytes)) = some (some (.int .i64 0), 1, 8) := by kernel_rfl

theorem row_not_term {w : World} {base : Nat} {e : TypeId} {size : Nat} {v : Value} {n : Nat} {xs : List Value} (h : w.ownsRow base e size v n xs) (he : e ≠ 24) {b : Nat} {c : Array Value} {z : Nat × Nat} (hb : w.heap[b]? = some (.cells c 24 z)) : some b ≠ v.ownBlock := by
  rcases h.2 with ⟨rfl, _⟩ | ⟨g, cap, cur, rfl, _, hgb, _⟩
  · simp [Value.ownBlock]
  · intro e'
    obtain rfl : b = g := by simpa [Value.ownBlock] using e'
    rw [hgb] at hb; cases hb; exact he rfl

theorem row_not_map {w : World} {base : Nat} {e : TypeId} {size : Nat} {v : Value} {n : Nat} {xs : List Value} (h : w.ownsRow base e size v n xs) {P : Program} {k : TypeId} {R : Value → Option (DataW Unit × List MemPlace)} {b m : Nat} {D : DataW Unit} (hb : w.ownsMap P k R b m D) : v.ownBlock ≠ some b := by
  rcases h.2 with ⟨rfl, _⟩ | ⟨g, cap, cur, rfl, _, hgb, _⟩
  · simp [Value.ownBlock]
  · intro e'
    obtain rfl : g = b := by simpa [Value.ownBlock] using e'
    obtain ⟨es, ck, hh, _⟩ := hb
    rw [hgb] at hh; cases hh

theorem map_obj {w : World} {P : Program} {k : TypeId} {R : Value → Option (DataW Unit × List MemPlace)} {b m : Nat} {D : DataW Unit} (hb : w.ownsMap P k R b m D) : ∃ es ck, w.heap[b]? = some (.map es ck) := by
  obtain ⟨es, ck, hh, _⟩ := hb
  exact ⟨es, ck, hh⟩

theorem keeps_grown {n₀ : Nat} {W W' : World} {row : Option Nat} (hg : W.grownBy W' row) (hn : n₀ ≤ W.heap.size) (h1 : ∀ k, row = some k → n₀ ≤ k) (h2 : ∀ b c z, W.heap[b]? = some (.cells c 24 z) → some b ≠ row) : Keeps n₀ W W' :=
  ⟨(Below.refl _ _).grown hg hn h1, fun b c z e => (hg.block b (Array.getElem?_eq_some_iff.1 e).1 (h2 b c z e)).trans e⟩

end Go.Proofs.Ytnkfjomnpnbidaa
