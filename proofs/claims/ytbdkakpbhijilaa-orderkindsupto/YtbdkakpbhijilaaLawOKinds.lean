/-
  The law OrderKinds: its walk.
-/
import Derived.Test.YtbdkakpbhijilaaOShow
import Derived.Test.YtbdkakpbhijilaaOwnT
import Derived.Test.YtbdkakpbhijilaaLast
import Derived.Deep.Cut
import Derived.Deep.DeepCutAuto
namespace Go.Proofs.Ytbdkakpbhijilaa
open Go.RowKit Go.Shelf
open Classical
set_option linter.unusedVariables false
set_option linter.unusedSimpArgs false

theorem less_cb : ∀ a b : List UInt8, Op.bytesLess a b = decide (Lib.compareBytes a b < 0)
  | [], [] => by simp [Op.bytesLess, Lib.compareBytes]
  | [], _ :: _ => by simp [Op.bytesLess, Lib.compareBytes]
  | _ :: _, [] => by simp [Op.bytesLess, Lib.compareBytes]
  | x :: xs, y :: ys => by
    rw [Op.bytesLess, Lib.compareBytes, less_cb xs ys]
    by_cases h : x < y
    · rw [if_pos h]; simp [h]
    · rw [if_neg h]
      by_cases g : y < x
      · rw [if_pos g]
        have hne : ¬ x = y := fun e => by subst e; exact h g
        simp [h, hne]
      · rw [if_neg g]
        have e : x = y := by
          have h1 : ¬ x.toNat < y.toNat := h
          have g1 : ¬ y.toNat < x.toNat := g
          exact UInt8.toNat_inj.1 (by omega)
        subst e
        simp [h]
theorem leaf_er (k n : Int) (s : ByteArray) : (Tm.mk k n s []).er = .mk k n s [] := by rw [Tm.er_else (fun e => absurd e.2 (by simp))]; rfl
theorem fn_er (s : ByteArray) (ks : List Tm) : (Tm.mk 3 0 s ks).er = .mk 3 0 s (ks.map Tm.er) := Tm.er_else (fun e => absurd e.1 (by decide))
theorem cmps_self : ∀ ks : List Tm, Tm.cmps ks ks = 0
  | [] => Tm.cmps_nil _
  | t :: ts => by rw [Tm.cmps_cons, Tm.cmp_self, cmps_self ts]; rfl
theorem kd_var (x n : Int) : (Tm.mk 1 x (ByteArray.mk #[]) []).er.cmp (Tm.mk 2 n (ByteArray.mk #[]) []).er = -1 := by rw [leaf_er, leaf_er, Tm.cmp_mk]; rfl
theorem kd_num (n : Int) (s : ByteArray) (ks : List Tm) : (Tm.mk 2 n (ByteArray.mk #[]) []).er.cmp (Tm.mk 3 0 s ks).er = -1 := by rw [leaf_er, fn_er, Tm.cmp_mk]; rfl
theorem kd_two (n m : Int) : (Tm.mk 2 n (ByteArray.mk #[]) []).er.cmp (Tm.mk 2 m (ByteArray.mk #[]) []).er = c3 n m := by
  rw [leaf_er, leaf_er, Tm.cmp_mk, if_pos (.inr rfl)]
  unfold ownC
  rw [c3_self, if_pos (.inr rfl)]
  unfold lx; rw [if_pos rfl]; split <;> simp_all
theorem kd_more (s t : ByteArray) (ks : List Tm) (u : Tm) : (Tm.mk 3 0 s ks).er.cmp (Tm.mk 3 0 t (ks ++ [u])).er = -1 := by
  rw [fn_er, fn_er, Tm.cmp_mk]
  unfold ownC
  rw [c3_self, if_neg (by decide), List.length_map, List.length_map, List.length_append]
  have e : c3 (ks.length : Int) ((ks.length + [u].length : Nat) : Int) = -1 := by unfold c3; rw [if_pos (by simp; omega)]
  rw [e]
  rfl
theorem kd_name (s t : ByteArray) (ks : List Tm) : (Tm.mk 3 0 s ks).er.cmp (Tm.mk 3 0 t ks).er = cB s t := by
  rw [fn_er, fn_er, Tm.cmp_mk, cmps_self]
  unfold ownC
  simp only [c3_self]
  rw [if_pos trivial, if_neg (show ¬ (isN 3 : Prop) by decide)]
  show lx (lx 0 (lx 0 (lx 0 (cB s t)))) 0 = cB s t
  unfold lx; simp only [if_true]; split <;> simp_all
theorem c3_less (n m : Int) : decide (c3 n m < 0) = decide (n < m) := by
  rw [decide_eq_decide]; unfold c3; (repeat' split) <;> omega

theorem cellK {w w' : World} (h : Below w.heap.size w w') {a : Addr} {v : Value} (hc : w.cell? a = some v) : w'.cell? a = some v := by
  have hlt : a.block < w.heap.size := by
    unfold World.cell? at hc
    split at hc
    · rename_i hb; exact (Array.getElem?_eq_some_iff.1 hb).1
    · cases hc
  rw [World.cell?_of_block (w := w) (h.block _ hlt)]
  exact hc
theorem c3_lt (n m : Int) : c3 n m < 0 ↔ n < m := decide_eq_decide.1 (c3_less n m)
theorem lenT {W : World} {a : Option Addr} {c : Nat} {ks : List Tm} {u : Tm} (h : HasTs W (.slice a (ks ++ [u]).length c) (ks ++ [u])) : HasTs W (.slice a (ks.length + 1) c) (ks ++ [u]) := by
  rw [List.length_append] at h
  exact h
theorem newNe {W : World} {L : Nat} {o : Obj} (h : W.heap[L]? = some o) : (Value.slice (some ⟨W.heap.size, 0, none⟩) 0 0).ownBlock ≠ some L := fun e => by
  have := (Array.getElem?_eq_some_iff.1 h).1
  simp [Value.ownBlock] at e
  omega
theorem ownNe {W : World} {L : Nat} {o : Obj} {v v' : Value} (h : W.heap[L]? = some o) (hn : v.ownBlock ≠ some L) (ha : v'.ownBlock = v.ownBlock ∨ v'.ownBlock = some W.heap.size) : v'.ownBlock ≠ some L := fun e => by
  have := (Array.getElem?_eq_some_iff.1 h).1
  rcases ha with g | g
  · exact hn (g ▸ e)
  · rw [g] at e; cases e; omega
theorem srcB {WR WX W : World} {v u : Value} {ls : List Tm} {B : Nat} (h : HasTs WR u ls) (h4 : WR.heap.size ≤ B) (hx : Below WR.heap.size WR WX) (hB : B < WX.heap.size) (hb : Below WX.heap.size WX W) (hv : ∀ k, v.ownBlock = some k → WX.heap.size ≤ k) : TsIn (Pv W B v) W u ls :=
  have hc := hx.trans (hb.mono hx.size)
  h.carry (fun b hb' => hc.block b hb') (fun b (hb' : b < WR.heap.size) => ⟨Nat.lt_of_lt_of_le hb' hc.size, fun e => by have := hv b e; have := hx.size; omega, by omega⟩)
theorem srcO {W4 WX W : World} {v : Value} {L : Nat} {k' n' : Int} {s' : ByteArray} {a' : Option Addr} {len' cap' : Nat} {T : Tm} (h : Has W4 (.agg #[.int .i64 k', .int .i64 n', .string s', .slice a' len' cap']) T) (hx : Below W4.heap.size W4 WX) (hB : W4.heap.size < WX.heap.size) (hb : Below WX.heap.size WX W) (hv : ∀ k, v.ownBlock = some k → WX.heap.size ≤ k)
    (hL : W.heap[L]? = some (.cells #[.int .i64 k', .int .i64 n', .string s', .slice a' len' cap'] 24 (0, 0))) (hLl : WX.heap.size ≤ L) (hne : v.ownBlock ≠ some L) : TsIn (Pv W W4.heap.size v) W (.slice (some ⟨L, 0, none⟩) 1 1) [T] := by
  obtain ⟨c0, c1, c2, c3⟩ := tbox_cells hL
  have hc := hx.trans (hb.mono hx.size)
  refine ⟨some ⟨L, 0, none⟩, 1, rfl, by simp, by unfold maxLen; omega, (fun h => by cases h), fun i hi => ?_⟩
  have hi' : i = 0 := by simp at hi; omega
  subst hi'
  exact ⟨L, 0, k', n', s', a', len', cap', rfl, ⟨(Array.getElem?_eq_some_iff.1 hL).1, hne, by omega⟩, c0, c1, c2, c3, h.carry (fun b hb => hc.block b hb) (fun b (hb : b < W4.heap.size) => ⟨Nat.lt_of_lt_of_le hb hc.size, fun e => by have := hv b e; omega, by omega⟩)⟩
theorem formT {p : Nat → Prop} {W : World} {r : Value} {T : Tm} (h : TmIn p W r T) : ∃ k n s a len cap, r = .agg #[.int .i64 k, .int .i64 n, .string s, .slice a len cap] ∧ True := by
  obtain ⟨k, n, s, a, len, cap, ks, rfl, -⟩ := h.form
  exact ⟨_, _, _, _, _, _, rfl, trivial⟩
theorem boxF {W : World} {B : Nat} {c : Array Value} {t : TypeId} (h : W.heap[B]? = some (.cells c t (0, 0))) (j : Nat) : W.frozen? ⟨B, j, none⟩ = false := by simp [World.frozen?, h]
theorem fin12 {WX W : World} {V : Nat} {k n : Int} {s : ByteArray} {a : Option Addr} {l c : Nat} {T : Tm} (E : Below WX.heap.size WX W) (hV : WX.heap.size ≤ V) (Y : W.heap[V]? = some (.cells #[.int .i64 0, .int .i64 0, .string (ByteArray.mk #[]), .slice none 0 0] 24 (0, 0)))
    (R : TmIn (fun b => b < W.heap.size ∧ b ≠ V) W (.agg #[.int .i64 k, .int .i64 n, .string s, .slice a l c]) T) :
    ((((W.setCell ⟨V, 0, none⟩ (.int .i64 k)).setCell ⟨V, 1, none⟩ (.int .i64 n)).setCell ⟨V, 2, none⟩ (.string s)).setCell ⟨V, 3, none⟩ (.slice a l c)).heap[V]? = some (.cells #[.int .i64 k, .int .i64 n, .string s, .slice a l c] 24 (0, 0)) ∧ Has ((((W.setCell ⟨V, 0, none⟩ (.int .i64 k)).setCell ⟨V, 1, none⟩ (.int .i64 n)).setCell ⟨V, 2, none⟩ (.string s)).setCell ⟨V, 3, none⟩ (.slice a l c)) (.agg #[.int .i64 k, .int .i64 n, .string s, .slice a l c]) T ∧ Below WX.heap.size WX ((((W.setCell ⟨V, 0, none⟩ (.int .i64 k)).setCell ⟨V, 1, none⟩ (.int .i64 n)).setCell ⟨V, 2, none⟩ (.string s)).setCell ⟨V, 3, none⟩ (.slice a l c)) := by
  have sc : ∀ (o : Nat) (v : Value) (w : World), Below WX.heap.size WX w → Below WX.heap.size WX (w.setCell ⟨V, o, none⟩ v) := fun o v w h => h.setCell (p := ⟨V, o, none⟩) hV v
  refine ⟨four_block Y _ _ _ _, R.carry (fun b hb => ?_) (fun b hb => ?_), sc _ _ _ (sc _ _ _ (sc _ _ _ (sc _ _ _ E)))⟩
  · have := hb.2
    rw [Below.heap_setCell _ _ _ _ (by simp; omega), Below.heap_setCell _ _ _ _ (by simp; omega), Below.heap_setCell _ _ _ _ (by simp; omega), Below.heap_setCell _ _ _ _ (by simp; omega)]
  · have := hb.1
    simp
    omega

theorem cB_lss (s t : ByteArray) : Op.bytesLess s.toList t.toList = decide (cB s t < 0) := by rw [less_cb, ByteArray.toList_eq, ByteArray.toList_eq]
set_option maxRecDepth 100000 in
set_option maxHeartbeats 8000000 in
theorem orderKinds_at (x n m : Int) (s t : ByteArray) (v : Value) (ks : List Tm) (w : World) (hx0 : 0 ≤ x) (hx1 : x ≤ 65535) (hn : i64ok n) (hm : i64ok m) (hs : s.size ≤ maxLen) (ht : t.size ≤ maxLen) (hv : HasTs w v ks) (hsz : Tm.sizes ks ≤ 1000000000) :
    Calls Try.prog 7 #[.int .u16 x, .int .i64 n, .int .i64 m, .string s, .string t, v] w fun r w' => r = .returned (.bool true) ∧ Below w.heap.size w w' := by
  obtain ⟨a, cap, rfl, hc, hmx, ha, hx⟩ := id hv
  have HV := Lib.hid hv
  have HX := Lib.hid (show i64ok x from ⟨by omega, by omega⟩)
  have Hn := Lib.hid (And.intro hn (And.intro hm (And.intro hs (And.intro ht hsz))))
  have hwx : IntKind.i64.wrap x = x := by rw [IntKind.wrap_i64]; omega
  have hlk : ks.length ≤ 1000000000 := Nat.le_trans (Tm.length_le_sizes ks) hsz
  clear hv hn hm hs ht hsz
  go_enter Try.func7, Try.ntmps7
  go_wp2_with fail
  refine (oshown_at w).mono ?_
  rintro r w1 ⟨rfl, hb1⟩
  have HB1 := Lib.hid hb1
  clear hb1
  go_wp2_with fail
  go_loopw [14] (fun i wr => ∃ j : Nat, i = .int .i64 j ∧ j ≤ ks.length ∧ j ≤ 9 ∧ Below w.heap.size w wr ∧ Hid (∀ (q : Nat) (hq : q < ks.length), q < j → ks[q].size ≤ 500)) (fun i _ => ks.length - (intOf i).toNat)
  case atStart => exact ⟨0, rfl, Nat.zero_le _, Nat.zero_le _, HB1.out, fun q _ h => absurd h (Nat.not_lt_zero _)⟩
  case round =>
    obtain ⟨j, rfl, hjl, hj9, hbr, HF⟩ := hrel
    by_cases hlt : j < ks.length
    · have hltz : (j : Int) < (ks.length : Int) := by omega
      by_cases h9 : j < 9
      · have h9z : (j : Int) < 9 := by omega
        obtain ⟨b, o, k', n', s', a', l', c', rfl, hbn, c0, c1, c2, c3', htm⟩ := hx j hlt
        have hbn' : b < w.heap.size := hbn
        have q0 := (hbr.cell (p := ⟨b, o + j * 4, none⟩) hbn').trans c0
        have q1 := (hbr.cell (p := ⟨b, o + j * 4 + 1, none⟩) hbn').trans c1
        have q2 := (hbr.cell (p := ⟨b, o + j * 4 + 2, none⟩) hbn').trans c2
        have q3 := (hbr.cell (p := ⟨b, o + j * 4 + 3, none⟩) hbn').trans c3'
        have ht1 : Has wr (.agg #[.int .i64 k', .int .i64 n', .string s', .slice a' l' c']) ks[j] := IsTm.later hbr hbr.size htm
        have hfew := ofew_at _ ks[j] wr ht1 (by have := Tm.size_le_sizes (List.getElem_mem hlt); have := Hn.out.2.2.2.2; omega)
        have HB := Lib.hid hbr
        clear c0 c1 c2 c3' htm ht1 hbr
        by_cases hf : ks[j].size ≤ 500
        · rw [decide_eq_true hf] at hfew
          have HF' := Lib.hid hf
          clear hf
          go_wp2_with (go_at_call 11; refine hfew.mono ?_; clear hfew; rintro r w3 ⟨rfl, hb3⟩)
          go_roundw
          case rel => exact ⟨j + 1, by go_num, hlt, by omega, HB.out.trans (hb3.mono HB.out.size), fun q hq h => by
            by_cases e : q = j
            · subst e; exact HF'.out
            · exact HF.out q hq (by omega)⟩
          case measure => simp [intOf]; omega
        · rw [decide_eq_false hf] at hfew
          clear hf
          go_wp2_with (go_at_call 11; refine hfew.mono ?_; clear hfew; rintro r w3 ⟨rfl, hb3⟩)
          (try rw [Exit.noGoto_ret])
          go_ret
          exact ⟨rfl, HB.out.trans (hb3.mono HB.out.size)⟩
      · have h9z : ¬ (j : Int) < 9 := by omega
        have h8z : (8 : Int) < (ks.length : Int) := by omega
        go_wp2_with fail
        go_ret
        exact ⟨rfl, hbr⟩
    · have hltz : ¬ (j : Int) < (ks.length : Int) := by omega
      by_cases h8 : 8 < ks.length
      · have h8z : (8 : Int) < (ks.length : Int) := by omega
        go_wp2_with fail
        go_ret
        exact ⟨rfl, hbr⟩
      · have h8z : ¬ (8 : Int) < (ks.length : Int) := by omega
        have hks : Tm.sizes ks ≤ 1000000000 := Hn.out.2.2.2.2
        have HK := Lib.hid (HasTs.below HV.out hbr)
        have HB := Lib.hid hbr
        clear hbr hx HF HV
        go_upto_region 12 with (first
          | (go_at_call 25; refine Calls.mono (let_at x _ HX.out) ?_; intro r w2 h2; obtain ⟨k2, n2, s2, a2, l2, c2, rfl, h2, b2⟩ := h2.has)
          | (go_at_call 26; refine Calls.mono (num_at n _ Hn.out.1) ?_; intro r w3 h3; obtain ⟨k3, n3, s3, a3, l3, c3', rfl, h3, b3⟩ := h3.has)
          | (go_at_call 27; refine Calls.mono (make_at s _ ks _ Hn.out.2.2.1 (HasTs.below HK.out ?_) (by omega)) ?_; (repeat (first | with_reducible exact Below.refl _ _ | with_reducible apply below_al | with_reducible apply below_dr | ((with_reducible apply below_tr); (with_reducible assumption)))); intro r w4 h4; obtain ⟨k4, n4, s4, a4, l4, c4, rfl, h4, b4⟩ := h4.has))
        have tw2 : Has (w2.alloc (.cells #[.int .i64 k2, .int .i64 n2, .string s2, .slice a2 l2 c2] 24)) (.agg #[.int .i64 k2, .int .i64 n2, .string s2, .slice a2 l2 c2]) _ := h2.below ((Below.refl _ _).alloc (Nat.le_refl _) _)
        have tw3 : Has (w3.alloc (.cells #[.int .i64 k3, .int .i64 n3, .string s3, .slice a3 l3 c3'] 24)) (.agg #[.int .i64 k3, .int .i64 n3, .string s3, .slice a3 l3 c3']) _ := h3.below ((Below.refl _ _).alloc (Nat.le_refl _) _)
        have tw4 : Has (w4.alloc (.cells #[.int .i64 k4, .int .i64 n4, .string s4, .slice a4 l4 c4] 24)) (.agg #[.int .i64 k4, .int .i64 n4, .string s4, .slice a4 l4 c4]) _ := h4.below ((Below.refl _ _).alloc (Nat.le_refl _) _)
        have y2 := tbox_below (World.alloc_heap_new w2 (.cells #[.int .i64 k2, .int .i64 n2, .string s2, .slice a2 l2 c2] 24)) b3
        have y2' := tbox_below (tbox_below y2 ((Below.refl w3.heap.size w3).alloc (Nat.le_refl _) (.cells #[.int .i64 k3, .int .i64 n3, .string s3, .slice a3 l3 c3'] 24))) b4
        have y3 := tbox_below (World.alloc_heap_new w3 (.cells #[.int .i64 k3, .int .i64 n3, .string s3, .slice a3 l3 c3'] 24)) b4
        have y2'' := tbox_below y2' ((Below.refl w4.heap.size w4).alloc (Nat.le_refl _) (.cells #[.int .i64 k4, .int .i64 n4, .string s4, .slice a4 l4 c4] 24))
        have y3'' := tbox_below y3 ((Below.refl w4.heap.size w4).alloc (Nat.le_refl _) (.cells #[.int .i64 k4, .int .i64 n4, .string s4, .slice a4 l4 c4] 24))
        have y4'' := World.alloc_heap_new w4 (.cells #[.int .i64 k4, .int .i64 n4, .string s4, .slice a4 l4 c4] 24)
        have z2 := (h2.below ((Below.refl w2.heap.size w2).alloc (Nat.le_refl _) (.cells #[.int .i64 k2, .int .i64 n2, .string s2, .slice a2 l2 c2] 24)))
        have z2' := ((z2.below b3).below ((Below.refl w3.heap.size w3).alloc (Nat.le_refl _) (.cells #[.int .i64 k3, .int .i64 n3, .string s3, .slice a3 l3 c3'] 24))).below b4
        have z3' := (h3.below ((Below.refl w3.heap.size w3).alloc (Nat.le_refl _) (.cells #[.int .i64 k3, .int .i64 n3, .string s3, .slice a3 l3 c3'] 24))).below b4
        obtain ⟨wX, hwX⟩ : ∃ wX, wX = w4.alloc (.cells #[.int .i64 k4, .int .i64 n4, .string s4, .slice a4 l4 c4] 24) := ⟨_, rfl⟩
        have hBX : Below w4.heap.size w4 wX := by rw [hwX]; exact (Below.refl _ _).alloc (Nat.le_refl _) _
        rw [← hwX] at y2'' y3'' y4''
        have h2X := z2'.below hBX
        have h3X := z3'.below hBX
        have h4X := h4.below hBX
        have hbX : Below wr.heap.size wr wX := by rw [hwX]; (repeat (first | with_reducible exact Below.refl _ _ | with_reducible apply below_al | with_reducible apply below_dr | ((with_reducible apply below_tr); (with_reducible assumption))))
        have HXX := Lib.hid (And.intro h2X (And.intro h3X (And.intro h4X (And.intro y2'' (And.intro y3'' (And.intro y4'' hbX))))))
        have HWX := Lib.hid hwX
        have HT3 := Lib.hid (And.intro z3' hBX)
        have wr4 : wr.heap.size ≤ w4.heap.size := by
          have t2 := b2.size
          have t3 := b3.size
          have t4 := b4.size
          simp at t3 t4
          omega
        clear y2 y2' y3 y2'' y3'' y4'' z2 z2' z3' hwX hBX h2X h3X h4X hbX h2 h3 h4 b2 b3 b4 tw2 tw3 tw4
        rw [← HWX.out]
        go_cut [18] from 49 (fun v wc => ∃ (g : Nat) (k5 n5 : Int) (s5 : ByteArray) (a5 : Option Addr) (l5 c5 : Nat), v = .pointer (some ⟨g, 0, none⟩) ∧ Hid (wc.heap[g]? = some (.cells #[.int .i64 k5, .int .i64 n5, .string s5, .slice a5 l5 c5] 24 (0, 0)) ∧ Has wc (.agg #[.int .i64 k5, .int .i64 n5, .string s5, .slice a5 l5 c5]) (.mk 3 0 t (ks ++ [.mk 2 n (ByteArray.mk #[]) []])) ∧ Below wX.heap.size wX wc))
        case first =>
          clear HWX
          obtain ⟨p8, p9, p10, p11⟩ := tbox_cells HXX.out.2.2.2.2.1
          have HS : ∀ w', Below wX.heap.size wX w' → (fun w' => w'.cell? ⟨w3.heap.size, 0, none⟩ = some (.int .i64 k3) ∧ w'.cell? ⟨w3.heap.size, 1, none⟩ = some (.int .i64 n3) ∧ w'.cell? ⟨w3.heap.size, 2, none⟩ = some (.string s3) ∧ w'.cell? ⟨w3.heap.size, 3, none⟩ = some (.slice a3 l3 c3') ∧ Below wX.heap.size wX w') w' := fun w' hb => ⟨cellK hb p8, cellK hb p9, cellK hb p10, cellK hb p11, hb⟩
          clear p8 p9 p10 p11
          refine wp_region_held_drew (S := (fun w' => w'.cell? ⟨w3.heap.size, 0, none⟩ = some (.int .i64 k3) ∧ w'.cell? ⟨w3.heap.size, 1, none⟩ = some (.int .i64 n3) ∧ w'.cell? ⟨w3.heap.size, 2, none⟩ = some (.string s3) ∧ w'.cell? ⟨w3.heap.size, 3, none⟩ = some (.slice a3 l3 c3') ∧ Below wX.heap.size wX w')) (by kernel_rfl) (HS _ (Below.refl _ _).drew) (fun hHeld => ?_)
          have hdr : Below wX.heap.size wX wX.drew := (Below.refl wX.heap.size wX).drew
          refine wpAnyH_take (i := 0) (v := ?_) rfl (by kernel_rfl) (by kernel_rfl) (by kernel_rfl) (fun _ _ _ h => h) (Or.inl ⟨by kernel_rfl, ?_⟩) hHeld ?_
          rotate_left
          · intro w0 hSw
            (try dsimp only at hSw)
            go_simp
            try (with_reducible rfl)
          try simp only [Act.put, List.setIfInBounds_toArray, List.set_cons_zero, List.set_cons_succ]
          refine wpAnyH_take (i := 2) (v := ?_) rfl (by kernel_rfl) (by kernel_rfl) (by kernel_rfl) (fun _ _ _ h => h) (Or.inl ⟨by kernel_rfl, ?_⟩) hHeld ?_
          rotate_left
          · intro w0 hSw
            (try dsimp only at hSw)
            go_simp
            try (with_reducible rfl)
          try simp only [Act.put, List.setIfInBounds_toArray, List.set_cons_zero, List.set_cons_succ]
          refine wpAnyH_take (i := 4) (v := ?_) rfl (by kernel_rfl) (by kernel_rfl) (by kernel_rfl) (fun _ _ _ h => h) (Or.inl ⟨by kernel_rfl, ?_⟩) hHeld ?_
          rotate_left
          · intro w0 hSw
            (try dsimp only at hSw)
            go_simp
            try (with_reducible rfl)
          try simp only [Act.put, List.setIfInBounds_toArray, List.set_cons_zero, List.set_cons_succ]
          have hB4 : w4.heap.size < wX.heap.size := (Array.getElem?_eq_some_iff.1 HXX.out.2.2.2.2.2.1).1
          have srcK : ∀ (W : World) (v : Value), Below wX.heap.size wX W → (∀ k, v.ownBlock = some k → wX.heap.size ≤ k) → TsIn (Pv W w4.heap.size v) W (.slice a ks.length cap) ks := fun W v hb hv => srcB HK.out wr4 (HXX.out.2.2.2.2.2.2) hB4 hb hv
          have srcL : ∀ (W : World) (v : Value) (L : Nat), Below wX.heap.size wX W → (∀ k, v.ownBlock = some k → wX.heap.size ≤ k) → W.heap[L]? = some (.cells #[.int .i64 k3, .int .i64 n3, .string s3, .slice a3 l3 c3'] 24 (0, 0)) → wX.heap.size ≤ L → v.ownBlock ≠ some L → TsIn (Pv W w4.heap.size v) W (.slice (some ⟨L, 0, none⟩) 1 1) [.mk 2 n (ByteArray.mk #[]) []] := fun W v L hb hv hL hLl hLn => srcO HT3.out.1 HT3.out.2 hB4 hb hv hL hLl hLn
          have ownB : ∀ (W : World) (v : Value), (∀ k, v.ownBlock = some k → wX.heap.size ≤ k) → v.ownBlock ≠ some w4.heap.size := fun W v h e => by have := h _ e; omega
          have zm : Tm.sizes (ks ++ [.mk 2 n (ByteArray.mk #[]) []]) ≤ 1000000000000 := by simp only [Tm.sizes_append, Tm.sizes, Tm.size]; omega
          generalize wX.drew = wD at hHeld hdr ⊢
          have E0 := hdr
          refine wpAnyH_ready (rs := [1, 5, 8]) (by kernel_rfl) (by simp) ?_
          refine AllReadyH.cons rfl (fun K hK => ?_) (AllReadyH.cons rfl (fun K hK => ?_) (AllReadyH.cons rfl (fun K hK => ?_) AllReadyH.nil))
          · -- 1
            go_simp
            obtain ⟨W1, hW1⟩ : ∃ W, W = World.alloc wD (.cells #[] 24) := ⟨_, rfl⟩
            have bA1 : Below wD.heap.size wD W1 := by rw [hW1]; exact (Below.refl _ _).alloc (Nat.le_refl _) _
            have N1 : W1.heap[wD.heap.size]? = some (.cells #[] 24 (0, 0)) := by rw [hW1]; exact World.alloc_heap_new _ _
            have E1 : Below wX.heap.size wX W1 := E0.trans (bA1.mono E0.size)
            have O1 : OwnTs W1 wX.heap.size w4.heap.size (.slice (some ⟨wD.heap.size, 0, none⟩) 0 0) [] := by rw [hW1]; exact OwnTs.empty _ _ _ E0.size
            rw [← hW1]
            clear hW1
            refine hK.out _ _ (HS _ E1) (fun h1 => ?_)
            clear hK K
            try simp only [Act.put, List.setIfInBounds_toArray, List.set_cons_zero, List.set_cons_succ]
            refine wpAnyH_ready (rs := [3, 5, 8]) (by kernel_rfl) (by simp) ?_
            refine AllReadyH.cons rfl (fun K hK => ?_) (AllReadyH.cons rfl (fun K hK => ?_) (AllReadyH.cons rfl (fun K hK => ?_) AllReadyH.nil))
            · -- 3
              refine step_append_ts rfl (.tmp 50) (.tmp 51) rfl wX.heap.size w4.heap.size _ _ [] ks rfl rfl O1 (srcK _ _ E1 O1.lt) (by simp; omega) E1.size (Nat.lt_of_lt_of_le hB4 E1.size) ?_
              intro v2 W2 O2 g2 at2
              rw [List.nil_append] at O2
              have E2 : Below wX.heap.size wX W2 := E1.grown g2 E1.size (fun k e => O1.lt k e)
              obtain ⟨a2', c2', e2⟩ := O2.form
              subst e2
              refine hK.out _ _ (HS _ E2) (fun h2 => ?_)
              clear hK K
              try simp only [Act.put, List.setIfInBounds_toArray, List.set_cons_zero, List.set_cons_succ]
              refine wpAnyH_ready (rs := [5, 8]) (by kernel_rfl) (by simp) ?_
              refine AllReadyH.cons rfl (fun K hK => ?_) (AllReadyH.cons rfl (fun K hK => ?_) AllReadyH.nil)
              · -- 5
                go_simp
                obtain ⟨W3, hW3⟩ : ∃ W, W = World.alloc W2 (.cells #[.int .i64 k3, .int .i64 n3, .string s3, .slice a3 l3 c3'] 24) := ⟨_, rfl⟩
                have bA3 : Below W2.heap.size W2 W3 := by rw [hW3]; exact (Below.refl _ _).alloc (Nat.le_refl _) _
                have N3 : W3.heap[W2.heap.size]? = some (.cells #[.int .i64 k3, .int .i64 n3, .string s3, .slice a3 l3 c3'] 24 (0, 0)) := by rw [hW3]; exact World.alloc_heap_new _ _
                have E3 : Below wX.heap.size wX W3 := E2.trans (bA3.mono E2.size)
                have O3 := O2.alloc (ownB wX _ O2.lt) (.cells #[.int .i64 k3, .int .i64 n3, .string s3, .slice a3 l3 c3'] 24)
                rw [← hW3] at O3
                have G3 := N3
                have GL3 : wX.heap.size ≤ W2.heap.size := E2.size
                have GN3 := fun e => Nat.lt_irrefl _ (O2.lt2 _ e)
                rw [← hW3]
                clear hW3
                refine hK.out _ _ (HS _ E3) (fun h3 => ?_)
                clear hK K
                try simp only [Act.put, List.setIfInBounds_toArray, List.set_cons_zero, List.set_cons_succ]
                refine wpAnyH_ready (rs := [6, 8]) (by kernel_rfl) (by simp) ?_
                refine AllReadyH.cons rfl (fun K hK => ?_) (AllReadyH.cons rfl (fun K hK => ?_) AllReadyH.nil)
                · -- 6
                  refine step_append_ts rfl (.tmp 52) (.tmp 54) rfl wX.heap.size w4.heap.size _ _ ks [.mk 2 n (ByteArray.mk #[]) []] rfl rfl O3 (srcL _ _ _ E3 O3.lt G3 GL3 GN3) (by simp; omega) E3.size (Nat.lt_of_lt_of_le hB4 E3.size) ?_
                  intro v4 W4 O4 g4 at4
                  have E4 : Below wX.heap.size wX W4 := E3.grown g4 E3.size (fun k e => O3.lt k e)
                  obtain ⟨a4', c4', e4⟩ := O4.form
                  subst e4
                  refine hK.out _ _ (HS _ E4) (fun h4 => ?_)
                  clear hK K
                  try simp only [Act.put, List.setIfInBounds_toArray, List.set_cons_zero, List.set_cons_succ]
                  refine wpAnyH_ready (rs := [7, 8]) (by kernel_rfl) (by simp) ?_
                  refine AllReadyH.cons rfl (fun K hK => ?_) (AllReadyH.cons rfl (fun K hK => ?_) AllReadyH.nil)
                  · -- 7
                    go_simp
                    refine (make_at t _ (ks ++ [.mk 2 n (ByteArray.mk #[]) []]) _ Hn.out.2.2.2.1 (lenT O4.ts) zm).mono ?_
                    rintro e W5 ⟨r, rfl, R5, bM5⟩
                    obtain ⟨kk5, nn5, ss5, aa5, ll5, cc5, rfl, -⟩ := formT R5
                    go_wp2_with fail
                    have E5 : Below wX.heap.size wX W5 := E4.trans (bM5.mono E4.size)
                    refine hK.out _ _ (HS _ E5) (fun h5 => ?_)
                    clear hK K
                    try simp only [Act.put, List.setIfInBounds_toArray, List.set_cons_zero, List.set_cons_succ]
                    refine wpAnyH_ready (rs := [8]) (by kernel_rfl) (by simp) ?_
                    refine AllReadyH.cons rfl (fun K hK => ?_) AllReadyH.nil
                    · -- 8
                      go_simp
                      obtain ⟨W6, hW6⟩ : ∃ W, W = World.alloc W5 (.cells #[.int .i64 0, .int .i64 0, .string (ByteArray.mk #[]), .slice none 0 0] 24) := ⟨_, rfl⟩
                      have bA6 : Below W5.heap.size W5 W6 := by rw [hW6]; exact (Below.refl _ _).alloc (Nat.le_refl _) _
                      have N6 : W6.heap[W5.heap.size]? = some (.cells #[.int .i64 0, .int .i64 0, .string (ByteArray.mk #[]), .slice none 0 0] 24 (0, 0)) := by rw [hW6]; exact World.alloc_heap_new _ _
                      have E6 : Below wX.heap.size wX W6 := E5.trans (bA6.mono E5.size)
                      have Y6 := N6
                      have YL6 : wX.heap.size ≤ W5.heap.size := E5.size
                      have R6 := R5.carry (fun b hb => bA6.block b hb.2) (fun b hb => (⟨Nat.lt_of_lt_of_le hb.2 bA6.size, Nat.ne_of_lt hb.2⟩ : b < W6.heap.size ∧ b ≠ W5.heap.size))
                      rw [← hW6]
                      clear hW6
                      refine hK.out _ _ (HS _ E6) (fun h6 => ?_)
                      clear hK K
                      try simp only [Act.put, List.setIfInBounds_toArray, List.set_cons_zero, List.set_cons_succ]
                      refine wpAnyH_ready (rs := [9]) (by kernel_rfl) (by simp) ?_
                      refine AllReadyH.cons rfl (fun K hK => ?_) AllReadyH.nil
                      · -- 9
                        obtain ⟨x0, x1, x2, x3⟩ := tbox_cells Y6
                        have y0 := boxF Y6 0
                        have y1 := boxF Y6 1
                        have y2 := boxF Y6 2
                        have y3 := boxF Y6 3
                        go_simp
                        have F7 := fin12 E6 YL6 Y6 R6
                        refine hK.out _ _ (HS _ F7.2.2) (fun h7 => ?_)
                        clear hK K
                        try simp only [Act.put, List.setIfInBounds_toArray, List.set_cons_zero, List.set_cons_succ]
                        refine wpAnyH_done (by kernel_rfl) ?_ _
                        go_wp2_with fail
                        go_meet
                        case rel => exact ⟨_, _, _, _, _, _, _, rfl, F7⟩
                  · -- 8
                    go_simp
                    obtain ⟨W8, hW8⟩ : ∃ W, W = World.alloc W4 (.cells #[.int .i64 0, .int .i64 0, .string (ByteArray.mk #[]), .slice none 0 0] 24) := ⟨_, rfl⟩
                    have bA8 : Below W4.heap.size W4 W8 := by rw [hW8]; exact (Below.refl _ _).alloc (Nat.le_refl _) _
                    have N8 : W8.heap[W4.heap.size]? = some (.cells #[.int .i64 0, .int .i64 0, .string (ByteArray.mk #[]), .slice none 0 0] 24 (0, 0)) := by rw [hW8]; exact World.alloc_heap_new _ _
                    have E8 : Below wX.heap.size wX W8 := E4.trans (bA8.mono E4.size)
                    have O8 := O4.alloc (ownB wX _ O4.lt) (.cells #[.int .i64 0, .int .i64 0, .string (ByteArray.mk #[]), .slice none 0 0] 24)
                    rw [← hW8] at O8
                    have Y8 := N8
                    have YL8 : wX.heap.size ≤ W4.heap.size := E4.size
                    have YN8 := fun e => Nat.lt_irrefl _ (O4.lt2 _ e)
                    rw [← hW8]
                    clear hW8
                    refine hK.out _ _ (HS _ E8) (fun h8 => ?_)
                    clear hK K
                    try simp only [Act.put, List.setIfInBounds_toArray, List.set_cons_zero, List.set_cons_succ]
                    refine wpAnyH_ready (rs := [7]) (by kernel_rfl) (by simp) ?_
                    refine AllReadyH.cons rfl (fun K hK => ?_) AllReadyH.nil
                    · -- 7
                      go_simp
                      refine (make_at t _ (ks ++ [.mk 2 n (ByteArray.mk #[]) []]) _ Hn.out.2.2.2.1 (lenT O8.ts) zm).mono ?_
                      rintro e W9 ⟨r, rfl, R9, bM9⟩
                      obtain ⟨kk9, nn9, ss9, aa9, ll9, cc9, rfl, -⟩ := formT R9
                      go_wp2_with fail
                      have E9 : Below wX.heap.size wX W9 := E8.trans (bM9.mono E8.size)
                      have vlt9 := (Array.getElem?_eq_some_iff.1 Y8).1
                      have Y9 := tbox_below Y8 bM9
                      have YL9 := YL8
                      have R9 := R9.carry (fun b _ => rfl) (fun b hb => (⟨hb.2, fun e => by have := hb.1; omega⟩ : b < W9.heap.size ∧ b ≠ W4.heap.size))
                      refine hK.out _ _ (HS _ E9) (fun h9 => ?_)
                      clear hK K
                      try simp only [Act.put, List.setIfInBounds_toArray, List.set_cons_zero, List.set_cons_succ]
                      refine wpAnyH_ready (rs := [9]) (by kernel_rfl) (by simp) ?_
                      refine AllReadyH.cons rfl (fun K hK => ?_) AllReadyH.nil
                      · -- 9
                        obtain ⟨x0, x1, x2, x3⟩ := tbox_cells Y9
                        have y0 := boxF Y9 0
                        have y1 := boxF Y9 1
                        have y2 := boxF Y9 2
                        have y3 := boxF Y9 3
                        go_simp
                        have F10 := fin12 E9 YL9 Y9 R9
                        refine hK.out _ _ (HS _ F10.2.2) (fun h10 => ?_)
                        clear hK K
                        try simp only [Act.put, List.setIfInBounds_toArray, List.set_cons_zero, List.set_cons_succ]
                        refine wpAnyH_done (by kernel_rfl) ?_ _
                        go_wp2_with fail
                        go_meet
                        case rel => exact ⟨_, _, _, _, _, _, _, rfl, F10⟩
                · -- 8
                  go_simp
                  obtain ⟨W11, hW11⟩ : ∃ W, W = World.alloc W3 (.cells #[.int .i64 0, .int .i64 0, .string (ByteArray.mk #[]), .slice none 0 0] 24) := ⟨_, rfl⟩
                  have bA11 : Below W3.heap.size W3 W11 := by rw [hW11]; exact (Below.refl _ _).alloc (Nat.le_refl _) _
                  have N11 : W11.heap[W3.heap.size]? = some (.cells #[.int .i64 0, .int .i64 0, .string (ByteArray.mk #[]), .slice none 0 0] 24 (0, 0)) := by rw [hW11]; exact World.alloc_heap_new _ _
                  have E11 : Below wX.heap.size wX W11 := E3.trans (bA11.mono E3.size)
                  have O11 := O3.alloc (ownB wX _ O3.lt) (.cells #[.int .i64 0, .int .i64 0, .string (ByteArray.mk #[]), .slice none 0 0] 24)
                  rw [← hW11] at O11
                  have G11 := tbox_below G3 bA11
                  have GN11 := GN3
                  have GL11 := GL3
                  have Y11 := N11
                  have YL11 : wX.heap.size ≤ W3.heap.size := E3.size
                  have YN11 := fun e => Nat.lt_irrefl _ (O3.lt2 _ e)
                  rw [← hW11]
                  clear hW11
                  refine hK.out _ _ (HS _ E11) (fun h11 => ?_)
                  clear hK K
                  try simp only [Act.put, List.setIfInBounds_toArray, List.set_cons_zero, List.set_cons_succ]
                  refine wpAnyH_ready (rs := [6]) (by kernel_rfl) (by simp) ?_
                  refine AllReadyH.cons rfl (fun K hK => ?_) AllReadyH.nil
                  · -- 6
                    refine step_append_ts rfl (.tmp 52) (.tmp 54) rfl wX.heap.size w4.heap.size _ _ ks [.mk 2 n (ByteArray.mk #[]) []] rfl rfl O11 (srcL _ _ _ E11 O11.lt G11 GL11 GN11) (by simp; omega) E11.size (Nat.lt_of_lt_of_le hB4 E11.size) ?_
                    intro v12 W12 O12 g12 at12
                    have E12 : Below wX.heap.size wX W12 := E11.grown g12 E11.size (fun k e => O11.lt k e)
                    have Y12 := (g12.block _ (Array.getElem?_eq_some_iff.1 Y11).1 (Ne.symm YN11)).trans Y11
                    have YL12 := YL11
                    have YN12 := ownNe Y11 YN11 at12
                    obtain ⟨a12', c12', e12⟩ := O12.form
                    subst e12
                    refine hK.out _ _ (HS _ E12) (fun h12 => ?_)
                    clear hK K
                    try simp only [Act.put, List.setIfInBounds_toArray, List.set_cons_zero, List.set_cons_succ]
                    refine wpAnyH_ready (rs := [7]) (by kernel_rfl) (by simp) ?_
                    refine AllReadyH.cons rfl (fun K hK => ?_) AllReadyH.nil
                    · -- 7
                      go_simp
                      refine (make_at t _ (ks ++ [.mk 2 n (ByteArray.mk #[]) []]) _ Hn.out.2.2.2.1 (lenT O12.ts) zm).mono ?_
                      rintro e W13 ⟨r, rfl, R13, bM13⟩
                      obtain ⟨kk13, nn13, ss13, aa13, ll13, cc13, rfl, -⟩ := formT R13
                      go_wp2_with fail
                      have E13 : Below wX.heap.size wX W13 := E12.trans (bM13.mono E12.size)
                      have vlt13 := (Array.getElem?_eq_some_iff.1 Y12).1
                      have Y13 := tbox_below Y12 bM13
                      have YL13 := YL12
                      have R13 := R13.carry (fun b _ => rfl) (fun b hb => (⟨hb.2, fun e => by have := hb.1; omega⟩ : b < W13.heap.size ∧ b ≠ W3.heap.size))
                      refine hK.out _ _ (HS _ E13) (fun h13 => ?_)
                      clear hK K
                      try simp only [Act.put, List.setIfInBounds_toArray, List.set_cons_zero, List.set_cons_succ]
                      refine wpAnyH_ready (rs := [9]) (by kernel_rfl) (by simp) ?_
                      refine AllReadyH.cons rfl (fun K hK => ?_) AllReadyH.nil
                      · -- 9
                        obtain ⟨x0, x1, x2, x3⟩ := tbox_cells Y13
                        have y0 := boxF Y13 0
                        have y1 := boxF Y13 1
                        have y2 := boxF Y13 2
                        have y3 := boxF Y13 3
                        go_simp
                        have F14 := fin12 E13 YL13 Y13 R13
                        refine hK.out _ _ (HS _ F14.2.2) (fun h14 => ?_)
                        clear hK K
                        try simp only [Act.put, List.setIfInBounds_toArray, List.set_cons_zero, List.set_cons_succ]
                        refine wpAnyH_done (by kernel_rfl) ?_ _
                        go_wp2_with fail
                        go_meet
                        case rel => exact ⟨_, _, _, _, _, _, _, rfl, F14⟩
              · -- 8
                go_simp
                obtain ⟨W15, hW15⟩ : ∃ W, W = World.alloc W2 (.cells #[.int .i64 0, .int .i64 0, .string (ByteArray.mk #[]), .slice none 0 0] 24) := ⟨_, rfl⟩
                have bA15 : Below W2.heap.size W2 W15 := by rw [hW15]; exact (Below.refl _ _).alloc (Nat.le_refl _) _
                have N15 : W15.heap[W2.heap.size]? = some (.cells #[.int .i64 0, .int .i64 0, .string (ByteArray.mk #[]), .slice none 0 0] 24 (0, 0)) := by rw [hW15]; exact World.alloc_heap_new _ _
                have E15 : Below wX.heap.size wX W15 := E2.trans (bA15.mono E2.size)
                have O15 := O2.alloc (ownB wX _ O2.lt) (.cells #[.int .i64 0, .int .i64 0, .string (ByteArray.mk #[]), .slice none 0 0] 24)
                rw [← hW15] at O15
                have Y15 := N15
                have YL15 : wX.heap.size ≤ W2.heap.size := E2.size
                have YN15 := fun e => Nat.lt_irrefl _ (O2.lt2 _ e)
                rw [← hW15]
                clear hW15
                refine hK.out _ _ (HS _ E15) (fun h15 => ?_)
                clear hK K
                try simp only [Act.put, List.setIfInBounds_toArray, List.set_cons_zero, List.set_cons_succ]
                refine wpAnyH_ready (rs := [5]) (by kernel_rfl) (by simp) ?_
                refine AllReadyH.cons rfl (fun K hK => ?_) AllReadyH.nil
                · -- 5
                  go_simp
                  obtain ⟨W16, hW16⟩ : ∃ W, W = World.alloc W15 (.cells #[.int .i64 k3, .int .i64 n3, .string s3, .slice a3 l3 c3'] 24) := ⟨_, rfl⟩
                  have bA16 : Below W15.heap.size W15 W16 := by rw [hW16]; exact (Below.refl _ _).alloc (Nat.le_refl _) _
                  have N16 : W16.heap[W15.heap.size]? = some (.cells #[.int .i64 k3, .int .i64 n3, .string s3, .slice a3 l3 c3'] 24 (0, 0)) := by rw [hW16]; exact World.alloc_heap_new _ _
                  have E16 : Below wX.heap.size wX W16 := E15.trans (bA16.mono E15.size)
                  have O16 := O15.alloc (ownB wX _ O15.lt) (.cells #[.int .i64 k3, .int .i64 n3, .string s3, .slice a3 l3 c3'] 24)
                  rw [← hW16] at O16
                  have Y16 := tbox_below Y15 bA16
                  have YL16 := YL15
                  have YN16 := YN15
                  have G16 := N16
                  have GL16 : wX.heap.size ≤ W15.heap.size := E15.size
                  have GN16 := fun e => Nat.lt_irrefl _ (O15.lt2 _ e)
                  rw [← hW16]
                  clear hW16
                  refine hK.out _ _ (HS _ E16) (fun h16 => ?_)
                  clear hK K
                  try simp only [Act.put, List.setIfInBounds_toArray, List.set_cons_zero, List.set_cons_succ]
                  refine wpAnyH_ready (rs := [6]) (by kernel_rfl) (by simp) ?_
                  refine AllReadyH.cons rfl (fun K hK => ?_) AllReadyH.nil
                  · -- 6
                    refine step_append_ts rfl (.tmp 52) (.tmp 54) rfl wX.heap.size w4.heap.size _ _ ks [.mk 2 n (ByteArray.mk #[]) []] rfl rfl O16 (srcL _ _ _ E16 O16.lt G16 GL16 GN16) (by simp; omega) E16.size (Nat.lt_of_lt_of_le hB4 E16.size) ?_
                    intro v17 W17 O17 g17 at17
                    have E17 : Below wX.heap.size wX W17 := E16.grown g17 E16.size (fun k e => O16.lt k e)
                    have Y17 := (g17.block _ (Array.getElem?_eq_some_iff.1 Y16).1 (Ne.symm YN16)).trans Y16
                    have YL17 := YL16
                    have YN17 := ownNe Y16 YN16 at17
                    obtain ⟨a17', c17', e17⟩ := O17.form
                    subst e17
                    refine hK.out _ _ (HS _ E17) (fun h17 => ?_)
                    clear hK K
                    try simp only [Act.put, List.setIfInBounds_toArray, List.set_cons_zero, List.set_cons_succ]
                    refine wpAnyH_ready (rs := [7]) (by kernel_rfl) (by simp) ?_
                    refine AllReadyH.cons rfl (fun K hK => ?_) AllReadyH.nil
                    · -- 7
                      go_simp
                      refine (make_at t _ (ks ++ [.mk 2 n (ByteArray.mk #[]) []]) _ Hn.out.2.2.2.1 (lenT O17.ts) zm).mono ?_
                      rintro e W18 ⟨r, rfl, R18, bM18⟩
                      obtain ⟨kk18, nn18, ss18, aa18, ll18, cc18, rfl, -⟩ := formT R18
                      go_wp2_with fail
                      have E18 : Below wX.heap.size wX W18 := E17.trans (bM18.mono E17.size)
                      have vlt18 := (Array.getElem?_eq_some_iff.1 Y17).1
                      have Y18 := tbox_below Y17 bM18
                      have YL18 := YL17
                      have R18 := R18.carry (fun b _ => rfl) (fun b hb => (⟨hb.2, fun e => by have := hb.1; omega⟩ : b < W18.heap.size ∧ b ≠ W2.heap.size))
                      refine hK.out _ _ (HS _ E18) (fun h18 => ?_)
                      clear hK K
                      try simp only [Act.put, List.setIfInBounds_toArray, List.set_cons_zero, List.set_cons_succ]
                      refine wpAnyH_ready (rs := [9]) (by kernel_rfl) (by simp) ?_
                      refine AllReadyH.cons rfl (fun K hK => ?_) AllReadyH.nil
                      · -- 9
                        obtain ⟨x0, x1, x2, x3⟩ := tbox_cells Y18
                        have y0 := boxF Y18 0
                        have y1 := boxF Y18 1
                        have y2 := boxF Y18 2
                        have y3 := boxF Y18 3
                        go_simp
                        have F19 := fin12 E18 YL18 Y18 R18
                        refine hK.out _ _ (HS _ F19.2.2) (fun h19 => ?_)
                        clear hK K
                        try simp only [Act.put, List.setIfInBounds_toArray, List.set_cons_zero, List.set_cons_succ]
                        refine wpAnyH_done (by kernel_rfl) ?_ _
                        go_wp2_with fail
                        go_meet
                        case rel => exact ⟨_, _, _, _, _, _, _, rfl, F19⟩
            · -- 5
              go_simp
              obtain ⟨W20, hW20⟩ : ∃ W, W = World.alloc W1 (.cells #[.int .i64 k3, .int .i64 n3, .string s3, .slice a3 l3 c3'] 24) := ⟨_, rfl⟩
              have bA20 : Below W1.heap.size W1 W20 := by rw [hW20]; exact (Below.refl _ _).alloc (Nat.le_refl _) _
              have N20 : W20.heap[W1.heap.size]? = some (.cells #[.int .i64 k3, .int .i64 n3, .string s3, .slice a3 l3 c3'] 24 (0, 0)) := by rw [hW20]; exact World.alloc_heap_new _ _
              have E20 : Below wX.heap.size wX W20 := E1.trans (bA20.mono E1.size)
              have O20 := O1.alloc (ownB wX _ O1.lt) (.cells #[.int .i64 k3, .int .i64 n3, .string s3, .slice a3 l3 c3'] 24)
              rw [← hW20] at O20
              have G20 := N20
              have GL20 : wX.heap.size ≤ W1.heap.size := E1.size
              have GN20 := fun e => Nat.lt_irrefl _ (O1.lt2 _ e)
              rw [← hW20]
              clear hW20
              refine hK.out _ _ (HS _ E20) (fun h20 => ?_)
              clear hK K
              try simp only [Act.put, List.setIfInBounds_toArray, List.set_cons_zero, List.set_cons_succ]
              refine wpAnyH_ready (rs := [3, 8]) (by kernel_rfl) (by simp) ?_
              refine AllReadyH.cons rfl (fun K hK => ?_) (AllReadyH.cons rfl (fun K hK => ?_) AllReadyH.nil)
              · -- 3
                refine step_append_ts rfl (.tmp 50) (.tmp 51) rfl wX.heap.size w4.heap.size _ _ [] ks rfl rfl O20 (srcK _ _ E20 O20.lt) (by simp; omega) E20.size (Nat.lt_of_lt_of_le hB4 E20.size) ?_
                intro v21 W21 O21 g21 at21
                rw [List.nil_append] at O21
                have E21 : Below wX.heap.size wX W21 := E20.grown g21 E20.size (fun k e => O20.lt k e)
                have G21 := (g21.block _ (Array.getElem?_eq_some_iff.1 G20).1 (Ne.symm GN20)).trans G20
                have GL21 := GL20
                have GN21 := ownNe G20 GN20 at21
                obtain ⟨a21', c21', e21⟩ := O21.form
                subst e21
                refine hK.out _ _ (HS _ E21) (fun h21 => ?_)
                clear hK K
                try simp only [Act.put, List.setIfInBounds_toArray, List.set_cons_zero, List.set_cons_succ]
                refine wpAnyH_ready (rs := [6, 8]) (by kernel_rfl) (by simp) ?_
                refine AllReadyH.cons rfl (fun K hK => ?_) (AllReadyH.cons rfl (fun K hK => ?_) AllReadyH.nil)
                · -- 6
                  refine step_append_ts rfl (.tmp 52) (.tmp 54) rfl wX.heap.size w4.heap.size _ _ ks [.mk 2 n (ByteArray.mk #[]) []] rfl rfl O21 (srcL _ _ _ E21 O21.lt G21 GL21 GN21) (by simp; omega) E21.size (Nat.lt_of_lt_of_le hB4 E21.size) ?_
                  intro v22 W22 O22 g22 at22
                  have E22 : Below wX.heap.size wX W22 := E21.grown g22 E21.size (fun k e => O21.lt k e)
                  obtain ⟨a22', c22', e22⟩ := O22.form
                  subst e22
                  refine hK.out _ _ (HS _ E22) (fun h22 => ?_)
                  clear hK K
                  try simp only [Act.put, List.setIfInBounds_toArray, List.set_cons_zero, List.set_cons_succ]
                  refine wpAnyH_ready (rs := [7, 8]) (by kernel_rfl) (by simp) ?_
                  refine AllReadyH.cons rfl (fun K hK => ?_) (AllReadyH.cons rfl (fun K hK => ?_) AllReadyH.nil)
                  · -- 7
                    go_simp
                    refine (make_at t _ (ks ++ [.mk 2 n (ByteArray.mk #[]) []]) _ Hn.out.2.2.2.1 (lenT O22.ts) zm).mono ?_
                    rintro e W23 ⟨r, rfl, R23, bM23⟩
                    obtain ⟨kk23, nn23, ss23, aa23, ll23, cc23, rfl, -⟩ := formT R23
                    go_wp2_with fail
                    have E23 : Below wX.heap.size wX W23 := E22.trans (bM23.mono E22.size)
                    refine hK.out _ _ (HS _ E23) (fun h23 => ?_)
                    clear hK K
                    try simp only [Act.put, List.setIfInBounds_toArray, List.set_cons_zero, List.set_cons_succ]
                    refine wpAnyH_ready (rs := [8]) (by kernel_rfl) (by simp) ?_
                    refine AllReadyH.cons rfl (fun K hK => ?_) AllReadyH.nil
                    · -- 8
                      go_simp
                      obtain ⟨W24, hW24⟩ : ∃ W, W = World.alloc W23 (.cells #[.int .i64 0, .int .i64 0, .string (ByteArray.mk #[]), .slice none 0 0] 24) := ⟨_, rfl⟩
                      have bA24 : Below W23.heap.size W23 W24 := by rw [hW24]; exact (Below.refl _ _).alloc (Nat.le_refl _) _
                      have N24 : W24.heap[W23.heap.size]? = some (.cells #[.int .i64 0, .int .i64 0, .string (ByteArray.mk #[]), .slice none 0 0] 24 (0, 0)) := by rw [hW24]; exact World.alloc_heap_new _ _
                      have E24 : Below wX.heap.size wX W24 := E23.trans (bA24.mono E23.size)
                      have Y24 := N24
                      have YL24 : wX.heap.size ≤ W23.heap.size := E23.size
                      have R24 := R23.carry (fun b hb => bA24.block b hb.2) (fun b hb => (⟨Nat.lt_of_lt_of_le hb.2 bA24.size, Nat.ne_of_lt hb.2⟩ : b < W24.heap.size ∧ b ≠ W23.heap.size))
                      rw [← hW24]
                      clear hW24
                      refine hK.out _ _ (HS _ E24) (fun h24 => ?_)
                      clear hK K
                      try simp only [Act.put, List.setIfInBounds_toArray, List.set_cons_zero, List.set_cons_succ]
                      refine wpAnyH_ready (rs := [9]) (by kernel_rfl) (by simp) ?_
                      refine AllReadyH.cons rfl (fun K hK => ?_) AllReadyH.nil
                      · -- 9
                        obtain ⟨x0, x1, x2, x3⟩ := tbox_cells Y24
                        have y0 := boxF Y24 0
                        have y1 := boxF Y24 1
                        have y2 := boxF Y24 2
                        have y3 := boxF Y24 3
                        go_simp
                        have F25 := fin12 E24 YL24 Y24 R24
                        refine hK.out _ _ (HS _ F25.2.2) (fun h25 => ?_)
                        clear hK K
                        try simp only [Act.put, List.setIfInBounds_toArray, List.set_cons_zero, List.set_cons_succ]
                        refine wpAnyH_done (by kernel_rfl) ?_ _
                        go_wp2_with fail
                        go_meet
                        case rel => exact ⟨_, _, _, _, _, _, _, rfl, F25⟩
                  · -- 8
                    go_simp
                    obtain ⟨W26, hW26⟩ : ∃ W, W = World.alloc W22 (.cells #[.int .i64 0, .int .i64 0, .string (ByteArray.mk #[]), .slice none 0 0] 24) := ⟨_, rfl⟩
                    have bA26 : Below W22.heap.size W22 W26 := by rw [hW26]; exact (Below.refl _ _).alloc (Nat.le_refl _) _
                    have N26 : W26.heap[W22.heap.size]? = some (.cells #[.int .i64 0, .int .i64 0, .string (ByteArray.mk #[]), .slice none 0 0] 24 (0, 0)) := by rw [hW26]; exact World.alloc_heap_new _ _
                    have E26 : Below wX.heap.size wX W26 := E22.trans (bA26.mono E22.size)
                    have O26 := O22.alloc (ownB wX _ O22.lt) (.cells #[.int .i64 0, .int .i64 0, .string (ByteArray.mk #[]), .slice none 0 0] 24)
                    rw [← hW26] at O26
                    have Y26 := N26
                    have YL26 : wX.heap.size ≤ W22.heap.size := E22.size
                    have YN26 := fun e => Nat.lt_irrefl _ (O22.lt2 _ e)
                    rw [← hW26]
                    clear hW26
                    refine hK.out _ _ (HS _ E26) (fun h26 => ?_)
                    clear hK K
                    try simp only [Act.put, List.setIfInBounds_toArray, List.set_cons_zero, List.set_cons_succ]
                    refine wpAnyH_ready (rs := [7]) (by kernel_rfl) (by simp) ?_
                    refine AllReadyH.cons rfl (fun K hK => ?_) AllReadyH.nil
                    · -- 7
                      go_simp
                      refine (make_at t _ (ks ++ [.mk 2 n (ByteArray.mk #[]) []]) _ Hn.out.2.2.2.1 (lenT O26.ts) zm).mono ?_
                      rintro e W27 ⟨r, rfl, R27, bM27⟩
                      obtain ⟨kk27, nn27, ss27, aa27, ll27, cc27, rfl, -⟩ := formT R27
                      go_wp2_with fail
                      have E27 : Below wX.heap.size wX W27 := E26.trans (bM27.mono E26.size)
                      have vlt27 := (Array.getElem?_eq_some_iff.1 Y26).1
                      have Y27 := tbox_below Y26 bM27
                      have YL27 := YL26
                      have R27 := R27.carry (fun b _ => rfl) (fun b hb => (⟨hb.2, fun e => by have := hb.1; omega⟩ : b < W27.heap.size ∧ b ≠ W22.heap.size))
                      refine hK.out _ _ (HS _ E27) (fun h27 => ?_)
                      clear hK K
                      try simp only [Act.put, List.setIfInBounds_toArray, List.set_cons_zero, List.set_cons_succ]
                      refine wpAnyH_ready (rs := [9]) (by kernel_rfl) (by simp) ?_
                      refine AllReadyH.cons rfl (fun K hK => ?_) AllReadyH.nil
                      · -- 9
                        obtain ⟨x0, x1, x2, x3⟩ := tbox_cells Y27
                        have y0 := boxF Y27 0
                        have y1 := boxF Y27 1
                        have y2 := boxF Y27 2
                        have y3 := boxF Y27 3
                        go_simp
                        have F28 := fin12 E27 YL27 Y27 R27
                        refine hK.out _ _ (HS _ F28.2.2) (fun h28 => ?_)
                        clear hK K
                        try simp only [Act.put, List.setIfInBounds_toArray, List.set_cons_zero, List.set_cons_succ]
                        refine wpAnyH_done (by kernel_rfl) ?_ _
                        go_wp2_with fail
                        go_meet
                        case rel => exact ⟨_, _, _, _, _, _, _, rfl, F28⟩
                · -- 8
                  go_simp
                  obtain ⟨W29, hW29⟩ : ∃ W, W = World.alloc W21 (.cells #[.int .i64 0, .int .i64 0, .string (ByteArray.mk #[]), .slice none 0 0] 24) := ⟨_, rfl⟩
                  have bA29 : Below W21.heap.size W21 W29 := by rw [hW29]; exact (Below.refl _ _).alloc (Nat.le_refl _) _
                  have N29 : W29.heap[W21.heap.size]? = some (.cells #[.int .i64 0, .int .i64 0, .string (ByteArray.mk #[]), .slice none 0 0] 24 (0, 0)) := by rw [hW29]; exact World.alloc_heap_new _ _
                  have E29 : Below wX.heap.size wX W29 := E21.trans (bA29.mono E21.size)
                  have O29 := O21.alloc (ownB wX _ O21.lt) (.cells #[.int .i64 0, .int .i64 0, .string (ByteArray.mk #[]), .slice none 0 0] 24)
                  rw [← hW29] at O29
                  have G29 := tbox_below G21 bA29
                  have GN29 := GN21
                  have GL29 := GL21
                  have Y29 := N29
                  have YL29 : wX.heap.size ≤ W21.heap.size := E21.size
                  have YN29 := fun e => Nat.lt_irrefl _ (O21.lt2 _ e)
                  rw [← hW29]
                  clear hW29
                  refine hK.out _ _ (HS _ E29) (fun h29 => ?_)
                  clear hK K
                  try simp only [Act.put, List.setIfInBounds_toArray, List.set_cons_zero, List.set_cons_succ]
                  refine wpAnyH_ready (rs := [6]) (by kernel_rfl) (by simp) ?_
                  refine AllReadyH.cons rfl (fun K hK => ?_) AllReadyH.nil
                  · -- 6
                    refine step_append_ts rfl (.tmp 52) (.tmp 54) rfl wX.heap.size w4.heap.size _ _ ks [.mk 2 n (ByteArray.mk #[]) []] rfl rfl O29 (srcL _ _ _ E29 O29.lt G29 GL29 GN29) (by simp; omega) E29.size (Nat.lt_of_lt_of_le hB4 E29.size) ?_
                    intro v30 W30 O30 g30 at30
                    have E30 : Below wX.heap.size wX W30 := E29.grown g30 E29.size (fun k e => O29.lt k e)
                    have Y30 := (g30.block _ (Array.getElem?_eq_some_iff.1 Y29).1 (Ne.symm YN29)).trans Y29
                    have YL30 := YL29
                    have YN30 := ownNe Y29 YN29 at30
                    obtain ⟨a30', c30', e30⟩ := O30.form
                    subst e30
                    refine hK.out _ _ (HS _ E30) (fun h30 => ?_)
                    clear hK K
                    try simp only [Act.put, List.setIfInBounds_toArray, List.set_cons_zero, List.set_cons_succ]
                    refine wpAnyH_ready (rs := [7]) (by kernel_rfl) (by simp) ?_
                    refine AllReadyH.cons rfl (fun K hK => ?_) AllReadyH.nil
                    · -- 7
                      go_simp
                      refine (make_at t _ (ks ++ [.mk 2 n (ByteArray.mk #[]) []]) _ Hn.out.2.2.2.1 (lenT O30.ts) zm).mono ?_
                      rintro e W31 ⟨r, rfl, R31, bM31⟩
                      obtain ⟨kk31, nn31, ss31, aa31, ll31, cc31, rfl, -⟩ := formT R31
                      go_wp2_with fail
                      have E31 : Below wX.heap.size wX W31 := E30.trans (bM31.mono E30.size)
                      have vlt31 := (Array.getElem?_eq_some_iff.1 Y30).1
                      have Y31 := tbox_below Y30 bM31
                      have YL31 := YL30
                      have R31 := R31.carry (fun b _ => rfl) (fun b hb => (⟨hb.2, fun e => by have := hb.1; omega⟩ : b < W31.heap.size ∧ b ≠ W21.heap.size))
                      refine hK.out _ _ (HS _ E31) (fun h31 => ?_)
                      clear hK K
                      try simp only [Act.put, List.setIfInBounds_toArray, List.set_cons_zero, List.set_cons_succ]
                      refine wpAnyH_ready (rs := [9]) (by kernel_rfl) (by simp) ?_
                      refine AllReadyH.cons rfl (fun K hK => ?_) AllReadyH.nil
                      · -- 9
                        obtain ⟨x0, x1, x2, x3⟩ := tbox_cells Y31
                        have y0 := boxF Y31 0
                        have y1 := boxF Y31 1
                        have y2 := boxF Y31 2
                        have y3 := boxF Y31 3
                        go_simp
                        have F32 := fin12 E31 YL31 Y31 R31
                        refine hK.out _ _ (HS _ F32.2.2) (fun h32 => ?_)
                        clear hK K
                        try simp only [Act.put, List.setIfInBounds_toArray, List.set_cons_zero, List.set_cons_succ]
                        refine wpAnyH_done (by kernel_rfl) ?_ _
                        go_wp2_with fail
                        go_meet
                        case rel => exact ⟨_, _, _, _, _, _, _, rfl, F32⟩
              · -- 8
                go_simp
                obtain ⟨W33, hW33⟩ : ∃ W, W = World.alloc W20 (.cells #[.int .i64 0, .int .i64 0, .string (ByteArray.mk #[]), .slice none 0 0] 24) := ⟨_, rfl⟩
                have bA33 : Below W20.heap.size W20 W33 := by rw [hW33]; exact (Below.refl _ _).alloc (Nat.le_refl _) _
                have N33 : W33.heap[W20.heap.size]? = some (.cells #[.int .i64 0, .int .i64 0, .string (ByteArray.mk #[]), .slice none 0 0] 24 (0, 0)) := by rw [hW33]; exact World.alloc_heap_new _ _
                have E33 : Below wX.heap.size wX W33 := E20.trans (bA33.mono E20.size)
                have O33 := O20.alloc (ownB wX _ O20.lt) (.cells #[.int .i64 0, .int .i64 0, .string (ByteArray.mk #[]), .slice none 0 0] 24)
                rw [← hW33] at O33
                have G33 := tbox_below G20 bA33
                have GN33 := GN20
                have GL33 := GL20
                have Y33 := N33
                have YL33 : wX.heap.size ≤ W20.heap.size := E20.size
                have YN33 := fun e => Nat.lt_irrefl _ (O20.lt2 _ e)
                rw [← hW33]
                clear hW33
                refine hK.out _ _ (HS _ E33) (fun h33 => ?_)
                clear hK K
                try simp only [Act.put, List.setIfInBounds_toArray, List.set_cons_zero, List.set_cons_succ]
                refine wpAnyH_ready (rs := [3]) (by kernel_rfl) (by simp) ?_
                refine AllReadyH.cons rfl (fun K hK => ?_) AllReadyH.nil
                · -- 3
                  refine step_append_ts rfl (.tmp 50) (.tmp 51) rfl wX.heap.size w4.heap.size _ _ [] ks rfl rfl O33 (srcK _ _ E33 O33.lt) (by simp; omega) E33.size (Nat.lt_of_lt_of_le hB4 E33.size) ?_
                  intro v34 W34 O34 g34 at34
                  rw [List.nil_append] at O34
                  have E34 : Below wX.heap.size wX W34 := E33.grown g34 E33.size (fun k e => O33.lt k e)
                  have G34 := (g34.block _ (Array.getElem?_eq_some_iff.1 G33).1 (Ne.symm GN33)).trans G33
                  have GL34 := GL33
                  have GN34 := ownNe G33 GN33 at34
                  have Y34 := (g34.block _ (Array.getElem?_eq_some_iff.1 Y33).1 (Ne.symm YN33)).trans Y33
                  have YL34 := YL33
                  have YN34 := ownNe Y33 YN33 at34
                  obtain ⟨a34', c34', e34⟩ := O34.form
                  subst e34
                  refine hK.out _ _ (HS _ E34) (fun h34 => ?_)
                  clear hK K
                  try simp only [Act.put, List.setIfInBounds_toArray, List.set_cons_zero, List.set_cons_succ]
                  refine wpAnyH_ready (rs := [6]) (by kernel_rfl) (by simp) ?_
                  refine AllReadyH.cons rfl (fun K hK => ?_) AllReadyH.nil
                  · -- 6
                    refine step_append_ts rfl (.tmp 52) (.tmp 54) rfl wX.heap.size w4.heap.size _ _ ks [.mk 2 n (ByteArray.mk #[]) []] rfl rfl O34 (srcL _ _ _ E34 O34.lt G34 GL34 GN34) (by simp; omega) E34.size (Nat.lt_of_lt_of_le hB4 E34.size) ?_
                    intro v35 W35 O35 g35 at35
                    have E35 : Below wX.heap.size wX W35 := E34.grown g35 E34.size (fun k e => O34.lt k e)
                    have Y35 := (g35.block _ (Array.getElem?_eq_some_iff.1 Y34).1 (Ne.symm YN34)).trans Y34
                    have YL35 := YL34
                    have YN35 := ownNe Y34 YN34 at35
                    obtain ⟨a35', c35', e35⟩ := O35.form
                    subst e35
                    refine hK.out _ _ (HS _ E35) (fun h35 => ?_)
                    clear hK K
                    try simp only [Act.put, List.setIfInBounds_toArray, List.set_cons_zero, List.set_cons_succ]
                    refine wpAnyH_ready (rs := [7]) (by kernel_rfl) (by simp) ?_
                    refine AllReadyH.cons rfl (fun K hK => ?_) AllReadyH.nil
                    · -- 7
                      go_simp
                      refine (make_at t _ (ks ++ [.mk 2 n (ByteArray.mk #[]) []]) _ Hn.out.2.2.2.1 (lenT O35.ts) zm).mono ?_
                      rintro e W36 ⟨r, rfl, R36, bM36⟩
                      obtain ⟨kk36, nn36, ss36, aa36, ll36, cc36, rfl, -⟩ := formT R36
                      go_wp2_with fail
                      have E36 : Below wX.heap.size wX W36 := E35.trans (bM36.mono E35.size)
                      have vlt36 := (Array.getElem?_eq_some_iff.1 Y35).1
                      have Y36 := tbox_below Y35 bM36
                      have YL36 := YL35
                      have R36 := R36.carry (fun b _ => rfl) (fun b hb => (⟨hb.2, fun e => by have := hb.1; omega⟩ : b < W36.heap.size ∧ b ≠ W20.heap.size))
                      refine hK.out _ _ (HS _ E36) (fun h36 => ?_)
                      clear hK K
                      try simp only [Act.put, List.setIfInBounds_toArray, List.set_cons_zero, List.set_cons_succ]
                      refine wpAnyH_ready (rs := [9]) (by kernel_rfl) (by simp) ?_
                      refine AllReadyH.cons rfl (fun K hK => ?_) AllReadyH.nil
                      · -- 9
                        obtain ⟨x0, x1, x2, x3⟩ := tbox_cells Y36
                        have y0 := boxF Y36 0
                        have y1 := boxF Y36 1
                        have y2 := boxF Y36 2
                        have y3 := boxF Y36 3
                        go_simp
                        have F37 := fin12 E36 YL36 Y36 R36
                        refine hK.out _ _ (HS _ F37.2.2) (fun h37 => ?_)
                        clear hK K
                        try simp only [Act.put, List.setIfInBounds_toArray, List.set_cons_zero, List.set_cons_succ]
                        refine wpAnyH_done (by kernel_rfl) ?_ _
                        go_wp2_with fail
                        go_meet
                        case rel => exact ⟨_, _, _, _, _, _, _, rfl, F37⟩
            · -- 8
              go_simp
              obtain ⟨W38, hW38⟩ : ∃ W, W = World.alloc W1 (.cells #[.int .i64 0, .int .i64 0, .string (ByteArray.mk #[]), .slice none 0 0] 24) := ⟨_, rfl⟩
              have bA38 : Below W1.heap.size W1 W38 := by rw [hW38]; exact (Below.refl _ _).alloc (Nat.le_refl _) _
              have N38 : W38.heap[W1.heap.size]? = some (.cells #[.int .i64 0, .int .i64 0, .string (ByteArray.mk #[]), .slice none 0 0] 24 (0, 0)) := by rw [hW38]; exact World.alloc_heap_new _ _
              have E38 : Below wX.heap.size wX W38 := E1.trans (bA38.mono E1.size)
              have O38 := O1.alloc (ownB wX _ O1.lt) (.cells #[.int .i64 0, .int .i64 0, .string (ByteArray.mk #[]), .slice none 0 0] 24)
              rw [← hW38] at O38
              have Y38 := N38
              have YL38 : wX.heap.size ≤ W1.heap.size := E1.size
              have YN38 := fun e => Nat.lt_irrefl _ (O1.lt2 _ e)
              rw [← hW38]
              clear hW38
              refine hK.out _ _ (HS _ E38) (fun h38 => ?_)
              clear hK K
              try simp only [Act.put, List.setIfInBounds_toArray, List.set_cons_zero, List.set_cons_succ]
              refine wpAnyH_ready (rs := [3, 5]) (by kernel_rfl) (by simp) ?_
              refine AllReadyH.cons rfl (fun K hK => ?_) (AllReadyH.cons rfl (fun K hK => ?_) AllReadyH.nil)
              · -- 3
                refine step_append_ts rfl (.tmp 50) (.tmp 51) rfl wX.heap.size w4.heap.size _ _ [] ks rfl rfl O38 (srcK _ _ E38 O38.lt) (by simp; omega) E38.size (Nat.lt_of_lt_of_le hB4 E38.size) ?_
                intro v39 W39 O39 g39 at39
                rw [List.nil_append] at O39
                have E39 : Below wX.heap.size wX W39 := E38.grown g39 E38.size (fun k e => O38.lt k e)
                have Y39 := (g39.block _ (Array.getElem?_eq_some_iff.1 Y38).1 (Ne.symm YN38)).trans Y38
                have YL39 := YL38
                have YN39 := ownNe Y38 YN38 at39
                obtain ⟨a39', c39', e39⟩ := O39.form
                subst e39
                refine hK.out _ _ (HS _ E39) (fun h39 => ?_)
                clear hK K
                try simp only [Act.put, List.setIfInBounds_toArray, List.set_cons_zero, List.set_cons_succ]
                refine wpAnyH_ready (rs := [5]) (by kernel_rfl) (by simp) ?_
                refine AllReadyH.cons rfl (fun K hK => ?_) AllReadyH.nil
                · -- 5
                  go_simp
                  obtain ⟨W40, hW40⟩ : ∃ W, W = World.alloc W39 (.cells #[.int .i64 k3, .int .i64 n3, .string s3, .slice a3 l3 c3'] 24) := ⟨_, rfl⟩
                  have bA40 : Below W39.heap.size W39 W40 := by rw [hW40]; exact (Below.refl _ _).alloc (Nat.le_refl _) _
                  have N40 : W40.heap[W39.heap.size]? = some (.cells #[.int .i64 k3, .int .i64 n3, .string s3, .slice a3 l3 c3'] 24 (0, 0)) := by rw [hW40]; exact World.alloc_heap_new _ _
                  have E40 : Below wX.heap.size wX W40 := E39.trans (bA40.mono E39.size)
                  have O40 := O39.alloc (ownB wX _ O39.lt) (.cells #[.int .i64 k3, .int .i64 n3, .string s3, .slice a3 l3 c3'] 24)
                  rw [← hW40] at O40
                  have Y40 := tbox_below Y39 bA40
                  have YL40 := YL39
                  have YN40 := YN39
                  have G40 := N40
                  have GL40 : wX.heap.size ≤ W39.heap.size := E39.size
                  have GN40 := fun e => Nat.lt_irrefl _ (O39.lt2 _ e)
                  rw [← hW40]
                  clear hW40
                  refine hK.out _ _ (HS _ E40) (fun h40 => ?_)
                  clear hK K
                  try simp only [Act.put, List.setIfInBounds_toArray, List.set_cons_zero, List.set_cons_succ]
                  refine wpAnyH_ready (rs := [6]) (by kernel_rfl) (by simp) ?_
                  refine AllReadyH.cons rfl (fun K hK => ?_) AllReadyH.nil
                  · -- 6
                    refine step_append_ts rfl (.tmp 52) (.tmp 54) rfl wX.heap.size w4.heap.size _ _ ks [.mk 2 n (ByteArray.mk #[]) []] rfl rfl O40 (srcL _ _ _ E40 O40.lt G40 GL40 GN40) (by simp; omega) E40.size (Nat.lt_of_lt_of_le hB4 E40.size) ?_
                    intro v41 W41 O41 g41 at41
                    have E41 : Below wX.heap.size wX W41 := E40.grown g41 E40.size (fun k e => O40.lt k e)
                    have Y41 := (g41.block _ (Array.getElem?_eq_some_iff.1 Y40).1 (Ne.symm YN40)).trans Y40
                    have YL41 := YL40
                    have YN41 := ownNe Y40 YN40 at41
                    obtain ⟨a41', c41', e41⟩ := O41.form
                    subst e41
                    refine hK.out _ _ (HS _ E41) (fun h41 => ?_)
                    clear hK K
                    try simp only [Act.put, List.setIfInBounds_toArray, List.set_cons_zero, List.set_cons_succ]
                    refine wpAnyH_ready (rs := [7]) (by kernel_rfl) (by simp) ?_
                    refine AllReadyH.cons rfl (fun K hK => ?_) AllReadyH.nil
                    · -- 7
                      go_simp
                      refine (make_at t _ (ks ++ [.mk 2 n (ByteArray.mk #[]) []]) _ Hn.out.2.2.2.1 (lenT O41.ts) zm).mono ?_
                      rintro e W42 ⟨r, rfl, R42, bM42⟩
                      obtain ⟨kk42, nn42, ss42, aa42, ll42, cc42, rfl, -⟩ := formT R42
                      go_wp2_with fail
                      have E42 : Below wX.heap.size wX W42 := E41.trans (bM42.mono E41.size)
                      have vlt42 := (Array.getElem?_eq_some_iff.1 Y41).1
                      have Y42 := tbox_below Y41 bM42
                      have YL42 := YL41
                      have R42 := R42.carry (fun b _ => rfl) (fun b hb => (⟨hb.2, fun e => by have := hb.1; omega⟩ : b < W42.heap.size ∧ b ≠ W1.heap.size))
                      refine hK.out _ _ (HS _ E42) (fun h42 => ?_)
                      clear hK K
                      try simp only [Act.put, List.setIfInBounds_toArray, List.set_cons_zero, List.set_cons_succ]
                      refine wpAnyH_ready (rs := [9]) (by kernel_rfl) (by simp) ?_
                      refine AllReadyH.cons rfl (fun K hK => ?_) AllReadyH.nil
                      · -- 9
                        obtain ⟨x0, x1, x2, x3⟩ := tbox_cells Y42
                        have y0 := boxF Y42 0
                        have y1 := boxF Y42 1
                        have y2 := boxF Y42 2
                        have y3 := boxF Y42 3
                        go_simp
                        have F43 := fin12 E42 YL42 Y42 R42
                        refine hK.out _ _ (HS _ F43.2.2) (fun h43 => ?_)
                        clear hK K
                        try simp only [Act.put, List.setIfInBounds_toArray, List.set_cons_zero, List.set_cons_succ]
                        refine wpAnyH_done (by kernel_rfl) ?_ _
                        go_wp2_with fail
                        go_meet
                        case rel => exact ⟨_, _, _, _, _, _, _, rfl, F43⟩
              · -- 5
                go_simp
                obtain ⟨W44, hW44⟩ : ∃ W, W = World.alloc W38 (.cells #[.int .i64 k3, .int .i64 n3, .string s3, .slice a3 l3 c3'] 24) := ⟨_, rfl⟩
                have bA44 : Below W38.heap.size W38 W44 := by rw [hW44]; exact (Below.refl _ _).alloc (Nat.le_refl _) _
                have N44 : W44.heap[W38.heap.size]? = some (.cells #[.int .i64 k3, .int .i64 n3, .string s3, .slice a3 l3 c3'] 24 (0, 0)) := by rw [hW44]; exact World.alloc_heap_new _ _
                have E44 : Below wX.heap.size wX W44 := E38.trans (bA44.mono E38.size)
                have O44 := O38.alloc (ownB wX _ O38.lt) (.cells #[.int .i64 k3, .int .i64 n3, .string s3, .slice a3 l3 c3'] 24)
                rw [← hW44] at O44
                have Y44 := tbox_below Y38 bA44
                have YL44 := YL38
                have YN44 := YN38
                have G44 := N44
                have GL44 : wX.heap.size ≤ W38.heap.size := E38.size
                have GN44 := fun e => Nat.lt_irrefl _ (O38.lt2 _ e)
                rw [← hW44]
                clear hW44
                refine hK.out _ _ (HS _ E44) (fun h44 => ?_)
                clear hK K
                try simp only [Act.put, List.setIfInBounds_toArray, List.set_cons_zero, List.set_cons_succ]
                refine wpAnyH_ready (rs := [3]) (by kernel_rfl) (by simp) ?_
                refine AllReadyH.cons rfl (fun K hK => ?_) AllReadyH.nil
                · -- 3
                  refine step_append_ts rfl (.tmp 50) (.tmp 51) rfl wX.heap.size w4.heap.size _ _ [] ks rfl rfl O44 (srcK _ _ E44 O44.lt) (by simp; omega) E44.size (Nat.lt_of_lt_of_le hB4 E44.size) ?_
                  intro v45 W45 O45 g45 at45
                  rw [List.nil_append] at O45
                  have E45 : Below wX.heap.size wX W45 := E44.grown g45 E44.size (fun k e => O44.lt k e)
                  have G45 := (g45.block _ (Array.getElem?_eq_some_iff.1 G44).1 (Ne.symm GN44)).trans G44
                  have GL45 := GL44
                  have GN45 := ownNe G44 GN44 at45
                  have Y45 := (g45.block _ (Array.getElem?_eq_some_iff.1 Y44).1 (Ne.symm YN44)).trans Y44
                  have YL45 := YL44
                  have YN45 := ownNe Y44 YN44 at45
                  obtain ⟨a45', c45', e45⟩ := O45.form
                  subst e45
                  refine hK.out _ _ (HS _ E45) (fun h45 => ?_)
                  clear hK K
                  try simp only [Act.put, List.setIfInBounds_toArray, List.set_cons_zero, List.set_cons_succ]
                  refine wpAnyH_ready (rs := [6]) (by kernel_rfl) (by simp) ?_
                  refine AllReadyH.cons rfl (fun K hK => ?_) AllReadyH.nil
                  · -- 6
                    refine step_append_ts rfl (.tmp 52) (.tmp 54) rfl wX.heap.size w4.heap.size _ _ ks [.mk 2 n (ByteArray.mk #[]) []] rfl rfl O45 (srcL _ _ _ E45 O45.lt G45 GL45 GN45) (by simp; omega) E45.size (Nat.lt_of_lt_of_le hB4 E45.size) ?_
                    intro v46 W46 O46 g46 at46
                    have E46 : Below wX.heap.size wX W46 := E45.grown g46 E45.size (fun k e => O45.lt k e)
                    have Y46 := (g46.block _ (Array.getElem?_eq_some_iff.1 Y45).1 (Ne.symm YN45)).trans Y45
                    have YL46 := YL45
                    have YN46 := ownNe Y45 YN45 at46
                    obtain ⟨a46', c46', e46⟩ := O46.form
                    subst e46
                    refine hK.out _ _ (HS _ E46) (fun h46 => ?_)
                    clear hK K
                    try simp only [Act.put, List.setIfInBounds_toArray, List.set_cons_zero, List.set_cons_succ]
                    refine wpAnyH_ready (rs := [7]) (by kernel_rfl) (by simp) ?_
                    refine AllReadyH.cons rfl (fun K hK => ?_) AllReadyH.nil
                    · -- 7
                      go_simp
                      refine (make_at t _ (ks ++ [.mk 2 n (ByteArray.mk #[]) []]) _ Hn.out.2.2.2.1 (lenT O46.ts) zm).mono ?_
                      rintro e W47 ⟨r, rfl, R47, bM47⟩
                      obtain ⟨kk47, nn47, ss47, aa47, ll47, cc47, rfl, -⟩ := formT R47
                      go_wp2_with fail
                      have E47 : Below wX.heap.size wX W47 := E46.trans (bM47.mono E46.size)
                      have vlt47 := (Array.getElem?_eq_some_iff.1 Y46).1
                      have Y47 := tbox_below Y46 bM47
                      have YL47 := YL46
                      have R47 := R47.carry (fun b _ => rfl) (fun b hb => (⟨hb.2, fun e => by have := hb.1; omega⟩ : b < W47.heap.size ∧ b ≠ W1.heap.size))
                      refine hK.out _ _ (HS _ E47) (fun h47 => ?_)
                      clear hK K
                      try simp only [Act.put, List.setIfInBounds_toArray, List.set_cons_zero, List.set_cons_succ]
                      refine wpAnyH_ready (rs := [9]) (by kernel_rfl) (by simp) ?_
                      refine AllReadyH.cons rfl (fun K hK => ?_) AllReadyH.nil
                      · -- 9
                        obtain ⟨x0, x1, x2, x3⟩ := tbox_cells Y47
                        have y0 := boxF Y47 0
                        have y1 := boxF Y47 1
                        have y2 := boxF Y47 2
                        have y3 := boxF Y47 3
                        go_simp
                        have F48 := fin12 E47 YL47 Y47 R47
                        refine hK.out _ _ (HS _ F48.2.2) (fun h48 => ?_)
                        clear hK K
                        try simp only [Act.put, List.setIfInBounds_toArray, List.set_cons_zero, List.set_cons_succ]
                        refine wpAnyH_done (by kernel_rfl) ?_ _
                        go_wp2_with fail
                        go_meet
                        case rel => exact ⟨_, _, _, _, _, _, _, rfl, F48⟩
          · -- 5
            go_simp
            obtain ⟨W49, hW49⟩ : ∃ W, W = World.alloc wD (.cells #[.int .i64 k3, .int .i64 n3, .string s3, .slice a3 l3 c3'] 24) := ⟨_, rfl⟩
            have bA49 : Below wD.heap.size wD W49 := by rw [hW49]; exact (Below.refl _ _).alloc (Nat.le_refl _) _
            have N49 : W49.heap[wD.heap.size]? = some (.cells #[.int .i64 k3, .int .i64 n3, .string s3, .slice a3 l3 c3'] 24 (0, 0)) := by rw [hW49]; exact World.alloc_heap_new _ _
            have E49 : Below wX.heap.size wX W49 := E0.trans (bA49.mono E0.size)
            have G49 := N49
            have GL49 : wX.heap.size ≤ wD.heap.size := E0.size
            rw [← hW49]
            clear hW49
            refine hK.out _ _ (HS _ E49) (fun h49 => ?_)
            clear hK K
            try simp only [Act.put, List.setIfInBounds_toArray, List.set_cons_zero, List.set_cons_succ]
            refine wpAnyH_ready (rs := [1, 8]) (by kernel_rfl) (by simp) ?_
            refine AllReadyH.cons rfl (fun K hK => ?_) (AllReadyH.cons rfl (fun K hK => ?_) AllReadyH.nil)
            · -- 1
              go_simp
              obtain ⟨W50, hW50⟩ : ∃ W, W = World.alloc W49 (.cells #[] 24) := ⟨_, rfl⟩
              have bA50 : Below W49.heap.size W49 W50 := by rw [hW50]; exact (Below.refl _ _).alloc (Nat.le_refl _) _
              have N50 : W50.heap[W49.heap.size]? = some (.cells #[] 24 (0, 0)) := by rw [hW50]; exact World.alloc_heap_new _ _
              have E50 : Below wX.heap.size wX W50 := E49.trans (bA50.mono E49.size)
              have G50 := tbox_below G49 bA50
              have GL50 := GL49
              have O50 : OwnTs W50 wX.heap.size w4.heap.size (.slice (some ⟨W49.heap.size, 0, none⟩) 0 0) [] := by rw [hW50]; exact OwnTs.empty _ _ _ E49.size
              have GN50 : (Value.slice (some ⟨W49.heap.size, 0, none⟩) 0 0).ownBlock ≠ some wD.heap.size := newNe G49
              rw [← hW50]
              clear hW50
              refine hK.out _ _ (HS _ E50) (fun h50 => ?_)
              clear hK K
              try simp only [Act.put, List.setIfInBounds_toArray, List.set_cons_zero, List.set_cons_succ]
              refine wpAnyH_ready (rs := [3, 8]) (by kernel_rfl) (by simp) ?_
              refine AllReadyH.cons rfl (fun K hK => ?_) (AllReadyH.cons rfl (fun K hK => ?_) AllReadyH.nil)
              · -- 3
                refine step_append_ts rfl (.tmp 50) (.tmp 51) rfl wX.heap.size w4.heap.size _ _ [] ks rfl rfl O50 (srcK _ _ E50 O50.lt) (by simp; omega) E50.size (Nat.lt_of_lt_of_le hB4 E50.size) ?_
                intro v51 W51 O51 g51 at51
                rw [List.nil_append] at O51
                have E51 : Below wX.heap.size wX W51 := E50.grown g51 E50.size (fun k e => O50.lt k e)
                have G51 := (g51.block _ (Array.getElem?_eq_some_iff.1 G50).1 (Ne.symm GN50)).trans G50
                have GL51 := GL50
                have GN51 := ownNe G50 GN50 at51
                obtain ⟨a51', c51', e51⟩ := O51.form
                subst e51
                refine hK.out _ _ (HS _ E51) (fun h51 => ?_)
                clear hK K
                try simp only [Act.put, List.setIfInBounds_toArray, List.set_cons_zero, List.set_cons_succ]
                refine wpAnyH_ready (rs := [6, 8]) (by kernel_rfl) (by simp) ?_
                refine AllReadyH.cons rfl (fun K hK => ?_) (AllReadyH.cons rfl (fun K hK => ?_) AllReadyH.nil)
                · -- 6
                  refine step_append_ts rfl (.tmp 52) (.tmp 54) rfl wX.heap.size w4.heap.size _ _ ks [.mk 2 n (ByteArray.mk #[]) []] rfl rfl O51 (srcL _ _ _ E51 O51.lt G51 GL51 GN51) (by simp; omega) E51.size (Nat.lt_of_lt_of_le hB4 E51.size) ?_
                  intro v52 W52 O52 g52 at52
                  have E52 : Below wX.heap.size wX W52 := E51.grown g52 E51.size (fun k e => O51.lt k e)
                  obtain ⟨a52', c52', e52⟩ := O52.form
                  subst e52
                  refine hK.out _ _ (HS _ E52) (fun h52 => ?_)
                  clear hK K
                  try simp only [Act.put, List.setIfInBounds_toArray, List.set_cons_zero, List.set_cons_succ]
                  refine wpAnyH_ready (rs := [7, 8]) (by kernel_rfl) (by simp) ?_
                  refine AllReadyH.cons rfl (fun K hK => ?_) (AllReadyH.cons rfl (fun K hK => ?_) AllReadyH.nil)
                  · -- 7
                    go_simp
                    refine (make_at t _ (ks ++ [.mk 2 n (ByteArray.mk #[]) []]) _ Hn.out.2.2.2.1 (lenT O52.ts) zm).mono ?_
                    rintro e W53 ⟨r, rfl, R53, bM53⟩
                    obtain ⟨kk53, nn53, ss53, aa53, ll53, cc53, rfl, -⟩ := formT R53
                    go_wp2_with fail
                    have E53 : Below wX.heap.size wX W53 := E52.trans (bM53.mono E52.size)
                    refine hK.out _ _ (HS _ E53) (fun h53 => ?_)
                    clear hK K
                    try simp only [Act.put, List.setIfInBounds_toArray, List.set_cons_zero, List.set_cons_succ]
                    refine wpAnyH_ready (rs := [8]) (by kernel_rfl) (by simp) ?_
                    refine AllReadyH.cons rfl (fun K hK => ?_) AllReadyH.nil
                    · -- 8
                      go_simp
                      obtain ⟨W54, hW54⟩ : ∃ W, W = World.alloc W53 (.cells #[.int .i64 0, .int .i64 0, .string (ByteArray.mk #[]), .slice none 0 0] 24) := ⟨_, rfl⟩
                      have bA54 : Below W53.heap.size W53 W54 := by rw [hW54]; exact (Below.refl _ _).alloc (Nat.le_refl _) _
                      have N54 : W54.heap[W53.heap.size]? = some (.cells #[.int .i64 0, .int .i64 0, .string (ByteArray.mk #[]), .slice none 0 0] 24 (0, 0)) := by rw [hW54]; exact World.alloc_heap_new _ _
                      have E54 : Below wX.heap.size wX W54 := E53.trans (bA54.mono E53.size)
                      have Y54 := N54
                      have YL54 : wX.heap.size ≤ W53.heap.size := E53.size
                      have R54 := R53.carry (fun b hb => bA54.block b hb.2) (fun b hb => (⟨Nat.lt_of_lt_of_le hb.2 bA54.size, Nat.ne_of_lt hb.2⟩ : b < W54.heap.size ∧ b ≠ W53.heap.size))
                      rw [← hW54]
                      clear hW54
                      refine hK.out _ _ (HS _ E54) (fun h54 => ?_)
                      clear hK K
                      try simp only [Act.put, List.setIfInBounds_toArray, List.set_cons_zero, List.set_cons_succ]
                      refine wpAnyH_ready (rs := [9]) (by kernel_rfl) (by simp) ?_
                      refine AllReadyH.cons rfl (fun K hK => ?_) AllReadyH.nil
                      · -- 9
                        obtain ⟨x0, x1, x2, x3⟩ := tbox_cells Y54
                        have y0 := boxF Y54 0
                        have y1 := boxF Y54 1
                        have y2 := boxF Y54 2
                        have y3 := boxF Y54 3
                        go_simp
                        have F55 := fin12 E54 YL54 Y54 R54
                        refine hK.out _ _ (HS _ F55.2.2) (fun h55 => ?_)
                        clear hK K
                        try simp only [Act.put, List.setIfInBounds_toArray, List.set_cons_zero, List.set_cons_succ]
                        refine wpAnyH_done (by kernel_rfl) ?_ _
                        go_wp2_with fail
                        go_meet
                        case rel => exact ⟨_, _, _, _, _, _, _, rfl, F55⟩
                  · -- 8
                    go_simp
                    obtain ⟨W56, hW56⟩ : ∃ W, W = World.alloc W52 (.cells #[.int .i64 0, .int .i64 0, .string (ByteArray.mk #[]), .slice none 0 0] 24) := ⟨_, rfl⟩
                    have bA56 : Below W52.heap.size W52 W56 := by rw [hW56]; exact (Below.refl _ _).alloc (Nat.le_refl _) _
                    have N56 : W56.heap[W52.heap.size]? = some (.cells #[.int .i64 0, .int .i64 0, .string (ByteArray.mk #[]), .slice none 0 0] 24 (0, 0)) := by rw [hW56]; exact World.alloc_heap_new _ _
                    have E56 : Below wX.heap.size wX W56 := E52.trans (bA56.mono E52.size)
                    have O56 := O52.alloc (ownB wX _ O52.lt) (.cells #[.int .i64 0, .int .i64 0, .string (ByteArray.mk #[]), .slice none 0 0] 24)
                    rw [← hW56] at O56
                    have Y56 := N56
                    have YL56 : wX.heap.size ≤ W52.heap.size := E52.size
                    have YN56 := fun e => Nat.lt_irrefl _ (O52.lt2 _ e)
                    rw [← hW56]
                    clear hW56
                    refine hK.out _ _ (HS _ E56) (fun h56 => ?_)
                    clear hK K
                    try simp only [Act.put, List.setIfInBounds_toArray, List.set_cons_zero, List.set_cons_succ]
                    refine wpAnyH_ready (rs := [7]) (by kernel_rfl) (by simp) ?_
                    refine AllReadyH.cons rfl (fun K hK => ?_) AllReadyH.nil
                    · -- 7
                      go_simp
                      refine (make_at t _ (ks ++ [.mk 2 n (ByteArray.mk #[]) []]) _ Hn.out.2.2.2.1 (lenT O56.ts) zm).mono ?_
                      rintro e W57 ⟨r, rfl, R57, bM57⟩
                      obtain ⟨kk57, nn57, ss57, aa57, ll57, cc57, rfl, -⟩ := formT R57
                      go_wp2_with fail
                      have E57 : Below wX.heap.size wX W57 := E56.trans (bM57.mono E56.size)
                      have vlt57 := (Array.getElem?_eq_some_iff.1 Y56).1
                      have Y57 := tbox_below Y56 bM57
                      have YL57 := YL56
                      have R57 := R57.carry (fun b _ => rfl) (fun b hb => (⟨hb.2, fun e => by have := hb.1; omega⟩ : b < W57.heap.size ∧ b ≠ W52.heap.size))
                      refine hK.out _ _ (HS _ E57) (fun h57 => ?_)
                      clear hK K
                      try simp only [Act.put, List.setIfInBounds_toArray, List.set_cons_zero, List.set_cons_succ]
                      refine wpAnyH_ready (rs := [9]) (by kernel_rfl) (by simp) ?_
                      refine AllReadyH.cons rfl (fun K hK => ?_) AllReadyH.nil
                      · -- 9
                        obtain ⟨x0, x1, x2, x3⟩ := tbox_cells Y57
                        have y0 := boxF Y57 0
                        have y1 := boxF Y57 1
                        have y2 := boxF Y57 2
                        have y3 := boxF Y57 3
                        go_simp
                        have F58 := fin12 E57 YL57 Y57 R57
                        refine hK.out _ _ (HS _ F58.2.2) (fun h58 => ?_)
                        clear hK K
                        try simp only [Act.put, List.setIfInBounds_toArray, List.set_cons_zero, List.set_cons_succ]
                        refine wpAnyH_done (by kernel_rfl) ?_ _
                        go_wp2_with fail
                        go_meet
                        case rel => exact ⟨_, _, _, _, _, _, _, rfl, F58⟩
                · -- 8
                  go_simp
                  obtain ⟨W59, hW59⟩ : ∃ W, W = World.alloc W51 (.cells #[.int .i64 0, .int .i64 0, .string (ByteArray.mk #[]), .slice none 0 0] 24) := ⟨_, rfl⟩
                  have bA59 : Below W51.heap.size W51 W59 := by rw [hW59]; exact (Below.refl _ _).alloc (Nat.le_refl _) _
                  have N59 : W59.heap[W51.heap.size]? = some (.cells #[.int .i64 0, .int .i64 0, .string (ByteArray.mk #[]), .slice none 0 0] 24 (0, 0)) := by rw [hW59]; exact World.alloc_heap_new _ _
                  have E59 : Below wX.heap.size wX W59 := E51.trans (bA59.mono E51.size)
                  have O59 := O51.alloc (ownB wX _ O51.lt) (.cells #[.int .i64 0, .int .i64 0, .string (ByteArray.mk #[]), .slice none 0 0] 24)
                  rw [← hW59] at O59
                  have G59 := tbox_below G51 bA59
                  have GN59 := GN51
                  have GL59 := GL51
                  have Y59 := N59
                  have YL59 : wX.heap.size ≤ W51.heap.size := E51.size
                  have YN59 := fun e => Nat.lt_irrefl _ (O51.lt2 _ e)
                  rw [← hW59]
                  clear hW59
                  refine hK.out _ _ (HS _ E59) (fun h59 => ?_)
                  clear hK K
                  try simp only [Act.put, List.setIfInBounds_toArray, List.set_cons_zero, List.set_cons_succ]
                  refine wpAnyH_ready (rs := [6]) (by kernel_rfl) (by simp) ?_
                  refine AllReadyH.cons rfl (fun K hK => ?_) AllReadyH.nil
                  · -- 6
                    refine step_append_ts rfl (.tmp 52) (.tmp 54) rfl wX.heap.size w4.heap.size _ _ ks [.mk 2 n (ByteArray.mk #[]) []] rfl rfl O59 (srcL _ _ _ E59 O59.lt G59 GL59 GN59) (by simp; omega) E59.size (Nat.lt_of_lt_of_le hB4 E59.size) ?_
                    intro v60 W60 O60 g60 at60
                    have E60 : Below wX.heap.size wX W60 := E59.grown g60 E59.size (fun k e => O59.lt k e)
                    have Y60 := (g60.block _ (Array.getElem?_eq_some_iff.1 Y59).1 (Ne.symm YN59)).trans Y59
                    have YL60 := YL59
                    have YN60 := ownNe Y59 YN59 at60
                    obtain ⟨a60', c60', e60⟩ := O60.form
                    subst e60
                    refine hK.out _ _ (HS _ E60) (fun h60 => ?_)
                    clear hK K
                    try simp only [Act.put, List.setIfInBounds_toArray, List.set_cons_zero, List.set_cons_succ]
                    refine wpAnyH_ready (rs := [7]) (by kernel_rfl) (by simp) ?_
                    refine AllReadyH.cons rfl (fun K hK => ?_) AllReadyH.nil
                    · -- 7
                      go_simp
                      refine (make_at t _ (ks ++ [.mk 2 n (ByteArray.mk #[]) []]) _ Hn.out.2.2.2.1 (lenT O60.ts) zm).mono ?_
                      rintro e W61 ⟨r, rfl, R61, bM61⟩
                      obtain ⟨kk61, nn61, ss61, aa61, ll61, cc61, rfl, -⟩ := formT R61
                      go_wp2_with fail
                      have E61 : Below wX.heap.size wX W61 := E60.trans (bM61.mono E60.size)
                      have vlt61 := (Array.getElem?_eq_some_iff.1 Y60).1
                      have Y61 := tbox_below Y60 bM61
                      have YL61 := YL60
                      have R61 := R61.carry (fun b _ => rfl) (fun b hb => (⟨hb.2, fun e => by have := hb.1; omega⟩ : b < W61.heap.size ∧ b ≠ W51.heap.size))
                      refine hK.out _ _ (HS _ E61) (fun h61 => ?_)
                      clear hK K
                      try simp only [Act.put, List.setIfInBounds_toArray, List.set_cons_zero, List.set_cons_succ]
                      refine wpAnyH_ready (rs := [9]) (by kernel_rfl) (by simp) ?_
                      refine AllReadyH.cons rfl (fun K hK => ?_) AllReadyH.nil
                      · -- 9
                        obtain ⟨x0, x1, x2, x3⟩ := tbox_cells Y61
                        have y0 := boxF Y61 0
                        have y1 := boxF Y61 1
                        have y2 := boxF Y61 2
                        have y3 := boxF Y61 3
                        go_simp
                        have F62 := fin12 E61 YL61 Y61 R61
                        refine hK.out _ _ (HS _ F62.2.2) (fun h62 => ?_)
                        clear hK K
                        try simp only [Act.put, List.setIfInBounds_toArray, List.set_cons_zero, List.set_cons_succ]
                        refine wpAnyH_done (by kernel_rfl) ?_ _
                        go_wp2_with fail
                        go_meet
                        case rel => exact ⟨_, _, _, _, _, _, _, rfl, F62⟩
              · -- 8
                go_simp
                obtain ⟨W63, hW63⟩ : ∃ W, W = World.alloc W50 (.cells #[.int .i64 0, .int .i64 0, .string (ByteArray.mk #[]), .slice none 0 0] 24) := ⟨_, rfl⟩
                have bA63 : Below W50.heap.size W50 W63 := by rw [hW63]; exact (Below.refl _ _).alloc (Nat.le_refl _) _
                have N63 : W63.heap[W50.heap.size]? = some (.cells #[.int .i64 0, .int .i64 0, .string (ByteArray.mk #[]), .slice none 0 0] 24 (0, 0)) := by rw [hW63]; exact World.alloc_heap_new _ _
                have E63 : Below wX.heap.size wX W63 := E50.trans (bA63.mono E50.size)
                have O63 := O50.alloc (ownB wX _ O50.lt) (.cells #[.int .i64 0, .int .i64 0, .string (ByteArray.mk #[]), .slice none 0 0] 24)
                rw [← hW63] at O63
                have G63 := tbox_below G50 bA63
                have GN63 := GN50
                have GL63 := GL50
                have Y63 := N63
                have YL63 : wX.heap.size ≤ W50.heap.size := E50.size
                have YN63 := fun e => Nat.lt_irrefl _ (O50.lt2 _ e)
                rw [← hW63]
                clear hW63
                refine hK.out _ _ (HS _ E63) (fun h63 => ?_)
                clear hK K
                try simp only [Act.put, List.setIfInBounds_toArray, List.set_cons_zero, List.set_cons_succ]
                refine wpAnyH_ready (rs := [3]) (by kernel_rfl) (by simp) ?_
                refine AllReadyH.cons rfl (fun K hK => ?_) AllReadyH.nil
                · -- 3
                  refine step_append_ts rfl (.tmp 50) (.tmp 51) rfl wX.heap.size w4.heap.size _ _ [] ks rfl rfl O63 (srcK _ _ E63 O63.lt) (by simp; omega) E63.size (Nat.lt_of_lt_of_le hB4 E63.size) ?_
                  intro v64 W64 O64 g64 at64
                  rw [List.nil_append] at O64
                  have E64 : Below wX.heap.size wX W64 := E63.grown g64 E63.size (fun k e => O63.lt k e)
                  have G64 := (g64.block _ (Array.getElem?_eq_some_iff.1 G63).1 (Ne.symm GN63)).trans G63
                  have GL64 := GL63
                  have GN64 := ownNe G63 GN63 at64
                  have Y64 := (g64.block _ (Array.getElem?_eq_some_iff.1 Y63).1 (Ne.symm YN63)).trans Y63
                  have YL64 := YL63
                  have YN64 := ownNe Y63 YN63 at64
                  obtain ⟨a64', c64', e64⟩ := O64.form
                  subst e64
                  refine hK.out _ _ (HS _ E64) (fun h64 => ?_)
                  clear hK K
                  try simp only [Act.put, List.setIfInBounds_toArray, List.set_cons_zero, List.set_cons_succ]
                  refine wpAnyH_ready (rs := [6]) (by kernel_rfl) (by simp) ?_
                  refine AllReadyH.cons rfl (fun K hK => ?_) AllReadyH.nil
                  · -- 6
                    refine step_append_ts rfl (.tmp 52) (.tmp 54) rfl wX.heap.size w4.heap.size _ _ ks [.mk 2 n (ByteArray.mk #[]) []] rfl rfl O64 (srcL _ _ _ E64 O64.lt G64 GL64 GN64) (by simp; omega) E64.size (Nat.lt_of_lt_of_le hB4 E64.size) ?_
                    intro v65 W65 O65 g65 at65
                    have E65 : Below wX.heap.size wX W65 := E64.grown g65 E64.size (fun k e => O64.lt k e)
                    have Y65 := (g65.block _ (Array.getElem?_eq_some_iff.1 Y64).1 (Ne.symm YN64)).trans Y64
                    have YL65 := YL64
                    have YN65 := ownNe Y64 YN64 at65
                    obtain ⟨a65', c65', e65⟩ := O65.form
                    subst e65
                    refine hK.out _ _ (HS _ E65) (fun h65 => ?_)
                    clear hK K
                    try simp only [Act.put, List.setIfInBounds_toArray, List.set_cons_zero, List.set_cons_succ]
                    refine wpAnyH_ready (rs := [7]) (by kernel_rfl) (by simp) ?_
                    refine AllReadyH.cons rfl (fun K hK => ?_) AllReadyH.nil
                    · -- 7
                      go_simp
                      refine (make_at t _ (ks ++ [.mk 2 n (ByteArray.mk #[]) []]) _ Hn.out.2.2.2.1 (lenT O65.ts) zm).mono ?_
                      rintro e W66 ⟨r, rfl, R66, bM66⟩
                      obtain ⟨kk66, nn66, ss66, aa66, ll66, cc66, rfl, -⟩ := formT R66
                      go_wp2_with fail
                      have E66 : Below wX.heap.size wX W66 := E65.trans (bM66.mono E65.size)
                      have vlt66 := (Array.getElem?_eq_some_iff.1 Y65).1
                      have Y66 := tbox_below Y65 bM66
                      have YL66 := YL65
                      have R66 := R66.carry (fun b _ => rfl) (fun b hb => (⟨hb.2, fun e => by have := hb.1; omega⟩ : b < W66.heap.size ∧ b ≠ W50.heap.size))
                      refine hK.out _ _ (HS _ E66) (fun h66 => ?_)
                      clear hK K
                      try simp only [Act.put, List.setIfInBounds_toArray, List.set_cons_zero, List.set_cons_succ]
                      refine wpAnyH_ready (rs := [9]) (by kernel_rfl) (by simp) ?_
                      refine AllReadyH.cons rfl (fun K hK => ?_) AllReadyH.nil
                      · -- 9
                        obtain ⟨x0, x1, x2, x3⟩ := tbox_cells Y66
                        have y0 := boxF Y66 0
                        have y1 := boxF Y66 1
                        have y2 := boxF Y66 2
                        have y3 := boxF Y66 3
                        go_simp
                        have F67 := fin12 E66 YL66 Y66 R66
                        refine hK.out _ _ (HS _ F67.2.2) (fun h67 => ?_)
                        clear hK K
                        try simp only [Act.put, List.setIfInBounds_toArray, List.set_cons_zero, List.set_cons_succ]
                        refine wpAnyH_done (by kernel_rfl) ?_ _
                        go_wp2_with fail
                        go_meet
                        case rel => exact ⟨_, _, _, _, _, _, _, rfl, F67⟩
            · -- 8
              go_simp
              obtain ⟨W68, hW68⟩ : ∃ W, W = World.alloc W49 (.cells #[.int .i64 0, .int .i64 0, .string (ByteArray.mk #[]), .slice none 0 0] 24) := ⟨_, rfl⟩
              have bA68 : Below W49.heap.size W49 W68 := by rw [hW68]; exact (Below.refl _ _).alloc (Nat.le_refl _) _
              have N68 : W68.heap[W49.heap.size]? = some (.cells #[.int .i64 0, .int .i64 0, .string (ByteArray.mk #[]), .slice none 0 0] 24 (0, 0)) := by rw [hW68]; exact World.alloc_heap_new _ _
              have E68 : Below wX.heap.size wX W68 := E49.trans (bA68.mono E49.size)
              have G68 := tbox_below G49 bA68
              have GL68 := GL49
              have Y68 := N68
              have YL68 : wX.heap.size ≤ W49.heap.size := E49.size
              rw [← hW68]
              clear hW68
              refine hK.out _ _ (HS _ E68) (fun h68 => ?_)
              clear hK K
              try simp only [Act.put, List.setIfInBounds_toArray, List.set_cons_zero, List.set_cons_succ]
              refine wpAnyH_ready (rs := [1]) (by kernel_rfl) (by simp) ?_
              refine AllReadyH.cons rfl (fun K hK => ?_) AllReadyH.nil
              · -- 1
                go_simp
                obtain ⟨W69, hW69⟩ : ∃ W, W = World.alloc W68 (.cells #[] 24) := ⟨_, rfl⟩
                have bA69 : Below W68.heap.size W68 W69 := by rw [hW69]; exact (Below.refl _ _).alloc (Nat.le_refl _) _
                have N69 : W69.heap[W68.heap.size]? = some (.cells #[] 24 (0, 0)) := by rw [hW69]; exact World.alloc_heap_new _ _
                have E69 : Below wX.heap.size wX W69 := E68.trans (bA69.mono E68.size)
                have G69 := tbox_below G68 bA69
                have GL69 := GL68
                have Y69 := tbox_below Y68 bA69
                have YL69 := YL68
                have O69 : OwnTs W69 wX.heap.size w4.heap.size (.slice (some ⟨W68.heap.size, 0, none⟩) 0 0) [] := by rw [hW69]; exact OwnTs.empty _ _ _ E68.size
                have GN69 : (Value.slice (some ⟨W68.heap.size, 0, none⟩) 0 0).ownBlock ≠ some wD.heap.size := newNe G68
                have YN69 : (Value.slice (some ⟨W68.heap.size, 0, none⟩) 0 0).ownBlock ≠ some W49.heap.size := newNe Y68
                rw [← hW69]
                clear hW69
                refine hK.out _ _ (HS _ E69) (fun h69 => ?_)
                clear hK K
                try simp only [Act.put, List.setIfInBounds_toArray, List.set_cons_zero, List.set_cons_succ]
                refine wpAnyH_ready (rs := [3]) (by kernel_rfl) (by simp) ?_
                refine AllReadyH.cons rfl (fun K hK => ?_) AllReadyH.nil
                · -- 3
                  refine step_append_ts rfl (.tmp 50) (.tmp 51) rfl wX.heap.size w4.heap.size _ _ [] ks rfl rfl O69 (srcK _ _ E69 O69.lt) (by simp; omega) E69.size (Nat.lt_of_lt_of_le hB4 E69.size) ?_
                  intro v70 W70 O70 g70 at70
                  rw [List.nil_append] at O70
                  have E70 : Below wX.heap.size wX W70 := E69.grown g70 E69.size (fun k e => O69.lt k e)
                  have G70 := (g70.block _ (Array.getElem?_eq_some_iff.1 G69).1 (Ne.symm GN69)).trans G69
                  have GL70 := GL69
                  have GN70 := ownNe G69 GN69 at70
                  have Y70 := (g70.block _ (Array.getElem?_eq_some_iff.1 Y69).1 (Ne.symm YN69)).trans Y69
                  have YL70 := YL69
                  have YN70 := ownNe Y69 YN69 at70
                  obtain ⟨a70', c70', e70⟩ := O70.form
                  subst e70
                  refine hK.out _ _ (HS _ E70) (fun h70 => ?_)
                  clear hK K
                  try simp only [Act.put, List.setIfInBounds_toArray, List.set_cons_zero, List.set_cons_succ]
                  refine wpAnyH_ready (rs := [6]) (by kernel_rfl) (by simp) ?_
                  refine AllReadyH.cons rfl (fun K hK => ?_) AllReadyH.nil
                  · -- 6
                    refine step_append_ts rfl (.tmp 52) (.tmp 54) rfl wX.heap.size w4.heap.size _ _ ks [.mk 2 n (ByteArray.mk #[]) []] rfl rfl O70 (srcL _ _ _ E70 O70.lt G70 GL70 GN70) (by simp; omega) E70.size (Nat.lt_of_lt_of_le hB4 E70.size) ?_
                    intro v71 W71 O71 g71 at71
                    have E71 : Below wX.heap.size wX W71 := E70.grown g71 E70.size (fun k e => O70.lt k e)
                    have Y71 := (g71.block _ (Array.getElem?_eq_some_iff.1 Y70).1 (Ne.symm YN70)).trans Y70
                    have YL71 := YL70
                    have YN71 := ownNe Y70 YN70 at71
                    obtain ⟨a71', c71', e71⟩ := O71.form
                    subst e71
                    refine hK.out _ _ (HS _ E71) (fun h71 => ?_)
                    clear hK K
                    try simp only [Act.put, List.setIfInBounds_toArray, List.set_cons_zero, List.set_cons_succ]
                    refine wpAnyH_ready (rs := [7]) (by kernel_rfl) (by simp) ?_
                    refine AllReadyH.cons rfl (fun K hK => ?_) AllReadyH.nil
                    · -- 7
                      go_simp
                      refine (make_at t _ (ks ++ [.mk 2 n (ByteArray.mk #[]) []]) _ Hn.out.2.2.2.1 (lenT O71.ts) zm).mono ?_
                      rintro e W72 ⟨r, rfl, R72, bM72⟩
                      obtain ⟨kk72, nn72, ss72, aa72, ll72, cc72, rfl, -⟩ := formT R72
                      go_wp2_with fail
                      have E72 : Below wX.heap.size wX W72 := E71.trans (bM72.mono E71.size)
                      have vlt72 := (Array.getElem?_eq_some_iff.1 Y71).1
                      have Y72 := tbox_below Y71 bM72
                      have YL72 := YL71
                      have R72 := R72.carry (fun b _ => rfl) (fun b hb => (⟨hb.2, fun e => by have := hb.1; omega⟩ : b < W72.heap.size ∧ b ≠ W49.heap.size))
                      refine hK.out _ _ (HS _ E72) (fun h72 => ?_)
                      clear hK K
                      try simp only [Act.put, List.setIfInBounds_toArray, List.set_cons_zero, List.set_cons_succ]
                      refine wpAnyH_ready (rs := [9]) (by kernel_rfl) (by simp) ?_
                      refine AllReadyH.cons rfl (fun K hK => ?_) AllReadyH.nil
                      · -- 9
                        obtain ⟨x0, x1, x2, x3⟩ := tbox_cells Y72
                        have y0 := boxF Y72 0
                        have y1 := boxF Y72 1
                        have y2 := boxF Y72 2
                        have y3 := boxF Y72 3
                        go_simp
                        have F73 := fin12 E72 YL72 Y72 R72
                        refine hK.out _ _ (HS _ F73.2.2) (fun h73 => ?_)
                        clear hK K
                        try simp only [Act.put, List.setIfInBounds_toArray, List.set_cons_zero, List.set_cons_succ]
                        refine wpAnyH_done (by kernel_rfl) ?_ _
                        go_wp2_with fail
                        go_meet
                        case rel => exact ⟨_, _, _, _, _, _, _, rfl, F73⟩
          · -- 8
            go_simp
            obtain ⟨W74, hW74⟩ : ∃ W, W = World.alloc wD (.cells #[.int .i64 0, .int .i64 0, .string (ByteArray.mk #[]), .slice none 0 0] 24) := ⟨_, rfl⟩
            have bA74 : Below wD.heap.size wD W74 := by rw [hW74]; exact (Below.refl _ _).alloc (Nat.le_refl _) _
            have N74 : W74.heap[wD.heap.size]? = some (.cells #[.int .i64 0, .int .i64 0, .string (ByteArray.mk #[]), .slice none 0 0] 24 (0, 0)) := by rw [hW74]; exact World.alloc_heap_new _ _
            have E74 : Below wX.heap.size wX W74 := E0.trans (bA74.mono E0.size)
            have Y74 := N74
            have YL74 : wX.heap.size ≤ wD.heap.size := E0.size
            rw [← hW74]
            clear hW74
            refine hK.out _ _ (HS _ E74) (fun h74 => ?_)
            clear hK K
            try simp only [Act.put, List.setIfInBounds_toArray, List.set_cons_zero, List.set_cons_succ]
            refine wpAnyH_ready (rs := [1, 5]) (by kernel_rfl) (by simp) ?_
            refine AllReadyH.cons rfl (fun K hK => ?_) (AllReadyH.cons rfl (fun K hK => ?_) AllReadyH.nil)
            · -- 1
              go_simp
              obtain ⟨W75, hW75⟩ : ∃ W, W = World.alloc W74 (.cells #[] 24) := ⟨_, rfl⟩
              have bA75 : Below W74.heap.size W74 W75 := by rw [hW75]; exact (Below.refl _ _).alloc (Nat.le_refl _) _
              have N75 : W75.heap[W74.heap.size]? = some (.cells #[] 24 (0, 0)) := by rw [hW75]; exact World.alloc_heap_new _ _
              have E75 : Below wX.heap.size wX W75 := E74.trans (bA75.mono E74.size)
              have Y75 := tbox_below Y74 bA75
              have YL75 := YL74
              have O75 : OwnTs W75 wX.heap.size w4.heap.size (.slice (some ⟨W74.heap.size, 0, none⟩) 0 0) [] := by rw [hW75]; exact OwnTs.empty _ _ _ E74.size
              have YN75 : (Value.slice (some ⟨W74.heap.size, 0, none⟩) 0 0).ownBlock ≠ some wD.heap.size := newNe Y74
              rw [← hW75]
              clear hW75
              refine hK.out _ _ (HS _ E75) (fun h75 => ?_)
              clear hK K
              try simp only [Act.put, List.setIfInBounds_toArray, List.set_cons_zero, List.set_cons_succ]
              refine wpAnyH_ready (rs := [3, 5]) (by kernel_rfl) (by simp) ?_
              refine AllReadyH.cons rfl (fun K hK => ?_) (AllReadyH.cons rfl (fun K hK => ?_) AllReadyH.nil)
              · -- 3
                refine step_append_ts rfl (.tmp 50) (.tmp 51) rfl wX.heap.size w4.heap.size _ _ [] ks rfl rfl O75 (srcK _ _ E75 O75.lt) (by simp; omega) E75.size (Nat.lt_of_lt_of_le hB4 E75.size) ?_
                intro v76 W76 O76 g76 at76
                rw [List.nil_append] at O76
                have E76 : Below wX.heap.size wX W76 := E75.grown g76 E75.size (fun k e => O75.lt k e)
                have Y76 := (g76.block _ (Array.getElem?_eq_some_iff.1 Y75).1 (Ne.symm YN75)).trans Y75
                have YL76 := YL75
                have YN76 := ownNe Y75 YN75 at76
                obtain ⟨a76', c76', e76⟩ := O76.form
                subst e76
                refine hK.out _ _ (HS _ E76) (fun h76 => ?_)
                clear hK K
                try simp only [Act.put, List.setIfInBounds_toArray, List.set_cons_zero, List.set_cons_succ]
                refine wpAnyH_ready (rs := [5]) (by kernel_rfl) (by simp) ?_
                refine AllReadyH.cons rfl (fun K hK => ?_) AllReadyH.nil
                · -- 5
                  go_simp
                  obtain ⟨W77, hW77⟩ : ∃ W, W = World.alloc W76 (.cells #[.int .i64 k3, .int .i64 n3, .string s3, .slice a3 l3 c3'] 24) := ⟨_, rfl⟩
                  have bA77 : Below W76.heap.size W76 W77 := by rw [hW77]; exact (Below.refl _ _).alloc (Nat.le_refl _) _
                  have N77 : W77.heap[W76.heap.size]? = some (.cells #[.int .i64 k3, .int .i64 n3, .string s3, .slice a3 l3 c3'] 24 (0, 0)) := by rw [hW77]; exact World.alloc_heap_new _ _
                  have E77 : Below wX.heap.size wX W77 := E76.trans (bA77.mono E76.size)
                  have O77 := O76.alloc (ownB wX _ O76.lt) (.cells #[.int .i64 k3, .int .i64 n3, .string s3, .slice a3 l3 c3'] 24)
                  rw [← hW77] at O77
                  have Y77 := tbox_below Y76 bA77
                  have YL77 := YL76
                  have YN77 := YN76
                  have G77 := N77
                  have GL77 : wX.heap.size ≤ W76.heap.size := E76.size
                  have GN77 := fun e => Nat.lt_irrefl _ (O76.lt2 _ e)
                  rw [← hW77]
                  clear hW77
                  refine hK.out _ _ (HS _ E77) (fun h77 => ?_)
                  clear hK K
                  try simp only [Act.put, List.setIfInBounds_toArray, List.set_cons_zero, List.set_cons_succ]
                  refine wpAnyH_ready (rs := [6]) (by kernel_rfl) (by simp) ?_
                  refine AllReadyH.cons rfl (fun K hK => ?_) AllReadyH.nil
                  · -- 6
                    refine step_append_ts rfl (.tmp 52) (.tmp 54) rfl wX.heap.size w4.heap.size _ _ ks [.mk 2 n (ByteArray.mk #[]) []] rfl rfl O77 (srcL _ _ _ E77 O77.lt G77 GL77 GN77) (by simp; omega) E77.size (Nat.lt_of_lt_of_le hB4 E77.size) ?_
                    intro v78 W78 O78 g78 at78
                    have E78 : Below wX.heap.size wX W78 := E77.grown g78 E77.size (fun k e => O77.lt k e)
                    have Y78 := (g78.block _ (Array.getElem?_eq_some_iff.1 Y77).1 (Ne.symm YN77)).trans Y77
                    have YL78 := YL77
                    have YN78 := ownNe Y77 YN77 at78
                    obtain ⟨a78', c78', e78⟩ := O78.form
                    subst e78
                    refine hK.out _ _ (HS _ E78) (fun h78 => ?_)
                    clear hK K
                    try simp only [Act.put, List.setIfInBounds_toArray, List.set_cons_zero, List.set_cons_succ]
                    refine wpAnyH_ready (rs := [7]) (by kernel_rfl) (by simp) ?_
                    refine AllReadyH.cons rfl (fun K hK => ?_) AllReadyH.nil
                    · -- 7
                      go_simp
                      refine (make_at t _ (ks ++ [.mk 2 n (ByteArray.mk #[]) []]) _ Hn.out.2.2.2.1 (lenT O78.ts) zm).mono ?_
                      rintro e W79 ⟨r, rfl, R79, bM79⟩
                      obtain ⟨kk79, nn79, ss79, aa79, ll79, cc79, rfl, -⟩ := formT R79
                      go_wp2_with fail
                      have E79 : Below wX.heap.size wX W79 := E78.trans (bM79.mono E78.size)
                      have vlt79 := (Array.getElem?_eq_some_iff.1 Y78).1
                      have Y79 := tbox_below Y78 bM79
                      have YL79 := YL78
                      have R79 := R79.carry (fun b _ => rfl) (fun b hb => (⟨hb.2, fun e => by have := hb.1; omega⟩ : b < W79.heap.size ∧ b ≠ wD.heap.size))
                      refine hK.out _ _ (HS _ E79) (fun h79 => ?_)
                      clear hK K
                      try simp only [Act.put, List.setIfInBounds_toArray, List.set_cons_zero, List.set_cons_succ]
                      refine wpAnyH_ready (rs := [9]) (by kernel_rfl) (by simp) ?_
                      refine AllReadyH.cons rfl (fun K hK => ?_) AllReadyH.nil
                      · -- 9
                        obtain ⟨x0, x1, x2, x3⟩ := tbox_cells Y79
                        have y0 := boxF Y79 0
                        have y1 := boxF Y79 1
                        have y2 := boxF Y79 2
                        have y3 := boxF Y79 3
                        go_simp
                        have F80 := fin12 E79 YL79 Y79 R79
                        refine hK.out _ _ (HS _ F80.2.2) (fun h80 => ?_)
                        clear hK K
                        try simp only [Act.put, List.setIfInBounds_toArray, List.set_cons_zero, List.set_cons_succ]
                        refine wpAnyH_done (by kernel_rfl) ?_ _
                        go_wp2_with fail
                        go_meet
                        case rel => exact ⟨_, _, _, _, _, _, _, rfl, F80⟩
              · -- 5
                go_simp
                obtain ⟨W81, hW81⟩ : ∃ W, W = World.alloc W75 (.cells #[.int .i64 k3, .int .i64 n3, .string s3, .slice a3 l3 c3'] 24) := ⟨_, rfl⟩
                have bA81 : Below W75.heap.size W75 W81 := by rw [hW81]; exact (Below.refl _ _).alloc (Nat.le_refl _) _
                have N81 : W81.heap[W75.heap.size]? = some (.cells #[.int .i64 k3, .int .i64 n3, .string s3, .slice a3 l3 c3'] 24 (0, 0)) := by rw [hW81]; exact World.alloc_heap_new _ _
                have E81 : Below wX.heap.size wX W81 := E75.trans (bA81.mono E75.size)
                have O81 := O75.alloc (ownB wX _ O75.lt) (.cells #[.int .i64 k3, .int .i64 n3, .string s3, .slice a3 l3 c3'] 24)
                rw [← hW81] at O81
                have Y81 := tbox_below Y75 bA81
                have YL81 := YL75
                have YN81 := YN75
                have G81 := N81
                have GL81 : wX.heap.size ≤ W75.heap.size := E75.size
                have GN81 := fun e => Nat.lt_irrefl _ (O75.lt2 _ e)
                rw [← hW81]
                clear hW81
                refine hK.out _ _ (HS _ E81) (fun h81 => ?_)
                clear hK K
                try simp only [Act.put, List.setIfInBounds_toArray, List.set_cons_zero, List.set_cons_succ]
                refine wpAnyH_ready (rs := [3]) (by kernel_rfl) (by simp) ?_
                refine AllReadyH.cons rfl (fun K hK => ?_) AllReadyH.nil
                · -- 3
                  refine step_append_ts rfl (.tmp 50) (.tmp 51) rfl wX.heap.size w4.heap.size _ _ [] ks rfl rfl O81 (srcK _ _ E81 O81.lt) (by simp; omega) E81.size (Nat.lt_of_lt_of_le hB4 E81.size) ?_
                  intro v82 W82 O82 g82 at82
                  rw [List.nil_append] at O82
                  have E82 : Below wX.heap.size wX W82 := E81.grown g82 E81.size (fun k e => O81.lt k e)
                  have G82 := (g82.block _ (Array.getElem?_eq_some_iff.1 G81).1 (Ne.symm GN81)).trans G81
                  have GL82 := GL81
                  have GN82 := ownNe G81 GN81 at82
                  have Y82 := (g82.block _ (Array.getElem?_eq_some_iff.1 Y81).1 (Ne.symm YN81)).trans Y81
                  have YL82 := YL81
                  have YN82 := ownNe Y81 YN81 at82
                  obtain ⟨a82', c82', e82⟩ := O82.form
                  subst e82
                  refine hK.out _ _ (HS _ E82) (fun h82 => ?_)
                  clear hK K
                  try simp only [Act.put, List.setIfInBounds_toArray, List.set_cons_zero, List.set_cons_succ]
                  refine wpAnyH_ready (rs := [6]) (by kernel_rfl) (by simp) ?_
                  refine AllReadyH.cons rfl (fun K hK => ?_) AllReadyH.nil
                  · -- 6
                    refine step_append_ts rfl (.tmp 52) (.tmp 54) rfl wX.heap.size w4.heap.size _ _ ks [.mk 2 n (ByteArray.mk #[]) []] rfl rfl O82 (srcL _ _ _ E82 O82.lt G82 GL82 GN82) (by simp; omega) E82.size (Nat.lt_of_lt_of_le hB4 E82.size) ?_
                    intro v83 W83 O83 g83 at83
                    have E83 : Below wX.heap.size wX W83 := E82.grown g83 E82.size (fun k e => O82.lt k e)
                    have Y83 := (g83.block _ (Array.getElem?_eq_some_iff.1 Y82).1 (Ne.symm YN82)).trans Y82
                    have YL83 := YL82
                    have YN83 := ownNe Y82 YN82 at83
                    obtain ⟨a83', c83', e83⟩ := O83.form
                    subst e83
                    refine hK.out _ _ (HS _ E83) (fun h83 => ?_)
                    clear hK K
                    try simp only [Act.put, List.setIfInBounds_toArray, List.set_cons_zero, List.set_cons_succ]
                    refine wpAnyH_ready (rs := [7]) (by kernel_rfl) (by simp) ?_
                    refine AllReadyH.cons rfl (fun K hK => ?_) AllReadyH.nil
                    · -- 7
                      go_simp
                      refine (make_at t _ (ks ++ [.mk 2 n (ByteArray.mk #[]) []]) _ Hn.out.2.2.2.1 (lenT O83.ts) zm).mono ?_
                      rintro e W84 ⟨r, rfl, R84, bM84⟩
                      obtain ⟨kk84, nn84, ss84, aa84, ll84, cc84, rfl, -⟩ := formT R84
                      go_wp2_with fail
                      have E84 : Below wX.heap.size wX W84 := E83.trans (bM84.mono E83.size)
                      have vlt84 := (Array.getElem?_eq_some_iff.1 Y83).1
                      have Y84 := tbox_below Y83 bM84
                      have YL84 := YL83
                      have R84 := R84.carry (fun b _ => rfl) (fun b hb => (⟨hb.2, fun e => by have := hb.1; omega⟩ : b < W84.heap.size ∧ b ≠ wD.heap.size))
                      refine hK.out _ _ (HS _ E84) (fun h84 => ?_)
                      clear hK K
                      try simp only [Act.put, List.setIfInBounds_toArray, List.set_cons_zero, List.set_cons_succ]
                      refine wpAnyH_ready (rs := [9]) (by kernel_rfl) (by simp) ?_
                      refine AllReadyH.cons rfl (fun K hK => ?_) AllReadyH.nil
                      · -- 9
                        obtain ⟨x0, x1, x2, x3⟩ := tbox_cells Y84
                        have y0 := boxF Y84 0
                        have y1 := boxF Y84 1
                        have y2 := boxF Y84 2
                        have y3 := boxF Y84 3
                        go_simp
                        have F85 := fin12 E84 YL84 Y84 R84
                        refine hK.out _ _ (HS _ F85.2.2) (fun h85 => ?_)
                        clear hK K
                        try simp only [Act.put, List.setIfInBounds_toArray, List.set_cons_zero, List.set_cons_succ]
                        refine wpAnyH_done (by kernel_rfl) ?_ _
                        go_wp2_with fail
                        go_meet
                        case rel => exact ⟨_, _, _, _, _, _, _, rfl, F85⟩
            · -- 5
              go_simp
              obtain ⟨W86, hW86⟩ : ∃ W, W = World.alloc W74 (.cells #[.int .i64 k3, .int .i64 n3, .string s3, .slice a3 l3 c3'] 24) := ⟨_, rfl⟩
              have bA86 : Below W74.heap.size W74 W86 := by rw [hW86]; exact (Below.refl _ _).alloc (Nat.le_refl _) _
              have N86 : W86.heap[W74.heap.size]? = some (.cells #[.int .i64 k3, .int .i64 n3, .string s3, .slice a3 l3 c3'] 24 (0, 0)) := by rw [hW86]; exact World.alloc_heap_new _ _
              have E86 : Below wX.heap.size wX W86 := E74.trans (bA86.mono E74.size)
              have Y86 := tbox_below Y74 bA86
              have YL86 := YL74
              have G86 := N86
              have GL86 : wX.heap.size ≤ W74.heap.size := E74.size
              rw [← hW86]
              clear hW86
              refine hK.out _ _ (HS _ E86) (fun h86 => ?_)
              clear hK K
              try simp only [Act.put, List.setIfInBounds_toArray, List.set_cons_zero, List.set_cons_succ]
              refine wpAnyH_ready (rs := [1]) (by kernel_rfl) (by simp) ?_
              refine AllReadyH.cons rfl (fun K hK => ?_) AllReadyH.nil
              · -- 1
                go_simp
                obtain ⟨W87, hW87⟩ : ∃ W, W = World.alloc W86 (.cells #[] 24) := ⟨_, rfl⟩
                have bA87 : Below W86.heap.size W86 W87 := by rw [hW87]; exact (Below.refl _ _).alloc (Nat.le_refl _) _
                have N87 : W87.heap[W86.heap.size]? = some (.cells #[] 24 (0, 0)) := by rw [hW87]; exact World.alloc_heap_new _ _
                have E87 : Below wX.heap.size wX W87 := E86.trans (bA87.mono E86.size)
                have G87 := tbox_below G86 bA87
                have GL87 := GL86
                have Y87 := tbox_below Y86 bA87
                have YL87 := YL86
                have O87 : OwnTs W87 wX.heap.size w4.heap.size (.slice (some ⟨W86.heap.size, 0, none⟩) 0 0) [] := by rw [hW87]; exact OwnTs.empty _ _ _ E86.size
                have GN87 : (Value.slice (some ⟨W86.heap.size, 0, none⟩) 0 0).ownBlock ≠ some W74.heap.size := newNe G86
                have YN87 : (Value.slice (some ⟨W86.heap.size, 0, none⟩) 0 0).ownBlock ≠ some wD.heap.size := newNe Y86
                rw [← hW87]
                clear hW87
                refine hK.out _ _ (HS _ E87) (fun h87 => ?_)
                clear hK K
                try simp only [Act.put, List.setIfInBounds_toArray, List.set_cons_zero, List.set_cons_succ]
                refine wpAnyH_ready (rs := [3]) (by kernel_rfl) (by simp) ?_
                refine AllReadyH.cons rfl (fun K hK => ?_) AllReadyH.nil
                · -- 3
                  refine step_append_ts rfl (.tmp 50) (.tmp 51) rfl wX.heap.size w4.heap.size _ _ [] ks rfl rfl O87 (srcK _ _ E87 O87.lt) (by simp; omega) E87.size (Nat.lt_of_lt_of_le hB4 E87.size) ?_
                  intro v88 W88 O88 g88 at88
                  rw [List.nil_append] at O88
                  have E88 : Below wX.heap.size wX W88 := E87.grown g88 E87.size (fun k e => O87.lt k e)
                  have G88 := (g88.block _ (Array.getElem?_eq_some_iff.1 G87).1 (Ne.symm GN87)).trans G87
                  have GL88 := GL87
                  have GN88 := ownNe G87 GN87 at88
                  have Y88 := (g88.block _ (Array.getElem?_eq_some_iff.1 Y87).1 (Ne.symm YN87)).trans Y87
                  have YL88 := YL87
                  have YN88 := ownNe Y87 YN87 at88
                  obtain ⟨a88', c88', e88⟩ := O88.form
                  subst e88
                  refine hK.out _ _ (HS _ E88) (fun h88 => ?_)
                  clear hK K
                  try simp only [Act.put, List.setIfInBounds_toArray, List.set_cons_zero, List.set_cons_succ]
                  refine wpAnyH_ready (rs := [6]) (by kernel_rfl) (by simp) ?_
                  refine AllReadyH.cons rfl (fun K hK => ?_) AllReadyH.nil
                  · -- 6
                    refine step_append_ts rfl (.tmp 52) (.tmp 54) rfl wX.heap.size w4.heap.size _ _ ks [.mk 2 n (ByteArray.mk #[]) []] rfl rfl O88 (srcL _ _ _ E88 O88.lt G88 GL88 GN88) (by simp; omega) E88.size (Nat.lt_of_lt_of_le hB4 E88.size) ?_
                    intro v89 W89 O89 g89 at89
                    have E89 : Below wX.heap.size wX W89 := E88.grown g89 E88.size (fun k e => O88.lt k e)
                    have Y89 := (g89.block _ (Array.getElem?_eq_some_iff.1 Y88).1 (Ne.symm YN88)).trans Y88
                    have YL89 := YL88
                    have YN89 := ownNe Y88 YN88 at89
                    obtain ⟨a89', c89', e89⟩ := O89.form
                    subst e89
                    refine hK.out _ _ (HS _ E89) (fun h89 => ?_)
                    clear hK K
                    try simp only [Act.put, List.setIfInBounds_toArray, List.set_cons_zero, List.set_cons_succ]
                    refine wpAnyH_ready (rs := [7]) (by kernel_rfl) (by simp) ?_
                    refine AllReadyH.cons rfl (fun K hK => ?_) AllReadyH.nil
                    · -- 7
                      go_simp
                      refine (make_at t _ (ks ++ [.mk 2 n (ByteArray.mk #[]) []]) _ Hn.out.2.2.2.1 (lenT O89.ts) zm).mono ?_
                      rintro e W90 ⟨r, rfl, R90, bM90⟩
                      obtain ⟨kk90, nn90, ss90, aa90, ll90, cc90, rfl, -⟩ := formT R90
                      go_wp2_with fail
                      have E90 : Below wX.heap.size wX W90 := E89.trans (bM90.mono E89.size)
                      have vlt90 := (Array.getElem?_eq_some_iff.1 Y89).1
                      have Y90 := tbox_below Y89 bM90
                      have YL90 := YL89
                      have R90 := R90.carry (fun b _ => rfl) (fun b hb => (⟨hb.2, fun e => by have := hb.1; omega⟩ : b < W90.heap.size ∧ b ≠ wD.heap.size))
                      refine hK.out _ _ (HS _ E90) (fun h90 => ?_)
                      clear hK K
                      try simp only [Act.put, List.setIfInBounds_toArray, List.set_cons_zero, List.set_cons_succ]
                      refine wpAnyH_ready (rs := [9]) (by kernel_rfl) (by simp) ?_
                      refine AllReadyH.cons rfl (fun K hK => ?_) AllReadyH.nil
                      · -- 9
                        obtain ⟨x0, x1, x2, x3⟩ := tbox_cells Y90
                        have y0 := boxF Y90 0
                        have y1 := boxF Y90 1
                        have y2 := boxF Y90 2
                        have y3 := boxF Y90 3
                        go_simp
                        have F91 := fin12 E90 YL90 Y90 R90
                        refine hK.out _ _ (HS _ F91.2.2) (fun h91 => ?_)
                        clear hK K
                        try simp only [Act.put, List.setIfInBounds_toArray, List.set_cons_zero, List.set_cons_succ]
                        refine wpAnyH_done (by kernel_rfl) ?_ _
                        go_wp2_with fail
                        go_meet
                        case rel => exact ⟨_, _, _, _, _, _, _, rfl, F91⟩
        case rest =>
          obtain ⟨g, k5, n5, s5, a5, l5, c5, rfl, HC⟩ := hcut
          obtain ⟨p0, p1, p2, p3⟩ := tbox_cells HC.out.1
          obtain ⟨p4, p5, p6, p7⟩ := tbox_cells (tbox_below HXX.out.2.2.2.1 HC.out.2.2)
          obtain ⟨p8, p9, p10, p11⟩ := tbox_cells (tbox_below HXX.out.2.2.2.2.1 HC.out.2.2)
          obtain ⟨p12, p13, p14, p15⟩ := tbox_cells (tbox_below HXX.out.2.2.2.2.2.1 HC.out.2.2)
          have HH := Lib.hid (And.intro (HXX.out.1.below HC.out.2.2) (And.intro (HXX.out.2.1.below HC.out.2.2) (And.intro (HXX.out.2.2.1.below HC.out.2.2) (And.intro HC.out.2.1 (And.intro (HasTs.below HK.out (HXX.out.2.2.2.2.2.2.trans (HC.out.2.2.mono HXX.out.2.2.2.2.2.2.size))) (HB.out.trans ((HXX.out.2.2.2.2.2.2.trans (HC.out.2.2.mono HXX.out.2.2.2.2.2.2.size)).mono HB.out.size)))))))
          have HS : ∀ w', Below wc.heap.size wc w' → w'.cell? ⟨w2.heap.size, 0, none⟩ = some (.int .i64 k2) ∧ w'.cell? ⟨w2.heap.size, 1, none⟩ = some (.int .i64 n2) ∧ w'.cell? ⟨w2.heap.size, 2, none⟩ = some (.string s2) ∧ w'.cell? ⟨w2.heap.size, 3, none⟩ = some (.slice a2 l2 c2) ∧ w'.cell? ⟨w3.heap.size, 0, none⟩ = some (.int .i64 k3) ∧ w'.cell? ⟨w3.heap.size, 1, none⟩ = some (.int .i64 n3) ∧ w'.cell? ⟨w3.heap.size, 2, none⟩ = some (.string s3) ∧ w'.cell? ⟨w3.heap.size, 3, none⟩ = some (.slice a3 l3 c3') ∧ w'.cell? ⟨w4.heap.size, 0, none⟩ = some (.int .i64 k4) ∧ w'.cell? ⟨w4.heap.size, 1, none⟩ = some (.int .i64 n4) ∧ w'.cell? ⟨w4.heap.size, 2, none⟩ = some (.string s4) ∧ w'.cell? ⟨w4.heap.size, 3, none⟩ = some (.slice a4 l4 c4) ∧ w'.cell? ⟨g, 0, none⟩ = some (.int .i64 k5) ∧ w'.cell? ⟨g, 1, none⟩ = some (.int .i64 n5) ∧ w'.cell? ⟨g, 2, none⟩ = some (.string s5) ∧ w'.cell? ⟨g, 3, none⟩ = some (.slice a5 l5 c5) ∧ Below wc.heap.size wc w' := fun w' hb => ⟨cellK hb p4, cellK hb p5, cellK hb p6, cellK hb p7, cellK hb p8, cellK hb p9, cellK hb p10, cellK hb p11, cellK hb p12, cellK hb p13, cellK hb p14, cellK hb p15, cellK hb p0, cellK hb p1, cellK hb p2, cellK hb p3, hb⟩
          have zk : (Tm.mk 3 0 s ks).size ≤ 1000000000000 := by simp only [Tm.size]; omega
          have zt : (Tm.mk 3 0 t ks).size ≤ 1000000000000 := by simp only [Tm.size]; omega
          have zl : ∀ (k n : Int), (Tm.mk k n (ByteArray.mk #[]) []).size ≤ 1000000000000 := fun k n => by simp [Tm.size, Tm.sizes]
          have zm : (Tm.mk 3 0 t (ks ++ [.mk 2 n (ByteArray.mk #[]) []])).size ≤ 1000000000000 := by simp only [Tm.size, Tm.sizes_append, Tm.sizes]; simp; omega
          have HZ := Lib.hid (And.intro zk (And.intro zt (And.intro zl zm)))
          clear p0 p1 p2 p3 p4 p5 p6 p7 p8 p9 p10 p11 p12 p13 p14 p15 HC HXX HWX hks zk zt zl zm
          go_upto_region 13 with fail
          refine wp_region_last (S := (fun w' => w'.cell? ⟨w2.heap.size, 0, none⟩ = some (.int .i64 k2) ∧ w'.cell? ⟨w2.heap.size, 1, none⟩ = some (.int .i64 n2) ∧ w'.cell? ⟨w2.heap.size, 2, none⟩ = some (.string s2) ∧ w'.cell? ⟨w2.heap.size, 3, none⟩ = some (.slice a2 l2 c2) ∧ w'.cell? ⟨w3.heap.size, 0, none⟩ = some (.int .i64 k3) ∧ w'.cell? ⟨w3.heap.size, 1, none⟩ = some (.int .i64 n3) ∧ w'.cell? ⟨w3.heap.size, 2, none⟩ = some (.string s3) ∧ w'.cell? ⟨w3.heap.size, 3, none⟩ = some (.slice a3 l3 c3') ∧ w'.cell? ⟨w4.heap.size, 0, none⟩ = some (.int .i64 k4) ∧ w'.cell? ⟨w4.heap.size, 1, none⟩ = some (.int .i64 n4) ∧ w'.cell? ⟨w4.heap.size, 2, none⟩ = some (.string s4) ∧ w'.cell? ⟨w4.heap.size, 3, none⟩ = some (.slice a4 l4 c4) ∧ w'.cell? ⟨g, 0, none⟩ = some (.int .i64 k5) ∧ w'.cell? ⟨g, 1, none⟩ = some (.int .i64 n5) ∧ w'.cell? ⟨g, 2, none⟩ = some (.string s5) ∧ w'.cell? ⟨g, 3, none⟩ = some (.slice a5 l5 c5) ∧ Below wc.heap.size wc w')) 42 rfl (by kernel_rfl) (HS _ (Below.refl _ _).drew) fun hHeld => ?_
          simp only [List.take_succ_cons, List.take_zero]
          have hdr : Below wc.heap.size wc wc.drew := (Below.refl wc.heap.size wc).drew
          refine wpAnyH_take (i := 0) (v := ?_) rfl (by kernel_rfl) (by kernel_rfl) (by kernel_rfl) (fun _ _ _ h => h) (Or.inl ⟨by kernel_rfl, ?_⟩) hHeld ?_
          rotate_left
          · intro w0 hSw
            (try dsimp only at hSw)
            go_simp
            try (with_reducible rfl)
          try simp only [Act.put, List.setIfInBounds_toArray, List.set_cons_zero, List.set_cons_succ]
          refine wpAnyH_take (i := 1) (v := ?_) rfl (by kernel_rfl) (by kernel_rfl) (by kernel_rfl) (fun _ _ _ h => h) (Or.inl ⟨by kernel_rfl, ?_⟩) hHeld ?_
          rotate_left
          · intro w0 hSw
            (try dsimp only at hSw)
            go_simp
            try (with_reducible rfl)
          try simp only [Act.put, List.setIfInBounds_toArray, List.set_cons_zero, List.set_cons_succ]
          refine wpAnyH_take (i := 2) (v := ?_) rfl (by kernel_rfl) (by kernel_rfl) (by kernel_rfl) (fun _ _ _ h => h) (Or.inl ⟨by kernel_rfl, ?_⟩) hHeld ?_
          rotate_left
          · intro w0 hSw
            (try dsimp only at hSw)
            go_simp
            try (with_reducible rfl)
          try simp only [Act.put, List.setIfInBounds_toArray, List.set_cons_zero, List.set_cons_succ]
          refine wpAnyH_take (i := 3) (v := ?_) rfl (by kernel_rfl) (by kernel_rfl) (by kernel_rfl) (fun _ _ _ h => h) (Or.inl ⟨by kernel_rfl, ?_⟩) hHeld ?_
          rotate_left
          · intro w0 hSw
            (try dsimp only at hSw)
            go_simp
            try (with_reducible rfl)
          try simp only [Act.put, List.setIfInBounds_toArray, List.set_cons_zero, List.set_cons_succ]
          refine wpAnyH_ready (rs := [4]) (by kernel_rfl) (by simp) ?_
          refine AllReadyH.cons rfl (fun K hK => ?_) AllReadyH.nil
          go_simp
          refine (compare_at _ _ _ _ _ (HH.out.1.below hdr) (HH.out.2.1.below hdr) (HZ.out.2.2.1 _ _) (HZ.out.2.2.1 _ _)).mono ?_
          rintro e wn4 ⟨he, hn4⟩
          rw [kd_var] at he
          obtain rfl := he
          have e4 : Below wc.heap.size wc wn4 := hdr.trans (hn4.mono hdr.size)
          go_wp2_with fail
          refine hK.out _ _ (HS _ e4) (fun hHeld4 => ?_)
          clear hK K
          try simp only [Act.put, List.setIfInBounds_toArray, List.set_cons_zero, List.set_cons_succ]
          refine wpAnyH_take (i := 5) (v := ?_) rfl (by kernel_rfl) (by kernel_rfl) (by kernel_rfl) (fun _ _ _ h => h) (Or.inl ⟨by kernel_rfl, ?_⟩) hHeld4 ?_
          rotate_left
          · intro w0 hSw
            (try dsimp only at hSw)
            go_simp
            try (with_reducible rfl)
          try simp only [Act.put, List.setIfInBounds_toArray, List.set_cons_zero, List.set_cons_succ]
          refine wpAnyH_take (i := 6) (v := ?_) rfl (by kernel_rfl) (by kernel_rfl) (by kernel_rfl) (fun _ _ _ h => h) (Or.inl ⟨by kernel_rfl, ?_⟩) hHeld4 ?_
          rotate_left
          · intro w0 hSw
            (try dsimp only at hSw)
            go_simp
            try (with_reducible rfl)
          try simp only [Act.put, List.setIfInBounds_toArray, List.set_cons_zero, List.set_cons_succ]
          refine wpAnyH_take (i := 7) (v := ?_) rfl (by kernel_rfl) (by kernel_rfl) (by kernel_rfl) (fun _ _ _ h => h) (Or.inl ⟨by kernel_rfl, ?_⟩) hHeld4 ?_
          rotate_left
          · intro w0 hSw
            (try dsimp only at hSw)
            go_simp
            try (with_reducible rfl)
          try simp only [Act.put, List.setIfInBounds_toArray, List.set_cons_zero, List.set_cons_succ]
          refine wpAnyH_take (i := 8) (v := ?_) rfl (by kernel_rfl) (by kernel_rfl) (by kernel_rfl) (fun _ _ _ h => h) (Or.inl ⟨by kernel_rfl, ?_⟩) hHeld4 ?_
          rotate_left
          · intro w0 hSw
            (try dsimp only at hSw)
            go_simp
            try (with_reducible rfl)
          try simp only [Act.put, List.setIfInBounds_toArray, List.set_cons_zero, List.set_cons_succ]
          refine wpAnyH_take (i := 9) (v := ?_) rfl (by kernel_rfl) (by kernel_rfl) (by kernel_rfl) (fun _ _ _ h => h) (Or.inl ⟨by kernel_rfl, ?_⟩) hHeld4 ?_
          rotate_left
          · intro w0 hSw
            (try dsimp only at hSw)
            go_simp
            try (with_reducible rfl)
          try simp only [Act.put, List.setIfInBounds_toArray, List.set_cons_zero, List.set_cons_succ]
          refine wpAnyH_ready (rs := [10]) (by kernel_rfl) (by simp) ?_
          refine AllReadyH.cons rfl (fun K hK => ?_) AllReadyH.nil
          go_simp
          refine (compare_at _ _ _ _ _ (HH.out.2.1.below e4) (HH.out.2.2.1.below e4) (HZ.out.2.2.1 _ _) HZ.out.1).mono ?_
          rintro e wn10 ⟨he, hn10⟩
          rw [kd_num] at he
          obtain rfl := he
          have e10 : Below wc.heap.size wc wn10 := e4.trans (hn10.mono e4.size)
          go_wp2_with fail
          refine hK.out _ _ (HS _ e10) (fun hHeld10 => ?_)
          clear hK K
          try simp only [Act.put, List.setIfInBounds_toArray, List.set_cons_zero, List.set_cons_succ]
          refine wpAnyH_take (i := 11) (v := ?_) rfl (by kernel_rfl) (by kernel_rfl) (by kernel_rfl) (fun _ _ _ h => h) (Or.inl ⟨by kernel_rfl, ?_⟩) hHeld10 ?_
          rotate_left
          · intro w0 hSw
            (try dsimp only at hSw)
            go_simp
            try (with_reducible rfl)
          try simp only [Act.put, List.setIfInBounds_toArray, List.set_cons_zero, List.set_cons_succ]
          refine wpAnyH_take (i := 12) (v := ?_) rfl (by kernel_rfl) (by kernel_rfl) (by kernel_rfl) (fun _ _ _ h => h) (Or.inl ⟨by kernel_rfl, ?_⟩) hHeld10 ?_
          rotate_left
          · intro w0 hSw
            (try dsimp only at hSw)
            go_simp
            try (with_reducible rfl)
          try simp only [Act.put, List.setIfInBounds_toArray, List.set_cons_zero, List.set_cons_succ]
          refine wpAnyH_take (i := 13) (v := ?_) rfl (by kernel_rfl) (by kernel_rfl) (by kernel_rfl) (fun _ _ _ h => h) (Or.inl ⟨by kernel_rfl, ?_⟩) hHeld10 ?_
          rotate_left
          · intro w0 hSw
            (try dsimp only at hSw)
            go_simp
            try (with_reducible rfl)
          try simp only [Act.put, List.setIfInBounds_toArray, List.set_cons_zero, List.set_cons_succ]
          refine wpAnyH_take (i := 14) (v := ?_) rfl (by kernel_rfl) (by kernel_rfl) (by kernel_rfl) (fun _ _ _ h => h) (Or.inl ⟨by kernel_rfl, ?_⟩) hHeld10 ?_
          rotate_left
          · intro w0 hSw
            (try dsimp only at hSw)
            go_simp
            try (with_reducible rfl)
          try simp only [Act.put, List.setIfInBounds_toArray, List.set_cons_zero, List.set_cons_succ]
          refine wpAnyH_take (i := 15) (v := ?_) rfl (by kernel_rfl) (by kernel_rfl) (by kernel_rfl) (fun _ _ _ h => h) (Or.inl ⟨by kernel_rfl, ?_⟩) hHeld10 ?_
          rotate_left
          · intro w0 hSw
            (try dsimp only at hSw)
            go_simp
            try (with_reducible rfl)
          try simp only [Act.put, List.setIfInBounds_toArray, List.set_cons_zero, List.set_cons_succ]
          refine wpAnyH_take (i := 19) (v := ?_) rfl (by kernel_rfl) (by kernel_rfl) (by kernel_rfl) (fun _ _ _ h => h) (Or.inl ⟨by kernel_rfl, ?_⟩) hHeld10 ?_
          rotate_left
          · intro w0 hSw
            (try dsimp only at hSw)
            go_simp
            try (with_reducible rfl)
          try simp only [Act.put, List.setIfInBounds_toArray, List.set_cons_zero, List.set_cons_succ]
          refine wpAnyH_take (i := 20) (v := ?_) rfl (by kernel_rfl) (by kernel_rfl) (by kernel_rfl) (fun _ _ _ h => h) (Or.inl ⟨by kernel_rfl, ?_⟩) hHeld10 ?_
          rotate_left
          · intro w0 hSw
            (try dsimp only at hSw)
            go_simp
            try (with_reducible rfl)
          try simp only [Act.put, List.setIfInBounds_toArray, List.set_cons_zero, List.set_cons_succ]
          refine wpAnyH_take (i := 21) (v := ?_) rfl (by kernel_rfl) (by kernel_rfl) (by kernel_rfl) (fun _ _ _ h => h) (Or.inl ⟨by kernel_rfl, ?_⟩) hHeld10 ?_
          rotate_left
          · intro w0 hSw
            (try dsimp only at hSw)
            go_simp
            try (with_reducible rfl)
          try simp only [Act.put, List.setIfInBounds_toArray, List.set_cons_zero, List.set_cons_succ]
          refine wpAnyH_ready (rs := [16]) (by kernel_rfl) (by simp) ?_
          refine AllReadyH.cons rfl (fun K hK => ?_) AllReadyH.nil
          go_simp
          refine (num_at m _ Hn.out.2.1).mono ?_
          intro e w16 h16
          obtain ⟨k16, n16, s16, a16, l16, c16, rfl, hT16, hB16⟩ := h16.has
          have e16 : Below wc.heap.size wc w16 := e10.trans (hB16.mono e10.size)
          go_wp2_with fail
          refine hK.out _ _ (HS _ e16) (fun hHeld16 => ?_)
          clear hK K
          try simp only [Act.put, List.setIfInBounds_toArray, List.set_cons_zero, List.set_cons_succ]
          refine wpAnyH_ready (rs := [17]) (by kernel_rfl) (by simp) ?_
          refine AllReadyH.cons rfl (fun K hK => ?_) AllReadyH.nil
          go_simp
          refine (compare_at _ _ _ _ _ (HH.out.2.1.below e16) hT16 (HZ.out.2.2.1 _ _) (HZ.out.2.2.1 _ _)).mono ?_
          rintro e wn17 ⟨he, hn17⟩
          rw [kd_two] at he
          obtain rfl := he
          have e17 : Below wc.heap.size wc wn17 := e16.trans (hn17.mono e16.size)
          go_wp2_with fail
          refine hK.out _ _ (HS _ e17) (fun hHeld17 => ?_)
          clear hK K
          try simp only [Act.put, List.setIfInBounds_toArray, List.set_cons_zero, List.set_cons_succ]
          refine wpAnyH_take (i := 18) (v := ?_) rfl (by kernel_rfl) (by kernel_rfl) (by kernel_rfl) (fun _ _ _ h => h) (Or.inl ⟨by kernel_rfl, ?_⟩) hHeld17 ?_
          rotate_left
          · intro w0 hSw
            (try dsimp only at hSw)
            go_simp
            try (with_reducible rfl)
          try simp only [Act.put, List.setIfInBounds_toArray, List.set_cons_zero, List.set_cons_succ]
          refine wpAnyH_take (i := 22) (v := .bool true) rfl (by kernel_rfl) (by kernel_rfl) (by kernel_rfl) (fun _ _ _ h => h) (Or.inl ⟨by kernel_rfl, ?_⟩) hHeld17 ?_
          · intro w0 hSw
            (try dsimp only at hSw)
            go_simp
            (try simp [c3_lt])
          try simp only [Act.put, List.setIfInBounds_toArray, List.set_cons_zero, List.set_cons_succ]
          refine wpAnyH_take (i := 23) (v := ?_) rfl (by kernel_rfl) (by kernel_rfl) (by kernel_rfl) (fun _ _ _ h => h) (Or.inl ⟨by kernel_rfl, ?_⟩) hHeld17 ?_
          rotate_left
          · intro w0 hSw
            (try dsimp only at hSw)
            go_simp
            try (with_reducible rfl)
          try simp only [Act.put, List.setIfInBounds_toArray, List.set_cons_zero, List.set_cons_succ]
          refine wpAnyH_take (i := 24) (v := ?_) rfl (by kernel_rfl) (by kernel_rfl) (by kernel_rfl) (fun _ _ _ h => h) (Or.inl ⟨by kernel_rfl, ?_⟩) hHeld17 ?_
          rotate_left
          · intro w0 hSw
            (try dsimp only at hSw)
            go_simp
            try (with_reducible rfl)
          try simp only [Act.put, List.setIfInBounds_toArray, List.set_cons_zero, List.set_cons_succ]
          refine wpAnyH_take (i := 25) (v := ?_) rfl (by kernel_rfl) (by kernel_rfl) (by kernel_rfl) (fun _ _ _ h => h) (Or.inl ⟨by kernel_rfl, ?_⟩) hHeld17 ?_
          rotate_left
          · intro w0 hSw
            (try dsimp only at hSw)
            go_simp
            try (with_reducible rfl)
          try simp only [Act.put, List.setIfInBounds_toArray, List.set_cons_zero, List.set_cons_succ]
          refine wpAnyH_take (i := 26) (v := ?_) rfl (by kernel_rfl) (by kernel_rfl) (by kernel_rfl) (fun _ _ _ h => h) (Or.inl ⟨by kernel_rfl, ?_⟩) hHeld17 ?_
          rotate_left
          · intro w0 hSw
            (try dsimp only at hSw)
            go_simp
            try (with_reducible rfl)
          try simp only [Act.put, List.setIfInBounds_toArray, List.set_cons_zero, List.set_cons_succ]
          refine wpAnyH_ready (rs := [27]) (by kernel_rfl) (by simp) ?_
          refine AllReadyH.cons rfl (fun K hK => ?_) AllReadyH.nil
          go_simp
          refine (compare_at _ _ _ _ _ (HH.out.2.2.1.below e17) (HH.out.2.2.2.1.below e17) HZ.out.1 HZ.out.2.2.2).mono ?_
          rintro e wn27 ⟨he, hn27⟩
          rw [kd_more] at he
          obtain rfl := he
          have e27 : Below wc.heap.size wc wn27 := e17.trans (hn27.mono e17.size)
          go_wp2_with fail
          refine hK.out _ _ (HS _ e27) (fun hHeld27 => ?_)
          clear hK K
          try simp only [Act.put, List.setIfInBounds_toArray, List.set_cons_zero, List.set_cons_succ]
          refine wpAnyH_take (i := 28) (v := ?_) rfl (by kernel_rfl) (by kernel_rfl) (by kernel_rfl) (fun _ _ _ h => h) (Or.inl ⟨by kernel_rfl, ?_⟩) hHeld27 ?_
          rotate_left
          · intro w0 hSw
            (try dsimp only at hSw)
            go_simp
            try (with_reducible rfl)
          try simp only [Act.put, List.setIfInBounds_toArray, List.set_cons_zero, List.set_cons_succ]
          refine wpAnyH_take (i := 29) (v := ?_) rfl (by kernel_rfl) (by kernel_rfl) (by kernel_rfl) (fun _ _ _ h => h) (Or.inl ⟨by kernel_rfl, ?_⟩) hHeld27 ?_
          rotate_left
          · intro w0 hSw
            (try dsimp only at hSw)
            go_simp
            try (with_reducible rfl)
          try simp only [Act.put, List.setIfInBounds_toArray, List.set_cons_zero, List.set_cons_succ]
          refine wpAnyH_take (i := 30) (v := ?_) rfl (by kernel_rfl) (by kernel_rfl) (by kernel_rfl) (fun _ _ _ h => h) (Or.inl ⟨by kernel_rfl, ?_⟩) hHeld27 ?_
          rotate_left
          · intro w0 hSw
            (try dsimp only at hSw)
            go_simp
            try (with_reducible rfl)
          try simp only [Act.put, List.setIfInBounds_toArray, List.set_cons_zero, List.set_cons_succ]
          refine wpAnyH_take (i := 31) (v := ?_) rfl (by kernel_rfl) (by kernel_rfl) (by kernel_rfl) (fun _ _ _ h => h) (Or.inl ⟨by kernel_rfl, ?_⟩) hHeld27 ?_
          rotate_left
          · intro w0 hSw
            (try dsimp only at hSw)
            go_simp
            try (with_reducible rfl)
          try simp only [Act.put, List.setIfInBounds_toArray, List.set_cons_zero, List.set_cons_succ]
          refine wpAnyH_take (i := 32) (v := ?_) rfl (by kernel_rfl) (by kernel_rfl) (by kernel_rfl) (fun _ _ _ h => h) (Or.inl ⟨by kernel_rfl, ?_⟩) hHeld27 ?_
          rotate_left
          · intro w0 hSw
            (try dsimp only at hSw)
            go_simp
            try (with_reducible rfl)
          try simp only [Act.put, List.setIfInBounds_toArray, List.set_cons_zero, List.set_cons_succ]
          refine wpAnyH_take (i := 33) (v := ?_) rfl (by kernel_rfl) (by kernel_rfl) (by kernel_rfl) (fun _ _ _ h => h) (Or.inl ⟨by kernel_rfl, ?_⟩) hHeld27 ?_
          rotate_left
          · intro w0 hSw
            (try dsimp only at hSw)
            go_simp
            try (with_reducible rfl)
          try simp only [Act.put, List.setIfInBounds_toArray, List.set_cons_zero, List.set_cons_succ]
          refine wpAnyH_take (i := 37) (v := ?_) rfl (by kernel_rfl) (by kernel_rfl) (by kernel_rfl) (fun _ _ _ h => h) (Or.inl ⟨by kernel_rfl, ?_⟩) hHeld27 ?_
          rotate_left
          · intro w0 hSw
            (try dsimp only at hSw)
            go_simp
            try (with_reducible rfl)
          try simp only [Act.put, List.setIfInBounds_toArray, List.set_cons_zero, List.set_cons_succ]
          refine wpAnyH_take (i := 38) (v := ?_) rfl (by kernel_rfl) (by kernel_rfl) (by kernel_rfl) (fun _ _ _ h => h) (Or.inl ⟨by kernel_rfl, ?_⟩) hHeld27 ?_
          rotate_left
          · intro w0 hSw
            (try dsimp only at hSw)
            go_simp
            try (with_reducible rfl)
          try simp only [Act.put, List.setIfInBounds_toArray, List.set_cons_zero, List.set_cons_succ]
          refine wpAnyH_take (i := 39) (v := ?_) rfl (by kernel_rfl) (by kernel_rfl) (by kernel_rfl) (fun _ _ _ h => h) (Or.inl ⟨by kernel_rfl, ?_⟩) hHeld27 ?_
          rotate_left
          · intro w0 hSw
            (try dsimp only at hSw)
            go_simp
            try (with_reducible rfl)
          try simp only [Act.put, List.setIfInBounds_toArray, List.set_cons_zero, List.set_cons_succ]
          refine wpAnyH_ready (rs := [34]) (by kernel_rfl) (by simp) ?_
          refine AllReadyH.cons rfl (fun K hK => ?_) AllReadyH.nil
          go_simp
          refine (make_at t _ ks _ Hn.out.2.2.2.1 (HasTs.below HH.out.2.2.2.2.1 e27) (Nat.le_trans Hn.out.2.2.2.2 (by omega))).mono ?_
          intro e w34 h34
          obtain ⟨k34, n34, s34, a34, l34, c34, rfl, hT34, hB34⟩ := h34.has
          have e34 : Below wc.heap.size wc w34 := e27.trans (hB34.mono e27.size)
          go_wp2_with fail
          refine hK.out _ _ (HS _ e34) (fun hHeld34 => ?_)
          clear hK K
          try simp only [Act.put, List.setIfInBounds_toArray, List.set_cons_zero, List.set_cons_succ]
          refine wpAnyH_ready (rs := [35]) (by kernel_rfl) (by simp) ?_
          refine AllReadyH.cons rfl (fun K hK => ?_) AllReadyH.nil
          go_simp
          refine (compare_at _ _ _ _ _ (HH.out.2.2.1.below e34) hT34 HZ.out.1 HZ.out.2.1).mono ?_
          rintro e wn35 ⟨he, hn35⟩
          rw [kd_name] at he
          obtain rfl := he
          have e35 : Below wc.heap.size wc wn35 := e34.trans (hn35.mono e34.size)
          go_wp2_with fail
          refine hK.out _ _ (HS _ e35) (fun hHeld35 => ?_)
          clear hK K
          try simp only [Act.put, List.setIfInBounds_toArray, List.set_cons_zero, List.set_cons_succ]
          refine wpAnyH_take (i := 36) (v := ?_) rfl (by kernel_rfl) (by kernel_rfl) (by kernel_rfl) (fun _ _ _ h => h) (Or.inl ⟨by kernel_rfl, ?_⟩) hHeld35 ?_
          rotate_left
          · intro w0 hSw
            (try dsimp only at hSw)
            go_simp
            try (with_reducible rfl)
          try simp only [Act.put, List.setIfInBounds_toArray, List.set_cons_zero, List.set_cons_succ]
          refine wpAnyH_take (i := 40) (v := .bool true) rfl (by kernel_rfl) (by kernel_rfl) (by kernel_rfl) (fun _ _ _ h => h) (Or.inl ⟨by kernel_rfl, ?_⟩) hHeld35 ?_
          · intro w0 hSw
            (try dsimp only at hSw)
            go_simp
            (try simp [cB_lss])
          try simp only [Act.put, List.setIfInBounds_toArray, List.set_cons_zero, List.set_cons_succ]
          refine wpAnyH_take (i := 41) (v := ?_) rfl (by kernel_rfl) (by kernel_rfl) (by kernel_rfl) (fun _ _ _ h => h) (Or.inl ⟨by kernel_rfl, ?_⟩) hHeld35 ?_
          rotate_left
          · intro w0 hSw
            (try dsimp only at hSw)
            go_simp
            try (with_reducible rfl)
          try simp only [Act.put, List.setIfInBounds_toArray, List.set_cons_zero, List.set_cons_succ]
          refine wpAnyH_done (by kernel_rfl) ?_ _
          refine last_of_list rfl ?_
          go_wp2_with fail
          go_ret
          exact ⟨rfl, HH.out.2.2.2.2.2.trans (e35.mono HH.out.2.2.2.2.2.size)⟩
end Go.Proofs.Ytbdkakpbhijilaa
