/-
  seal.withKids: a term with each of its kids changed; by each function that it is called with.
-/
import Derived.Test.YtnkfjomnpnbidaaZLastn2
import Derived.Laws.EntriesVeiled
namespace Go.Proofs.Ytnkfjomnpnbidaa
open Go.RowKit Go.Shelf
set_option linter.unusedVariables false

/-- The new list, its first places filled. -/
structure FillF (W : World) (B c len : Nat) (F : Tm → Tm) (ks : List Tm) : Prop where
  row : ∃ cur : Array Value, W.heap[B]? = some (.cells cur 24 (0, 0)) ∧ cur.size = len * 4
  kids : ∀ i t, i < c → ks[i]? = some t → ∃ (k' n' : Int) (s' : ByteArray) (a' : Option Addr) (l' c' : Nat), W.cell? ⟨B, i * 4, none⟩ = some (.int .i64 k') ∧ W.cell? ⟨B, i * 4 + 1, none⟩ = some (.int .i64 n') ∧
      W.cell? ⟨B, i * 4 + 2, none⟩ = some (.string s') ∧ W.cell? ⟨B, i * 4 + 3, none⟩ = some (.slice a' l' c') ∧ TmIn (fun b => B < b ∧ b < W.heap.size) W (.agg #[.int .i64 k', .int .i64 n', .string s', .slice a' l' c']) (F t)

theorem FillF.spot {W : World} {B c len : Nat} {F : Tm → Tm} {ks : List Tm} (h : FillF W B c len F ks) (i : Nat) (hi : i < len) :
    ∃ u0 u1 u2 u3, W.cell? ⟨B, i * 4, none⟩ = some u0 ∧ W.cell? ⟨B, i * 4 + 1, none⟩ = some u1 ∧ W.cell? ⟨B, i * 4 + 2, none⟩ = some u2 ∧ W.cell? ⟨B, i * 4 + 3, none⟩ = some u3 ∧ ∀ j, W.frozen? ⟨B, j, none⟩ = false := by
  obtain ⟨cur, h1, h2⟩ := h.row
  have e : ∀ j, j < len * 4 → ∃ u, W.cell? ⟨B, j, none⟩ = some u := fun j hj => ⟨cur[j], by simp [World.cell?, h1, Array.getElem?_eq_getElem (show j < cur.size by omega)]⟩
  obtain ⟨u0, e0⟩ := e (i * 4) (by omega)
  obtain ⟨u1, e1⟩ := e (i * 4 + 1) (by omega)
  obtain ⟨u2, e2⟩ := e (i * 4 + 2) (by omega)
  obtain ⟨u3, e3⟩ := e (i * 4 + 3) (by omega)
  exact ⟨u0, u1, u2, u3, e0, e1, e2, e3, fun j => by simp [World.frozen?, h1]⟩

theorem FillF.below {W W' : World} {B c len : Nat} {F : Tm → Tm} {ks : List Tm} (h : FillF W B c len F ks) (hb : Below W.heap.size W W') : FillF W' B c len F ks := by
  obtain ⟨cur, h1, h2⟩ := h.row
  have hlt : B < W.heap.size := (Array.getElem?_eq_some_iff.1 h1).1
  refine ⟨⟨cur, (hb.block B hlt).trans h1, h2⟩, fun i t hi ht => ?_⟩
  obtain ⟨k', n', s', a', l', c', c0, c1, c2, c3, hT⟩ := h.kids i t hi ht
  exact ⟨k', n', s', a', l', c', (hb.cell (p := ⟨B, _, none⟩) hlt).trans c0, (hb.cell (p := ⟨B, _, none⟩) hlt).trans c1, (hb.cell (p := ⟨B, _, none⟩) hlt).trans c2, (hb.cell (p := ⟨B, _, none⟩) hlt).trans c3,
    hT.carry (fun b hp => hb.block b hp.2) (fun b hp => ⟨hp.1, Nat.lt_of_lt_of_le hp.2 hb.size⟩)⟩

theorem FillF.set {W : World} {B c len : Nat} {F : Tm → Tm} {ks : List Tm} (h : FillF W B c len F ks) (hc : c < len) {t : Tm} (ht : ks[c]? = some t) {k n : Int} {s : ByteArray} {a : Option Addr} {l cp : Nat}
    (hT : TmIn (fun b => B < b ∧ b < W.heap.size) W (.agg #[.int .i64 k, .int .i64 n, .string s, .slice a l cp]) (F t)) :
    FillF ((((W.setCell ⟨B, c * 4, none⟩ (.int .i64 k)).setCell ⟨B, c * 4 + 1, none⟩ (.int .i64 n)).setCell ⟨B, c * 4 + 2, none⟩ (.string s)).setCell ⟨B, c * 4 + 3, none⟩ (.slice a l cp)) B (c + 1) len F ks := by
  obtain ⟨cur, h1, h2⟩ := h.row
  have e1 := set_block (o := c * 4 + 3) (set_block (o := c * 4 + 2) (set_block (o := c * 4 + 1) (set_block (o := c * 4) h1 (.int .i64 k)) (.int .i64 n)) (.string s)) (.slice a l cp)
  have eo : ∀ b, b ≠ B → ((((W.setCell ⟨B, c * 4, none⟩ (.int .i64 k)).setCell ⟨B, c * 4 + 1, none⟩ (.int .i64 n)).setCell ⟨B, c * 4 + 2, none⟩ (.string s)).setCell ⟨B, c * 4 + 3, none⟩ (.slice a l cp)).heap[b]? = W.heap[b]? := fun b hb => by
    rw [Below.heap_setCell _ _ _ _ hb, Below.heap_setCell _ _ _ _ hb, Below.heap_setCell _ _ _ _ hb, Below.heap_setCell _ _ _ _ hb]
  have es : ((((W.setCell ⟨B, c * 4, none⟩ (.int .i64 k)).setCell ⟨B, c * 4 + 1, none⟩ (.int .i64 n)).setCell ⟨B, c * 4 + 2, none⟩ (.string s)).setCell ⟨B, c * 4 + 3, none⟩ (.slice a l cp)).heap.size = W.heap.size := by simp
  generalize ((((W.setCell ⟨B, c * 4, none⟩ (.int .i64 k)).setCell ⟨B, c * 4 + 1, none⟩ (.int .i64 n)).setCell ⟨B, c * 4 + 2, none⟩ (.string s)).setCell ⟨B, c * 4 + 3, none⟩ (.slice a l cp)) = W' at e1 eo es ⊢
  have hcarry : ∀ {v : Value} {T : Tm}, TmIn (fun b => B < b ∧ b < W.heap.size) W v T → TmIn (fun b => B < b ∧ b < W'.heap.size) W' v T := fun hh =>
    hh.carry (fun b hb => eo b (by omega)) (fun b hb => ⟨hb.1, by rw [es]; exact hb.2⟩)
  have cell' : ∀ j, W'.cell? ⟨B, j, none⟩ = ((((cur.setIfInBounds (c * 4) (.int .i64 k)).setIfInBounds (c * 4 + 1) (.int .i64 n)).setIfInBounds (c * 4 + 2) (.string s)).setIfInBounds (c * 4 + 3) (.slice a l cp))[j]? := fun j => by simp [World.cell?, e1]
  have cell0 : ∀ j, W.cell? ⟨B, j, none⟩ = cur[j]? := fun j => by simp [World.cell?, h1]
  refine ⟨⟨_, e1, by simp [h2]⟩, fun i u hi hu => ?_⟩
  by_cases hic : i = c
  · subst hic
    rw [ht] at hu
    cases hu
    refine ⟨k, n, s, a, l, cp, ?_, ?_, ?_, ?_, hcarry hT⟩
    · rw [cell', Array.getElem?_setIfInBounds_ne (by omega), Array.getElem?_setIfInBounds_ne (by omega), Array.getElem?_setIfInBounds_ne (by omega), Array.getElem?_setIfInBounds_self_of_lt (by omega)]
    · rw [cell', Array.getElem?_setIfInBounds_ne (by omega), Array.getElem?_setIfInBounds_ne (by omega), Array.getElem?_setIfInBounds_self_of_lt (by simp; omega)]
    · rw [cell', Array.getElem?_setIfInBounds_ne (by omega), Array.getElem?_setIfInBounds_self_of_lt (by simp; omega)]
    · rw [cell', Array.getElem?_setIfInBounds_self_of_lt (by simp; omega)]
  · obtain ⟨k', n', s', a', l', c', c0, c1, c2, c3, hT'⟩ := h.kids i u (by omega) hu
    have other : ∀ j, j < c * 4 → W'.cell? ⟨B, j, none⟩ = W.cell? ⟨B, j, none⟩ := fun j hj => by
      rw [cell', cell0, Array.getElem?_setIfInBounds_ne (by omega), Array.getElem?_setIfInBounds_ne (by omega), Array.getElem?_setIfInBounds_ne (by omega), Array.getElem?_setIfInBounds_ne (by omega)]
    exact ⟨k', n', s', a', l', c', (other _ (by omega)).trans c0, (other _ (by omega)).trans c1, (other _ (by omega)).trans c2, (other _ (by omega)).trans c3, hcarry hT'⟩

theorem FillF.done {W : World} {B : Nat} {F : Tm → Tm} {ks : List Tm} (h : FillF W B ks.length ks.length F ks) (hl : ks.length ≤ maxLen) : TsIn (fun b => B ≤ b ∧ b < W.heap.size) W (.slice (some ⟨B, 0, none⟩) ks.length ks.length) (ks.map F) := by
  obtain ⟨cur, h1, h2⟩ := h.row
  have hlen : (ks.map F).length = ks.length := List.length_map _
  refine ⟨some ⟨B, 0, none⟩, ks.length, by rw [hlen], by rw [hlen]; exact Nat.le_refl _, hl, (fun h => by cases h), fun i hi => ?_⟩
  rw [hlen] at hi
  obtain ⟨k', n', s', a', l', c', c0, c1, c2, c3, hT⟩ := h.kids i ks[i] hi (List.getElem?_eq_getElem hi)
  refine ⟨B, 0, k', n', s', a', l', c', rfl, ⟨Nat.le_refl _, (Array.getElem?_eq_some_iff.1 h1).1⟩, by rw [Nat.zero_add]; exact c0, by rw [Nat.zero_add]; exact c1, by rw [Nat.zero_add]; exact c2, by rw [Nat.zero_add]; exact c3, ?_⟩
  rw [List.getElem_map]
  exact hT.carry (fun _ _ => rfl) (fun b hb => ⟨Nat.le_of_lt hb.1, hb.2⟩)


set_option maxRecDepth 100000 in
set_option maxHeartbeats 2000000 in
theorem withKids_erase (B1 : Nat) (F : Tm → Tm) (k n : Int) (s : ByteArray) (ks : List Tm) (v : Value) (w : World) (hv : Has w v (.mk k n s ks)) (hl : ks.length ≤ 1000000000000)
    (ih : ∀ t ∈ ks, ∀ (v : Value) (w' : World), Below w.heap.size w w' → Has w' v t → Calls Try.prog 43 #[v, .pointer (some ⟨B1, 0, none⟩)] w' (NewTm w' (F t))) :
    Calls Try.prog 45 #[v, .func (.func 43) #[] #[.pointer (some ⟨B1, 0, none⟩)]] w (NewTm w (.mk k n s (ks.map F))) := by
  obtain ⟨k_, n_, s_, a, len, cap, ks_, rfl, e, rfl, hk, hn, hs', -⟩ := hv.form
  injection e with e1 e2 e3 e4
  subst e1 e2 e3 e4
  obtain ⟨w2, hw2⟩ : ∃ w2, w2 = (w.alloc (.cells #[.int .i64 k, .int .i64 n, .string s, .slice a ks.length cap] 24)).alloc (.cells #[.int .i64 0, .int .i64 0, .string (ByteArray.mk #[]), .slice none 0 0] 24) := ⟨_, rfl⟩
  have hb2 : Below w.heap.size w w2 := by rw [hw2]; exact ((Below.refl _ w).alloc (Nat.le_refl _) _).alloc (by simp) _
  have hx1 : w2.heap[w.heap.size]? = some (.cells #[.int .i64 k, .int .i64 n, .string s, .slice a ks.length cap] 24 (0, 0)) := by rw [hw2]; exact (Below.heap_alloc _ _ _ (by simp)).trans (World.alloc_heap_new _ _)
  have hx2 : w2.heap[w.heap.size + 1]? = some (.cells #[.int .i64 0, .int .i64 0, .string (ByteArray.mk #[]), .slice none 0 0] 24 (0, 0)) := by rw [hw2]; simpa using World.alloc_heap_new (w.alloc (.cells #[.int .i64 k, .int .i64 n, .string s, .slice a ks.length cap] 24)) (.cells #[.int .i64 0, .int .i64 0, .string (ByteArray.mk #[]), .slice none 0 0] 24)
  have hsz2 : w2.heap.size = w.heap.size + 2 := by rw [hw2]; simp
  have hkids : HasTs w (.slice a ks.length cap) ks := TmIn.kids hv
  obtain ⟨a_, cap_, e, hc, hm, ha, hx⟩ := id hkids
  injection e with e1 e2 e3
  subst e1 e3
  have hmk := make_terms ks.length hl
  have hz := zeroTerm
  have HW := Lib.hid (And.intro hw2 (And.intro hb2 (And.intro hx1 (And.intro hx2 hsz2))))
  clear hw2 hb2 hx1 hx2 hsz2 hv hkids
  by_cases h0 : ks.length = 0
  · obtain rfl : ks = [] := List.eq_nil_of_length_eq_zero h0
    go_enter Try.func45, Try.ntmps45
    go_wp2_with fail
    go_loopw [19] (fun i wr => i = .int .i64 0 ∧ wr = w2) (fun i _ => 0)
    case atStart => exact ⟨rfl, HW.out.1.symm⟩
    case round =>
      obtain ⟨rfl, rfl⟩ := hrel
      obtain ⟨x0, x1, x2, x3⟩ := tbox_cells HW.out.2.2.1
      obtain ⟨z0, z1, z2, z3⟩ := tbox_cells HW.out.2.2.2.1
      have xf : ∀ j, wr.frozen? ⟨w.heap.size, j, none⟩ = false := fun j => by simp [World.frozen?, HW.out.2.2.1]
      have zf : ∀ j, wr.frozen? ⟨w.heap.size + 1, j, none⟩ = false := fun j => by simp [World.frozen?, HW.out.2.2.2.1]
      go_wp2_with fail
      have h5 := boxed_result (w := w) ((Below.heap_setCell wr ⟨w.heap.size, 3, none⟩ (.slice none 0 0) (w.heap.size + 1) (by simp)).trans HW.out.2.2.2.1) ((noTs (fun _ => False) (wr.setCell ⟨w.heap.size, 3, none⟩ (.slice none 0 0))).term hk hn hs') (fun b hb => hb.elim) (HW.out.2.1.setCell (p := ⟨w.heap.size, 3, none⟩) (Nat.le_refl _) _) (Nat.le_succ _)
      generalize (((((wr.setCell ⟨w.heap.size, 3, none⟩ (.slice none 0 0)).setCell ⟨w.heap.size + 1, 0, none⟩ (.int .i64 k)).setCell ⟨w.heap.size + 1, 1, none⟩ (.int .i64 n)).setCell ⟨w.heap.size + 1, 2, none⟩ (.string s)).setCell ⟨w.heap.size + 1, 3, none⟩ (.slice none 0 0)) = w5 at h5 ⊢
      obtain ⟨hb5, h5⟩ := h5
      obtain ⟨f0, f1, f2, f3⟩ := tbox_cells hb5
      refine bodyPost_ret (v := .agg #[.int .i64 k, .int .i64 n, .string s, .slice none 0 0]) (by simp [results, Try.f45, go_sem, f0, f1, f2, f3]) rfl ?_
      exact h5
  · have h0' : 0 < ks.length := by omega
    have h0i : (0 : Int) < (ks.length : Int) := by omega
    go_enter Try.func45, Try.ntmps45
    go_wp2_with fail
    go_loopw [19] (fun i wr => ∃ c : Nat, i = .int .i64 c ∧ c ≤ ks.length ∧ FillF wr (w.heap.size + 1 + 1) c ks.length F ks ∧ Below w.heap.size w wr ∧ wr.heap[w.heap.size]? = some (.cells #[.int .i64 k, .int .i64 n, .string s, .slice a ks.length cap] 24 (0, 0)) ∧ wr.heap[w.heap.size + 1]? = some (.cells #[.int .i64 0, .int .i64 0, .string (ByteArray.mk #[]), .slice none 0 0] 24 (0, 0))) (fun i _ => ks.length - (intOf i).toNat)
    case atStart =>
      rw [← HW.out.1]
      have hsz := HW.out.2.2.2.2
      have hnew := World.alloc_heap_new w2 (.cells (madeCells #[.int .i64 0, .int .i64 0, .string (ByteArray.mk #[]), .slice none 0 0] (ks.length * 4)) 24)
      rw [hsz] at hnew
      exact ⟨0, rfl, Nat.zero_le _, ⟨⟨_, hnew, by rw [size_madeCells]⟩, fun i t hi => absurd hi (Nat.not_lt_zero _)⟩, HW.out.2.1.alloc (by omega) _, (Below.heap_alloc _ _ _ (by omega)).trans HW.out.2.2.1, (Below.heap_alloc _ _ _ (by omega)).trans HW.out.2.2.2.1⟩
    case round =>
      obtain ⟨c, rfl, hcl, hF, hB, y1, y2⟩ := hrel
      by_cases hlt : c < ks.length
      · obtain ⟨b, o, k', n', s', a', l', c', rfl, hbn, c0, c1, c2, c3, ht⟩ := hx c hlt
        have hbn' : b < w.heap.size := hbn
        have q0 := (hB.cell (p := ⟨b, o + c * 4, none⟩) hbn').trans c0
        have q1 := (hB.cell (p := ⟨b, o + c * 4 + 1, none⟩) hbn').trans c1
        have q2 := (hB.cell (p := ⟨b, o + c * 4 + 2, none⟩) hbn').trans c2
        have q3 := (hB.cell (p := ⟨b, o + c * 4 + 3, none⟩) hbn').trans c3
        have ht1 : Has wr (.agg #[.int .i64 k', .int .i64 n', .string s', .slice a' l' c']) ks[c] := IsTm.later hB hB.size ht
        have hih : ∀ w3, Below wr.heap.size wr w3 → Calls Try.prog 43 #[.agg #[.int .i64 k', .int .i64 n', .string s', .slice a' l' c'], .pointer (some ⟨B1, 0, none⟩)] w3 fun e w4 => ∃ (k4 n4 : Int) (s4 : ByteArray) (a4 : Option Addr) (l4 c4 : Nat) (u0 u1 u2 u3 : Value), e = .returned (.agg #[.int .i64 k4, .int .i64 n4, .string s4, .slice a4 l4 c4]) ∧
            w4.cell? ⟨w.heap.size + 1 + 1, c * 4, none⟩ = some u0 ∧ w4.cell? ⟨w.heap.size + 1 + 1, c * 4 + 1, none⟩ = some u1 ∧ w4.cell? ⟨w.heap.size + 1 + 1, c * 4 + 2, none⟩ = some u2 ∧ w4.cell? ⟨w.heap.size + 1 + 1, c * 4 + 3, none⟩ = some u3 ∧ (∀ j, w4.frozen? ⟨w.heap.size + 1 + 1, j, none⟩ = false) ∧
            TmIn (fun b => w.heap.size + 1 + 1 < b ∧ b < w4.heap.size) w4 (.agg #[.int .i64 k4, .int .i64 n4, .string s4, .slice a4 l4 c4]) (F ks[c]) ∧ FillF w4 (w.heap.size + 1 + 1) c ks.length F ks ∧ Below w.heap.size w w4 ∧ w4.heap[w.heap.size]? = some (.cells #[.int .i64 k, .int .i64 n, .string s, .slice (some ⟨b, o, none⟩) ks.length cap] 24 (0, 0)) ∧ w4.heap[w.heap.size + 1]? = some (.cells #[.int .i64 0, .int .i64 0, .string (ByteArray.mk #[]), .slice none 0 0] 24 (0, 0)) := fun w3 h3 =>
          (ih ks[c] (List.getElem_mem _) _ w3 (hB.trans (h3.mono hB.size)) (Has.below ht1 h3)).mono fun e w4 h4 => by
            obtain ⟨r, rfl, hr, hb4⟩ := h4
            obtain ⟨k4, n4, s4, a4, l4, c4, ks4, rfl, -⟩ := hr.form
            have hF4 := (hF.below h3).below hb4
            obtain ⟨u0, u1, u2, u3, e0, e1, e2, e3, ef⟩ := hF4.spot c hlt
            obtain ⟨cur, hcur, _⟩ := hF.row
            have hlt3 : w.heap.size + 1 + 1 < w3.heap.size := Nat.lt_of_lt_of_le (Array.getElem?_eq_some_iff.1 hcur).1 h3.size
            exact ⟨k4, n4, s4, a4, l4, c4, u0, u1, u2, u3, rfl, e0, e1, e2, e3, ef, hr.carry (fun _ _ => rfl) (fun b hb => ⟨Nat.lt_of_lt_of_le hlt3 hb.1, hb.2⟩), hF4, (hB.trans (h3.mono hB.size)).trans (hb4.mono (Nat.le_trans hB.size h3.size)), tbox_below (tbox_below y1 h3) hb4, tbox_below (tbox_below y2 h3) hb4⟩
        clear ih c0 c1 c2 c3 ht hF hx ht1 hmk y1 y2
        go_wp2_with (go_at_call 43; refine (hih _ ((Below.refl _ _).alloc (Nat.le_refl _) _)).mono ?_; rintro e w4 ⟨k4, n4, s4, a4, l4, c4, u0, u1, u2, u3, rfl, e0, e1, e2, e3, ef, hT, hF4, hB4, y1, y2⟩)
        have hd : w.heap.size ≤ w.heap.size + 1 + 1 := by omega
        refine ⟨⟨c + 1, by simp, hlt, hF4.set hlt (List.getElem?_eq_getElem hlt) hT, (((hB4.setCell (p := ⟨w.heap.size + 1 + 1, _, none⟩) hd _).setCell (p := ⟨w.heap.size + 1 + 1, _, none⟩) hd _).setCell (p := ⟨w.heap.size + 1 + 1, _, none⟩) hd _).setCell (p := ⟨w.heap.size + 1 + 1, _, none⟩) hd _, ?_, ?_⟩, ?_⟩
        · rw [Below.heap_setCell _ _ _ _ (by simp; omega), Below.heap_setCell _ _ _ _ (by simp; omega), Below.heap_setCell _ _ _ _ (by simp; omega), Below.heap_setCell _ _ _ _ (by simp; omega)]; exact y1
        · rw [Below.heap_setCell _ _ _ _ (by simp), Below.heap_setCell _ _ _ _ (by simp), Below.heap_setCell _ _ _ _ (by simp), Below.heap_setCell _ _ _ _ (by simp)]; exact y2
        · simp [intOf]; omega
      · have hce : c = ks.length := by omega
        subst hce
        obtain ⟨x0, x1, x2, x3⟩ := tbox_cells y1
        obtain ⟨z0, z1, z2, z3⟩ := tbox_cells y2
        have xf : ∀ j, wr.frozen? ⟨w.heap.size, j, none⟩ = false := fun j => by simp [World.frozen?, y1]
        have zf : ∀ j, wr.frozen? ⟨w.heap.size + 1, j, none⟩ = false := fun j => by simp [World.frozen?, y2]
        have HF := Lib.hid (And.intro (hF.done (by unfold maxLen; omega)) (And.intro hB y2))
        clear hF hB y1 y2 ih hx hmk
        go_wp2_with fail
        have hT : TsIn (fun b => w.heap.size + 1 + 1 ≤ b ∧ b < (wr.setCell ⟨w.heap.size, 3, none⟩ (.slice (some ⟨w.heap.size + 1 + 1, 0, none⟩) ks.length ks.length)).heap.size) (wr.setCell ⟨w.heap.size, 3, none⟩ (.slice (some ⟨w.heap.size + 1 + 1, 0, none⟩) ks.length ks.length)) (.slice (some ⟨w.heap.size + 1 + 1, 0, none⟩) ks.length ks.length) (ks.map F) :=
          HF.out.1.carry (fun b hb => Below.heap_setCell _ _ _ _ (by have := hb.1; simp; omega)) (fun b hb => by simpa using hb)
        have h5 := boxed_result (w := w) ((Below.heap_setCell wr ⟨w.heap.size, 3, none⟩ (.slice (some ⟨w.heap.size + 1 + 1, 0, none⟩) ks.length ks.length) (w.heap.size + 1) (by simp)).trans HF.out.2.2) (hT.term hk hn hs') (fun b hb => ⟨by have := hb.1; omega, hb.2⟩) (HF.out.2.1.setCell (p := ⟨w.heap.size, 3, none⟩) (Nat.le_refl _) _) (Nat.le_succ _)
        generalize (((((wr.setCell ⟨w.heap.size, 3, none⟩ (.slice (some ⟨w.heap.size + 1 + 1, 0, none⟩) ks.length ks.length)).setCell ⟨w.heap.size + 1, 0, none⟩ (.int .i64 k)).setCell ⟨w.heap.size + 1, 1, none⟩ (.int .i64 n)).setCell ⟨w.heap.size + 1, 2, none⟩ (.string s)).setCell ⟨w.heap.size + 1, 3, none⟩ (.slice (some ⟨w.heap.size + 1 + 1, 0, none⟩) ks.length ks.length)) = w5 at h5 ⊢
        obtain ⟨hb5, h5⟩ := h5
        obtain ⟨f0, f1, f2, f3⟩ := tbox_cells hb5
        refine bodyPost_ret (v := .agg #[.int .i64 k, .int .i64 n, .string s, .slice (some ⟨w.heap.size + 1 + 1, 0, none⟩) ks.length ks.length]) (by simp [results, Try.f45, go_sem, f0, f1, f2, f3]) rfl ?_
        exact h5

end Go.Proofs.Ytnkfjomnpnbidaa

namespace Go.Proofs.Ytnkfjomnpnbidaa
open Go.RowKit Go.Shelf
set_option linter.unusedVariables false

set_option maxRecDepth 100000 in
set_option maxHeartbeats 2000000 in
theorem owhole1 (F : Tm → Tm) (k n : Int) (s : ByteArray) (ks : List Tm) (v : Value) (w : World) (hv : Has w v (.mk k n s ks)) (hl : ks.length ≤ 1000000000000)
    (ih : ∀ t ∈ ks, ∀ (v : Value) (w' : World), Below w.heap.size w w' → Has w' v t → Calls Try.prog 39 #[v] w' (NewTm w' (F t))) :
    Calls Try.prog 39 #[v] w (NewTm w (.mk k n s (ks.map F))) := by
  obtain ⟨k_, n_, s_, a, len, cap, ks_, rfl, e, rfl, hk, hn, hs', -⟩ := hv.form
  injection e with e1 e2 e3 e4
  subst e1 e2 e3 e4
  obtain ⟨w2, hw2⟩ : ∃ w2, w2 = (w.alloc (.cells #[.int .i64 k, .int .i64 n, .string s, .slice a ks.length cap] 24)).alloc (.cells #[.int .i64 0, .int .i64 0, .string (ByteArray.mk #[]), .slice none 0 0] 24) := ⟨_, rfl⟩
  have hb2 : Below w.heap.size w w2 := by rw [hw2]; exact ((Below.refl _ w).alloc (Nat.le_refl _) _).alloc (by simp) _
  have hx1 : w2.heap[w.heap.size]? = some (.cells #[.int .i64 k, .int .i64 n, .string s, .slice a ks.length cap] 24 (0, 0)) := by rw [hw2]; exact (Below.heap_alloc _ _ _ (by simp)).trans (World.alloc_heap_new _ _)
  have hx2 : w2.heap[w.heap.size + 1]? = some (.cells #[.int .i64 0, .int .i64 0, .string (ByteArray.mk #[]), .slice none 0 0] 24 (0, 0)) := by rw [hw2]; simpa using World.alloc_heap_new (w.alloc (.cells #[.int .i64 k, .int .i64 n, .string s, .slice a ks.length cap] 24)) (.cells #[.int .i64 0, .int .i64 0, .string (ByteArray.mk #[]), .slice none 0 0] 24)
  have hsz2 : w2.heap.size = w.heap.size + 2 := by rw [hw2]; simp
  have hkids : HasTs w (.slice a ks.length cap) ks := TmIn.kids hv
  obtain ⟨a_, cap_, e, hc, hm, ha, hx⟩ := id hkids
  injection e with e1 e2 e3
  subst e1 e3
  have hmk := make_terms ks.length hl
  have hz := zeroTerm
  have HW := Lib.hid (And.intro hw2 (And.intro hb2 (And.intro hx1 (And.intro hx2 hsz2))))
  clear hw2 hb2 hx1 hx2 hsz2 hv hkids
  by_cases h0 : ks.length = 0
  · obtain rfl : ks = [] := List.eq_nil_of_length_eq_zero h0
    go_enter Try.func39, Try.ntmps39
    go_wp2_with fail
    go_loopw [17] (fun i wr => i = .int .i64 0 ∧ wr = w2) (fun i _ => 0)
    case atStart => exact ⟨rfl, HW.out.1.symm⟩
    case round =>
      obtain ⟨rfl, rfl⟩ := hrel
      obtain ⟨x0, x1, x2, x3⟩ := tbox_cells HW.out.2.2.1
      obtain ⟨z0, z1, z2, z3⟩ := tbox_cells HW.out.2.2.2.1
      have xf : ∀ j, wr.frozen? ⟨w.heap.size, j, none⟩ = false := fun j => by simp [World.frozen?, HW.out.2.2.1]
      have zf : ∀ j, wr.frozen? ⟨w.heap.size + 1, j, none⟩ = false := fun j => by simp [World.frozen?, HW.out.2.2.2.1]
      go_wp2_with fail
      have h5 := boxed_result (w := w) ((Below.heap_setCell wr ⟨w.heap.size, 3, none⟩ (.slice none 0 0) (w.heap.size + 1) (by simp)).trans HW.out.2.2.2.1) ((noTs (fun _ => False) (wr.setCell ⟨w.heap.size, 3, none⟩ (.slice none 0 0))).term hk hn hs') (fun b hb => hb.elim) (HW.out.2.1.setCell (p := ⟨w.heap.size, 3, none⟩) (Nat.le_refl _) _) (Nat.le_succ _)
      generalize (((((wr.setCell ⟨w.heap.size, 3, none⟩ (.slice none 0 0)).setCell ⟨w.heap.size + 1, 0, none⟩ (.int .i64 k)).setCell ⟨w.heap.size + 1, 1, none⟩ (.int .i64 n)).setCell ⟨w.heap.size + 1, 2, none⟩ (.string s)).setCell ⟨w.heap.size + 1, 3, none⟩ (.slice none 0 0)) = w5 at h5 ⊢
      obtain ⟨hb5, h5⟩ := h5
      obtain ⟨f0, f1, f2, f3⟩ := tbox_cells hb5
      refine bodyPost_ret (v := .agg #[.int .i64 k, .int .i64 n, .string s, .slice none 0 0]) (by simp [results, Try.f39, go_sem, f0, f1, f2, f3]) rfl ?_
      exact h5
  · have h0' : 0 < ks.length := by omega
    have h0i : (0 : Int) < (ks.length : Int) := by omega
    go_enter Try.func39, Try.ntmps39
    go_wp2_with fail
    go_loopw [17] (fun i wr => ∃ c : Nat, i = .int .i64 c ∧ c ≤ ks.length ∧ FillF wr (w.heap.size + 1 + 1) c ks.length F ks ∧ Below w.heap.size w wr ∧ wr.heap[w.heap.size]? = some (.cells #[.int .i64 k, .int .i64 n, .string s, .slice a ks.length cap] 24 (0, 0)) ∧ wr.heap[w.heap.size + 1]? = some (.cells #[.int .i64 0, .int .i64 0, .string (ByteArray.mk #[]), .slice none 0 0] 24 (0, 0))) (fun i _ => ks.length - (intOf i).toNat)
    case atStart =>
      rw [← HW.out.1]
      have hsz := HW.out.2.2.2.2
      have hnew := World.alloc_heap_new w2 (.cells (madeCells #[.int .i64 0, .int .i64 0, .string (ByteArray.mk #[]), .slice none 0 0] (ks.length * 4)) 24)
      rw [hsz] at hnew
      exact ⟨0, rfl, Nat.zero_le _, ⟨⟨_, hnew, by rw [size_madeCells]⟩, fun i t hi => absurd hi (Nat.not_lt_zero _)⟩, HW.out.2.1.alloc (by omega) _, (Below.heap_alloc _ _ _ (by omega)).trans HW.out.2.2.1, (Below.heap_alloc _ _ _ (by omega)).trans HW.out.2.2.2.1⟩
    case round =>
      obtain ⟨c, rfl, hcl, hF, hB, y1, y2⟩ := hrel
      by_cases hlt : c < ks.length
      · obtain ⟨b, o, k', n', s', a', l', c', rfl, hbn, c0, c1, c2, c3, ht⟩ := hx c hlt
        have hbn' : b < w.heap.size := hbn
        have q0 := (hB.cell (p := ⟨b, o + c * 4, none⟩) hbn').trans c0
        have q1 := (hB.cell (p := ⟨b, o + c * 4 + 1, none⟩) hbn').trans c1
        have q2 := (hB.cell (p := ⟨b, o + c * 4 + 2, none⟩) hbn').trans c2
        have q3 := (hB.cell (p := ⟨b, o + c * 4 + 3, none⟩) hbn').trans c3
        have ht1 : Has wr (.agg #[.int .i64 k', .int .i64 n', .string s', .slice a' l' c']) ks[c] := IsTm.later hB hB.size ht
        have hih : ∀ w3, Below wr.heap.size wr w3 → Calls Try.prog 39 #[.agg #[.int .i64 k', .int .i64 n', .string s', .slice a' l' c']] w3 fun e w4 => ∃ (k4 n4 : Int) (s4 : ByteArray) (a4 : Option Addr) (l4 c4 : Nat) (u0 u1 u2 u3 : Value), e = .returned (.agg #[.int .i64 k4, .int .i64 n4, .string s4, .slice a4 l4 c4]) ∧
            w4.cell? ⟨w.heap.size + 1 + 1, c * 4, none⟩ = some u0 ∧ w4.cell? ⟨w.heap.size + 1 + 1, c * 4 + 1, none⟩ = some u1 ∧ w4.cell? ⟨w.heap.size + 1 + 1, c * 4 + 2, none⟩ = some u2 ∧ w4.cell? ⟨w.heap.size + 1 + 1, c * 4 + 3, none⟩ = some u3 ∧ (∀ j, w4.frozen? ⟨w.heap.size + 1 + 1, j, none⟩ = false) ∧
            TmIn (fun b => w.heap.size + 1 + 1 < b ∧ b < w4.heap.size) w4 (.agg #[.int .i64 k4, .int .i64 n4, .string s4, .slice a4 l4 c4]) (F ks[c]) ∧ FillF w4 (w.heap.size + 1 + 1) c ks.length F ks ∧ Below w.heap.size w w4 ∧ w4.heap[w.heap.size]? = some (.cells #[.int .i64 k, .int .i64 n, .string s, .slice (some ⟨b, o, none⟩) ks.length cap] 24 (0, 0)) ∧ w4.heap[w.heap.size + 1]? = some (.cells #[.int .i64 0, .int .i64 0, .string (ByteArray.mk #[]), .slice none 0 0] 24 (0, 0)) := fun w3 h3 =>
          (ih ks[c] (List.getElem_mem _) _ w3 (hB.trans (h3.mono hB.size)) (Has.below ht1 h3)).mono fun e w4 h4 => by
            obtain ⟨r, rfl, hr, hb4⟩ := h4
            obtain ⟨k4, n4, s4, a4, l4, c4, ks4, rfl, -⟩ := hr.form
            have hF4 := (hF.below h3).below hb4
            obtain ⟨u0, u1, u2, u3, e0, e1, e2, e3, ef⟩ := hF4.spot c hlt
            obtain ⟨cur, hcur, _⟩ := hF.row
            have hlt3 : w.heap.size + 1 + 1 < w3.heap.size := Nat.lt_of_lt_of_le (Array.getElem?_eq_some_iff.1 hcur).1 h3.size
            exact ⟨k4, n4, s4, a4, l4, c4, u0, u1, u2, u3, rfl, e0, e1, e2, e3, ef, hr.carry (fun _ _ => rfl) (fun b hb => ⟨Nat.lt_of_lt_of_le hlt3 hb.1, hb.2⟩), hF4, (hB.trans (h3.mono hB.size)).trans (hb4.mono (Nat.le_trans hB.size h3.size)), tbox_below (tbox_below y1 h3) hb4, tbox_below (tbox_below y2 h3) hb4⟩
        clear ih c0 c1 c2 c3 ht hF hx ht1 hmk y1 y2
        go_wp2_with (go_at_call 39; refine (hih _ ((Below.refl _ _).alloc (Nat.le_refl _) _)).mono ?_; rintro e w4 ⟨k4, n4, s4, a4, l4, c4, u0, u1, u2, u3, rfl, e0, e1, e2, e3, ef, hT, hF4, hB4, y1, y2⟩)
        have hd : w.heap.size ≤ w.heap.size + 1 + 1 := by omega
        refine ⟨⟨c + 1, by simp, hlt, hF4.set hlt (List.getElem?_eq_getElem hlt) hT, (((hB4.setCell (p := ⟨w.heap.size + 1 + 1, _, none⟩) hd _).setCell (p := ⟨w.heap.size + 1 + 1, _, none⟩) hd _).setCell (p := ⟨w.heap.size + 1 + 1, _, none⟩) hd _).setCell (p := ⟨w.heap.size + 1 + 1, _, none⟩) hd _, ?_, ?_⟩, ?_⟩
        · rw [Below.heap_setCell _ _ _ _ (by simp; omega), Below.heap_setCell _ _ _ _ (by simp; omega), Below.heap_setCell _ _ _ _ (by simp; omega), Below.heap_setCell _ _ _ _ (by simp; omega)]; exact y1
        · rw [Below.heap_setCell _ _ _ _ (by simp), Below.heap_setCell _ _ _ _ (by simp), Below.heap_setCell _ _ _ _ (by simp), Below.heap_setCell _ _ _ _ (by simp)]; exact y2
        · simp [intOf]; omega
      · have hce : c = ks.length := by omega
        subst hce
        obtain ⟨x0, x1, x2, x3⟩ := tbox_cells y1
        obtain ⟨z0, z1, z2, z3⟩ := tbox_cells y2
        have xf : ∀ j, wr.frozen? ⟨w.heap.size, j, none⟩ = false := fun j => by simp [World.frozen?, y1]
        have zf : ∀ j, wr.frozen? ⟨w.heap.size + 1, j, none⟩ = false := fun j => by simp [World.frozen?, y2]
        have HF := Lib.hid (And.intro (hF.done (by unfold maxLen; omega)) (And.intro hB y2))
        clear hF hB y1 y2 ih hx hmk
        go_wp2_with fail
        have hT : TsIn (fun b => w.heap.size + 1 + 1 ≤ b ∧ b < (wr.setCell ⟨w.heap.size, 3, none⟩ (.slice (some ⟨w.heap.size + 1 + 1, 0, none⟩) ks.length ks.length)).heap.size) (wr.setCell ⟨w.heap.size, 3, none⟩ (.slice (some ⟨w.heap.size + 1 + 1, 0, none⟩) ks.length ks.length)) (.slice (some ⟨w.heap.size + 1 + 1, 0, none⟩) ks.length ks.length) (ks.map F) :=
          HF.out.1.carry (fun b hb => Below.heap_setCell _ _ _ _ (by have := hb.1; simp; omega)) (fun b hb => by simpa using hb)
        have h5 := boxed_result (w := w) ((Below.heap_setCell wr ⟨w.heap.size, 3, none⟩ (.slice (some ⟨w.heap.size + 1 + 1, 0, none⟩) ks.length ks.length) (w.heap.size + 1) (by simp)).trans HF.out.2.2) (hT.term hk hn hs') (fun b hb => ⟨by have := hb.1; omega, hb.2⟩) (HF.out.2.1.setCell (p := ⟨w.heap.size, 3, none⟩) (Nat.le_refl _) _) (Nat.le_succ _)
        generalize (((((wr.setCell ⟨w.heap.size, 3, none⟩ (.slice (some ⟨w.heap.size + 1 + 1, 0, none⟩) ks.length ks.length)).setCell ⟨w.heap.size + 1, 0, none⟩ (.int .i64 k)).setCell ⟨w.heap.size + 1, 1, none⟩ (.int .i64 n)).setCell ⟨w.heap.size + 1, 2, none⟩ (.string s)).setCell ⟨w.heap.size + 1, 3, none⟩ (.slice (some ⟨w.heap.size + 1 + 1, 0, none⟩) ks.length ks.length)) = w5 at h5 ⊢
        obtain ⟨hb5, h5⟩ := h5
        obtain ⟨f0, f1, f2, f3⟩ := tbox_cells hb5
        refine bodyPost_ret (v := .agg #[.int .i64 k, .int .i64 n, .string s, .slice (some ⟨w.heap.size + 1 + 1, 0, none⟩) ks.length ks.length]) (by simp [results, Try.f39, go_sem, f0, f1, f2, f3]) rfl ?_
        exact h5
theorem owhole_at (T : Tm) : ∀ (v : Value) (w : World), Has w v T → T.size ≤ 1000000000000 → Calls Try.prog 39 #[v] w (NewTm w T) := by
  induction T using Tm.ind with
  | h k n s ks ih =>
    intro v w hv hs
    have h := owhole1 (fun t => t) k n s ks v w hv (by have := Tm.length_le_sizes ks; rw [Tm.size_mk] at hs; omega) (fun t ht v w' _ hv' => ih t ht v w' hv' (by have := Tm.size_le_sizes ht; rw [Tm.size_mk] at hs; omega))
    rw [List.map_id'] at h
    exact h
end Go.Proofs.Ytnkfjomnpnbidaa

namespace Go.Proofs.Ytnkfjomnpnbidaa
open Go.RowKit Go.Shelf
set_option linter.unusedVariables false

/-- All that was there is as it was, but for one block. -/
structure But (w0 : World) (B : Nat) (w' : World) : Prop where
  os : w'.os = w0.os
  tape : w'.tape = w0.tape
  output : w'.output = w0.output
  size : w0.heap.size ≤ w'.heap.size
  same : ∀ b, b < w0.heap.size → b ≠ B → w'.heap[b]? = w0.heap[b]?
theorem But.refl (w : World) (B : Nat) : But w B w := ⟨rfl, rfl, rfl, Nat.le_refl _, fun _ _ _ => rfl⟩
theorem But.below {w0 w' w'' : World} {B : Nat} (h : But w0 B w') (k : Below w'.heap.size w' w'') : But w0 B w'' :=
  ⟨k.os.trans h.os, k.tape.trans h.tape, k.output.trans h.output, Nat.le_trans h.size k.size, fun b hb hne => (k.block b (Nat.lt_of_lt_of_le hb h.size)).trans (h.same b hb hne)⟩
theorem But.of {w0 w' : World} {B : Nat} (k : Below w0.heap.size w0 w') : But w0 B w' := (But.refl w0 B).below k
theorem But.trans {w0 w' w'' : World} {B : Nat} (h : But w0 B w') (k : But w' B w'') : But w0 B w'' :=
  ⟨k.os.trans h.os, k.tape.trans h.tape, k.output.trans h.output, Nat.le_trans h.size k.size, fun b hb hne => (k.same b (Nat.lt_of_lt_of_le hb h.size) hne).trans (h.same b hb hne)⟩
theorem But.drew {w0 w' : World} {B : Nat} (h : But w0 B w') : But w0 B w'.drew := ⟨h.os, h.tape, h.output, h.size, h.same⟩
theorem But.set {w0 w' : World} {B : Nat} (h : But w0 B w') (o : Nat) (v : Value) : But w0 B (w'.setCell ⟨B, o, none⟩ v) :=
  ⟨h.os, h.tape, h.output, by simpa using h.size, fun b hb hne => (Below.heap_setCell w' ⟨B, o, none⟩ v b hne).trans (h.same b hb hne)⟩
theorem But.cell {w0 w' : World} {B : Nat} (h : But w0 B w') {b o : Nat} {v : Value} (hc : w0.cell? ⟨b, o, none⟩ = some v) (hlt : b < w0.heap.size) (hne : b ≠ B) : w'.cell? ⟨b, o, none⟩ = some v :=
  (World.cell?_of_block (a := ⟨b, o, none⟩) (h.same b hlt hne)).trans hc
theorem But.has {w0 w' : World} {B : Nat} (h : But w0 B w') {n₀ : Nat} (hn : n₀ ≤ w0.heap.size) (hB : n₀ ≤ B) {v : Value} {T : Tm} (ht : IsTm n₀ w0 v T) : Has w' v T :=
  TmIn.carry (fun b hb => h.same b (by have : b < n₀ := hb; omega) (by have : b < n₀ := hb; omega)) (fun b hb => by have : b < n₀ := hb; have := h.size; omega) ht
theorem But.isBelow {w0 w' : World} {B m : Nat} (h : But w0 B w') (hm : m ≤ B) (hs : m ≤ w0.heap.size) : Below m w0 w' := ⟨h.os, h.tape, h.output, h.size, fun b hb => h.same b (by omega) (by omega)⟩

theorem one_below {W W' : World} {B : Nat} {v : Value} {t : TypeId} {z : Nat × Nat} (h : W.heap[B]? = some (.cells #[v] t z)) (hb : Below W.heap.size W W') : W'.heap[B]? = some (.cells #[v] t z) :=
  (hb.block B (Array.getElem?_eq_some_iff.1 h).1).trans h
theorem one_cell {W : World} {B : Nat} {v : Value} {t : TypeId} {z : Nat × Nat} (h : W.heap[B]? = some (.cells #[v] t z)) : W.cell? ⟨B, 0, none⟩ = some v := by simp [World.cell?, h]
theorem one_free {W : World} {B : Nat} {v : Value} {t : TypeId} (h : W.heap[B]? = some (.cells #[v] t (0, 0))) (j : Nat) : W.frozen? ⟨B, j, none⟩ = false := by simp [World.frozen?, h]

theorem zeroFn (w : World) : (zeroValue 34).run Try.prog w = .ok .nilFunc w := by kernel_rfl

set_option maxRecDepth 100000 in
set_option maxHeartbeats 4000000 in
theorem erase1_at (T : Tm) : ∀ (v : Value) (w : World) (B1 : Nat), w.heap[B1]? = some (.cells #[.func (.func 43) #[] #[.pointer (some ⟨B1, 0, none⟩)]] 34 (0, 0)) → Has w v T → T.size ≤ 1000000000000 →
    Calls Try.prog 43 #[v, .pointer (some ⟨B1, 0, none⟩)] w (NewTm w T.er) := by
  induction T using Tm.ind with
  | h k n s ks ih =>
    intro v w B1 hfn hv hs
    obtain ⟨k_, n_, s_, a, len, cap, ks_, rfl, e, rfl, hk, hn, hs', hc, hm, ha⟩ := hv.form
    injection e with e1 e2 e3 e4
    subst e1 e2 e3 e4
    have hsz : ks.length ≤ 1000000000000 := by have := Tm.length_le_sizes ks; rw [Tm.size_mk] at hs; omega
    have hkl : ∀ t ∈ ks, t.size ≤ 1000000000000 := fun t ht => by have := Tm.size_le_sizes ht; rw [Tm.size_mk] at hs; omega
    obtain ⟨w2, hw2⟩ : ∃ w2, w2 = (w.alloc (.cells #[.int .i64 k, .int .i64 n, .string s, .slice a ks.length cap] 24)).alloc (.cells #[.int .i64 0, .int .i64 0, .string (ByteArray.mk #[]), .slice none 0 0] 24) := ⟨_, rfl⟩
    have hb2 : Below w.heap.size w w2 := by rw [hw2]; exact ((Below.refl _ w).alloc (Nat.le_refl _) _).alloc (by simp) _
    have hx1 : w2.heap[w.heap.size]? = some (.cells #[.int .i64 k, .int .i64 n, .string s, .slice a ks.length cap] 24 (0, 0)) := by rw [hw2]; exact (Below.heap_alloc _ _ _ (by simp)).trans (World.alloc_heap_new _ _)
    have hx2 : w2.heap[w.heap.size + 1]? = some (.cells #[.int .i64 0, .int .i64 0, .string (ByteArray.mk #[]), .slice none 0 0] 24 (0, 0)) := by rw [hw2]; simpa using World.alloc_heap_new (w.alloc (.cells #[.int .i64 k, .int .i64 n, .string s, .slice a ks.length cap] 24)) (.cells #[.int .i64 0, .int .i64 0, .string (ByteArray.mk #[]), .slice none 0 0] 24)
    have hsz2 : w2.heap.size = w.heap.size + 2 := by rw [hw2]; simp
    have hz := zeroTerm
    have hwr := wraps_at _ _ w2 (Has.below hv hb2)
    by_cases hw : k = 4 ∧ ks.length = 1
    · obtain ⟨t, rfl, rfl⟩ := wraps_form (n := n) (s := s) hw
      rw [Tm.er_wraps]
      obtain ⟨b, o, k1, n1, s1, a1, l1, c1, T1, rfl, hbn, e0, e1, e2, e3, hT1, ht1⟩ := IsTm.kid hv 0 (by simp)
      have eT : T1 = t := by simpa using hT1.symm
      subst eT
      have hwr' := hwr.mono (R' := fun e w3 => e = .returned (.bool true) ∧ Below w2.heap.size w2 w3 ∧ Below w.heap.size w w3) (fun e w3 h => ⟨by rw [h.1]; rfl, h.2, hb2.trans (h.2.mono hb2.size)⟩)
      have HH := Lib.hid (And.intro hw2 (And.intro hx1 (And.intro hx2 (And.intro hsz2 (And.intro hfn (And.intro ht1 (And.intro e0 (And.intro e1 (And.intro e2 e3)))))))))
      have HI := Lib.hid (And.intro ih hkl)
      clear hx1 hx2 hsz2 hfn ht1 e0 e1 e2 e3 ih hkl hv hb2 hwr hT1 hs
      rw [hw2] at hwr'
      clear hw2
      go_enter Try.func43, Try.ntmps43
      go_wp2_with (go_at_call 44; refine hwr'.mono ?_; clear hwr'; rintro e w3 ⟨rfl, hb23, hb3⟩)
      obtain ⟨hw2, hx1, hx2, hsz2, hfn, ht1, e0, e1, e2, e3⟩ := HH.out
      rw [← hw2] at hb23
      have g1 := tbox_below hx1 hb23
      have g2 := tbox_below hx2 hb23
      have g3 := hb3.block B1 (Array.getElem?_eq_some_iff.1 hfn).1 |>.trans hfn
      have hB1 : B1 < w.heap.size := (Array.getElem?_eq_some_iff.1 hfn).1
      have hs3 : w.heap.size + 2 ≤ w3.heap.size := by have := hb23.size; omega
      obtain ⟨x0, x1, x2, x3⟩ := tbox_cells g1
      have q0 := (hb3.cell (p := ⟨b, o + 0 * 4, none⟩) hbn).trans e0
      have q1 := (hb3.cell (p := ⟨b, o + 0 * 4 + 1, none⟩) hbn).trans e1
      have q2 := (hb3.cell (p := ⟨b, o + 0 * 4 + 2, none⟩) hbn).trans e2
      have q3 := (hb3.cell (p := ⟨b, o + 0 * 4 + 3, none⟩) hbn).trans e3
      simp only [Nat.zero_mul, Nat.add_zero] at q0 q1 q2 q3
      have HS : ∀ w', But w3 (w.heap.size + 1) w' → (w'.cell? ⟨B1, 0, none⟩ = some (.func (.func 43) #[] #[.pointer (some ⟨B1, 0, none⟩)]) ∧ w'.cell? ⟨w.heap.size, 3, none⟩ = some (.slice (some ⟨b, o, none⟩) 1 cap) ∧ w'.cell? ⟨b, o, none⟩ = some (.int .i64 k1) ∧ w'.cell? ⟨b, o + 1, none⟩ = some (.int .i64 n1) ∧ w'.cell? ⟨b, o + 2, none⟩ = some (.string s1) ∧ w'.cell? ⟨b, o + 3, none⟩ = some (.slice a1 l1 c1) ∧ But w3 (w.heap.size + 1) w') := fun w' h =>
        ⟨h.cell (one_cell g3) (by omega) (by omega), h.cell x3 (by omega) (by omega), h.cell q0 (by omega) (by omega), h.cell q1 (by omega) (by omega), h.cell q2 (by omega) (by omega), h.cell q3 (by omega) (by omega), h⟩
      have hdr : Below w3.heap.size w3 w3.drew := (Below.refl _ _).drew
      have hnew : Calls Try.prog 43 #[.agg #[.int .i64 k1, .int .i64 n1, .string s1, .slice a1 l1 c1], .pointer (some ⟨B1, 0, none⟩)] w3.drew fun e w4 => ∃ k4 n4 s4 a4 l4 c4, e = .returned (.agg #[.int .i64 k4, .int .i64 n4, .string s4, .slice a4 l4 c4]) ∧ w4.cell? ⟨w.heap.size + 1, 0, none⟩ = some (.int .i64 0) ∧ w4.cell? ⟨w.heap.size + 1, 1, none⟩ = some (.int .i64 0) ∧ w4.cell? ⟨w.heap.size + 1, 2, none⟩ = some (.string (ByteArray.mk #[])) ∧ w4.cell? ⟨w.heap.size + 1, 3, none⟩ = some (.slice none 0 0) ∧ (∀ j, w4.frozen? ⟨w.heap.size + 1, j, none⟩ = false) ∧
          w4.heap[w.heap.size + 1]? = some (.cells #[.int .i64 0, .int .i64 0, .string (ByteArray.mk #[]), .slice none 0 0] 24 (0, 0)) ∧ TmIn (fun b => w3.heap.size ≤ b ∧ b < w4.heap.size) w4 (.agg #[.int .i64 k4, .int .i64 n4, .string s4, .slice a4 l4 c4]) T1.er ∧ Below w.heap.size w w4 ∧ But w3 (w.heap.size + 1) w4 :=
        (HI.out.1 T1 (by simp) _ w3.drew B1 (one_below g3 hdr) (IsTm.later (hb3.trans (hdr.mono hb3.size)) hb3.size ht1) (HI.out.2 T1 (by simp))).mono fun e w4 h4 => by
          obtain ⟨r, rfl, hr, hb4⟩ := h4
          obtain ⟨k4, n4, s4, a4, l4, c4, ks4, rfl, -⟩ := hr.form
          have hb4' : Below w3.heap.size w3 w4 := hdr.trans hb4
          have y2 := tbox_below g2 hb4'
          obtain ⟨z0, z1, z2, z3⟩ := tbox_cells y2
          exact ⟨k4, n4, s4, a4, l4, c4, rfl, z0, z1, z2, z3, (fun j => by simp [World.frozen?, y2]), y2, hr, hb3.trans (hb4'.mono hb3.size), But.of hb4'⟩
      have H3 := Lib.hid hs3
      clear hb23 g1 g2 g3 x0 x1 x2 x3 q0 q1 q2 q3 HH hw2 hx1 hx2 hsz2 hfn ht1 e0 e1 e2 e3 HI hs3 hB1 hbn
      go_wp2_with fail
      go_region_held3 (fun w' => w'.cell? ⟨B1, 0, none⟩ = some (.func (.func 43) #[] #[.pointer (some ⟨B1, 0, none⟩)]) ∧ w'.cell? ⟨w.heap.size, 3, none⟩ = some (.slice (some ⟨b, o, none⟩) 1 cap) ∧ w'.cell? ⟨b, o, none⟩ = some (.int .i64 k1) ∧ w'.cell? ⟨b, o + 1, none⟩ = some (.int .i64 n1) ∧ w'.cell? ⟨b, o + 2, none⟩ = some (.string s1) ∧ w'.cell? ⟨b, o + 3, none⟩ = some (.slice a1 l1 c1) ∧ But w3 (w.heap.size + 1) w')
        (first
          | exact HS _ (But.of hdr)
          | exact HS _ hbut
          | exact HS _ ((((hbut.set 0 _).set 1 _).set 2 _).set 3 _))
        (first
          | (go_at_call 43; (with_reducible refine hnew.mono ?_); rintro e w4 ⟨k4, n4, s4, a4, l4, c4, rfl, z0, z1, z2, z3, zf, y2, hT, hB, hbut⟩))
      go_wp2_with fail
      have h5 := boxed_result y2 hT (fun b hb => by have := H3.out; have := hb.1; have := hb.2; omega) hB (Nat.le_succ _)
      generalize ((((w4.setCell ⟨w.heap.size + 1, 0, none⟩ (.int .i64 k4)).setCell ⟨w.heap.size + 1, 1, none⟩ (.int .i64 n4)).setCell ⟨w.heap.size + 1, 2, none⟩ (.string s4)).setCell ⟨w.heap.size + 1, 3, none⟩ (.slice a4 l4 c4)) = w5 at h5 ⊢
      obtain ⟨hb5, h5⟩ := h5
      obtain ⟨f0, f1, f2, f3⟩ := tbox_cells hb5
      refine bodyPost_ret (v := .agg #[.int .i64 k4, .int .i64 n4, .string s4, .slice a4 l4 c4]) (by simp [results, Try.f43, go_sem, f0, f1, f2, f3]) rfl ?_
      exact h5
    · rw [Tm.er_else hw]
      have hwr' := hwr.mono (R' := fun e w3 => e = .returned (.bool false) ∧ Below w2.heap.size w2 w3 ∧ Below w.heap.size w w3 ∧ w3.cell? ⟨w.heap.size, 0, none⟩ = some (.int .i64 k) ∧ w3.cell? ⟨w.heap.size, 1, none⟩ = some (.int .i64 n) ∧ w3.cell? ⟨w.heap.size, 2, none⟩ = some (.string s) ∧ w3.cell? ⟨w.heap.size, 3, none⟩ = some (.slice a ks.length cap) ∧ w3.cell? ⟨B1, 0, none⟩ = some (.func (.func 43) #[] #[.pointer (some ⟨B1, 0, none⟩)])) (fun e w3 h => by
        have hb := hb2.trans (h.2.mono hb2.size)
        obtain ⟨x0, x1, x2, x3⟩ := tbox_cells (tbox_below hx1 h.2)
        exact ⟨by rw [h.1]; exact congrArg (fun b => Ending.returned (.bool b)) (decide_eq_false hw), h.2, hb, x0, x1, x2, x3, one_cell ((hb.block B1 (Array.getElem?_eq_some_iff.1 hfn).1).trans hfn)⟩)
      have hwk : ∀ w3, Below w2.heap.size w2 w3 → Below w.heap.size w w3 → Calls Try.prog 45 #[.agg #[.int .i64 k, .int .i64 n, .string s, .slice a ks.length cap], .func (.func 43) #[] #[.pointer (some ⟨B1, 0, none⟩)]] w3 fun e w4 => ∃ k4 n4 s4 a4 l4 c4, e = .returned (.agg #[.int .i64 k4, .int .i64 n4, .string s4, .slice a4 l4 c4]) ∧ w4.cell? ⟨w.heap.size + 1, 0, none⟩ = some (.int .i64 0) ∧ w4.cell? ⟨w.heap.size + 1, 1, none⟩ = some (.int .i64 0) ∧ w4.cell? ⟨w.heap.size + 1, 2, none⟩ = some (.string (ByteArray.mk #[])) ∧ w4.cell? ⟨w.heap.size + 1, 3, none⟩ = some (.slice none 0 0) ∧ (∀ j, w4.frozen? ⟨w.heap.size + 1, j, none⟩ = false) ∧
          w4.heap[w.heap.size + 1]? = some (.cells #[.int .i64 0, .int .i64 0, .string (ByteArray.mk #[]), .slice none 0 0] 24 (0, 0)) ∧ TmIn (fun b => w3.heap.size ≤ b ∧ b < w4.heap.size) w4 (.agg #[.int .i64 k4, .int .i64 n4, .string s4, .slice a4 l4 c4]) (.mk k n s (ks.map Tm.er)) ∧ Below w.heap.size w w4 ∧ w.heap.size + 2 ≤ w3.heap.size := fun w3 h23 h3 =>
        (withKids_erase B1 Tm.er k n s ks _ w3 (IsTm.later h3 h3.size hv) hsz (fun t ht v w' hb' hv' => ih t ht v w' B1 (one_below (((h3.block B1 (Array.getElem?_eq_some_iff.1 hfn).1).trans hfn)) hb') hv' (hkl t ht))).mono fun e w4 h4 => by
          obtain ⟨r, rfl, hr, hb4⟩ := h4
          obtain ⟨k4, n4, s4, a4, l4, c4, ks4, rfl, -⟩ := hr.form
          have y2 := tbox_below (tbox_below hx2 h23) hb4
          obtain ⟨z0, z1, z2, z3⟩ := tbox_cells y2
          exact ⟨k4, n4, s4, a4, l4, c4, rfl, z0, z1, z2, z3, (fun j => by simp [World.frozen?, y2]), y2, hr, h3.trans (hb4.mono h3.size), by have := h23.size; omega⟩
      have HH := Lib.hid hw2
      clear hx1 hx2 hsz2 hfn ih hkl hv hb2 hwr hs
      rw [hw2] at hwr'
      clear hw2
      go_enter Try.func43, Try.ntmps43
      go_wp2_with (first
        | (go_at_call 44; refine hwr'.mono ?_; clear hwr'; rintro e w3 ⟨rfl, hb23, hb3, x0, x1, x2, x3, x4⟩; rw [← HH.out] at hb23)
        | (go_at_call 45; refine (hwk _ hb23 hb3).mono ?_; clear hwk; rintro e w4 ⟨k4, n4, s4, a4, l4, c4, rfl, z0, z1, z2, z3, zf, y2, hT, hB, hs3⟩))
      have h5 := boxed_result y2 hT (fun b hb => by have := hb.1; have := hb.2; omega) hB (Nat.le_succ _)
      generalize ((((w4.setCell ⟨w.heap.size + 1, 0, none⟩ (.int .i64 k4)).setCell ⟨w.heap.size + 1, 1, none⟩ (.int .i64 n4)).setCell ⟨w.heap.size + 1, 2, none⟩ (.string s4)).setCell ⟨w.heap.size + 1, 3, none⟩ (.slice a4 l4 c4)) = w5 at h5 ⊢
      obtain ⟨hb5, h5⟩ := h5
      obtain ⟨f0, f1, f2, f3⟩ := tbox_cells hb5
      refine bodyPost_ret (v := .agg #[.int .i64 k4, .int .i64 n4, .string s4, .slice a4 l4 c4]) (by simp [results, Try.f43, go_sem, f0, f1, f2, f3]) rfl ?_
      exact h5

set_option maxRecDepth 100000 in
set_option maxHeartbeats 2000000 in
theorem erase_at (v : Value) (T : Tm) (w : World) (hv : Has w v T) (hs : T.size ≤ 1000000000000) : Calls Try.prog 19 #[v] w (NewTm w T.er) := by
  obtain ⟨k, n, s, a, len, cap, ks, rfl, e, -⟩ := hv.form
  obtain ⟨w2, hw2⟩ : ∃ w2, w2 = (w.alloc (.cells #[.int .i64 k, .int .i64 n, .string s, .slice a len cap] 24)).alloc (.cells #[.int .i64 0, .int .i64 0, .string (ByteArray.mk #[]), .slice none 0 0] 24) := ⟨_, rfl⟩
  have hb2 : Below w.heap.size w w2 := by rw [hw2]; exact ((Below.refl _ w).alloc (Nat.le_refl _) _).alloc (by simp) _
  have hx1 : w2.heap[w.heap.size]? = some (.cells #[.int .i64 k, .int .i64 n, .string s, .slice a len cap] 24 (0, 0)) := by rw [hw2]; exact (Below.heap_alloc _ _ _ (by simp)).trans (World.alloc_heap_new _ _)
  have hx2 : w2.heap[w.heap.size + 1]? = some (.cells #[.int .i64 0, .int .i64 0, .string (ByteArray.mk #[]), .slice none 0 0] 24 (0, 0)) := by rw [hw2]; simpa using World.alloc_heap_new (w.alloc (.cells #[.int .i64 k, .int .i64 n, .string s, .slice a len cap] 24)) (.cells #[.int .i64 0, .int .i64 0, .string (ByteArray.mk #[]), .slice none 0 0] 24)
  have hsz2 : w2.heap.size = w.heap.size + 1 + 1 := by rw [hw2]; simp
  have hz := zeroTerm
  have hnf := zeroFn
  obtain ⟨w3, hw3⟩ : ∃ w3, w3 = w2.alloc (.cells #[.func (.func 43) #[] #[.pointer (some ⟨w.heap.size + 1 + 1, 0, none⟩)]] 34) := ⟨_, rfl⟩
  have hb3 : Below w.heap.size w w3 := by rw [hw3]; exact hb2.alloc (by omega) _
  have h1 : w3.heap[w.heap.size]? = some (.cells #[.int .i64 k, .int .i64 n, .string s, .slice a len cap] 24 (0, 0)) := by rw [hw3]; exact (Below.heap_alloc _ _ _ (by omega)).trans hx1
  have h2 : w3.heap[w.heap.size + 1]? = some (.cells #[.int .i64 0, .int .i64 0, .string (ByteArray.mk #[]), .slice none 0 0] 24 (0, 0)) := by rw [hw3]; exact (Below.heap_alloc _ _ _ (by omega)).trans hx2
  have hsz3 : w3.heap.size = w.heap.size + 1 + 1 + 1 := by rw [hw3]; simp [hsz2]
  have h3 : w3.heap[w.heap.size + 1 + 1]? = some (.cells #[.func (.func 43) #[] #[.pointer (some ⟨w.heap.size + 1 + 1, 0, none⟩)]] 34 (0, 0)) := by
    rw [hw3]
    have := World.alloc_heap_new w2 (.cells #[.func (.func 43) #[] #[.pointer (some ⟨w.heap.size + 1 + 1, 0, none⟩)]] 34)
    rw [hsz2] at this
    exact this
  have hcall := (erase1_at T _ w3 (w.heap.size + 1 + 1) h3 (IsTm.later hb3 hb3.size hv) hs).mono (R' := fun e w4 => ∃ k4 n4 s4 a4 l4 c4, e = .returned (.agg #[.int .i64 k4, .int .i64 n4, .string s4, .slice a4 l4 c4]) ∧ w4.cell? ⟨w.heap.size + 1, 0, none⟩ = some (.int .i64 0) ∧ w4.cell? ⟨w.heap.size + 1, 1, none⟩ = some (.int .i64 0) ∧ w4.cell? ⟨w.heap.size + 1, 2, none⟩ = some (.string (ByteArray.mk #[])) ∧ w4.cell? ⟨w.heap.size + 1, 3, none⟩ = some (.slice none 0 0) ∧ (∀ j, w4.frozen? ⟨w.heap.size + 1, j, none⟩ = false) ∧
      w4.heap[w.heap.size + 1]? = some (.cells #[.int .i64 0, .int .i64 0, .string (ByteArray.mk #[]), .slice none 0 0] 24 (0, 0)) ∧ TmIn (fun b => w3.heap.size ≤ b ∧ b < w4.heap.size) w4 (.agg #[.int .i64 k4, .int .i64 n4, .string s4, .slice a4 l4 c4]) T.er ∧ Below w.heap.size w w4) (fun e w4 h4 => by
    obtain ⟨r, rfl, hr, hb4⟩ := h4
    obtain ⟨k4, n4, s4, a4, l4, c4, ks4, rfl, -⟩ := hr.form
    have y2 := tbox_below h2 hb4
    obtain ⟨z0, z1, z2, z3⟩ := tbox_cells y2
    exact ⟨k4, n4, s4, a4, l4, c4, rfl, z0, z1, z2, z3, (fun j => by simp [World.frozen?, y2]), y2, hr, hb3.trans (hb4.mono hb3.size)⟩)
  obtain ⟨x0, x1, x2, x3⟩ := tbox_cells h1
  have x4 := one_cell h3
  have HS := Lib.hid hsz3
  have HW := Lib.hid (And.intro hw2 hw3)
  have hmf : ∀ (fn : Fn) (first cap : Array Value) (w : World), (Instr.makeFunc fn first cap).run Try.prog w = .ok (.func fn first cap) w := fun _ _ _ _ => rfl
  clear hv hb2 hx1 hx2 hsz2 e hb3 h1 h2 h3 hsz3
  rw [hw2] at hw3
  clear hw2
  subst hw3
  go_enter Try.func19, Try.ntmps19
  go_wp2_with (go_at_call 43; refine hcall.mono ?_; clear hcall; rintro e w4 ⟨k4, n4, s4, a4, l4, c4, rfl, z0, z1, z2, z3, zf, y2, hT, hB⟩)
  have h5 := boxed_result y2 hT (fun b hb => by have := HS.out; have := hb.1; have := hb.2; omega) hB (Nat.le_succ _)
  generalize ((((w4.setCell ⟨w.heap.size + 1, 0, none⟩ (.int .i64 k4)).setCell ⟨w.heap.size + 1, 1, none⟩ (.int .i64 n4)).setCell ⟨w.heap.size + 1, 2, none⟩ (.string s4)).setCell ⟨w.heap.size + 1, 3, none⟩ (.slice a4 l4 c4)) = w5 at h5 ⊢
  obtain ⟨hb5, h5⟩ := h5
  obtain ⟨f0, f1, f2, f3⟩ := tbox_cells hb5
  refine bodyPost_ret (v := .agg #[.int .i64 k4, .int .i64 n4, .string s4, .slice a4 l4 c4]) (by simp [results, Try.f19, go_sem, f0, f1, f2, f3]) rfl ?_
  exact h5

end Go.Proofs.Ytnkfjomnpnbidaa
