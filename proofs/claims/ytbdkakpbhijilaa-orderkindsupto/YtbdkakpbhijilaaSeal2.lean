/-
  seal.withKids: a term with each of its kids changed; by each function that it is called with.
-/
import Derived.Test.YtbdkakpbhijilaaSeal1
namespace Go.Proofs.Ytbdkakpbhijilaa
open Go.RowKit Go.Shelf
set_option linter.unusedVariables false

/-- The new list, its first places filled. -/
structure FillF (W : World) (B c len : Nat) (F : Tm → Tm) (ks : List Tm) : Prop where
  row : ∃ cur : Array Value, W.heap[B]? = some (.cells cur 24 (0, 0)) ∧ cur.size = len * 4
  kids : ∀ i t, i < c → ks[i]? = some t → ∃ (k' n' : Int) (s' : ByteArray) (a' : Option Addr) (l' c' : Nat), W.cell? ⟨B, i * 4, none⟩ = some (.int .i64 k') ∧ W.cell? ⟨B, i * 4 + 1, none⟩ = some (.int .i64 n') ∧
      W.cell? ⟨B, i * 4 + 2, none⟩ = some (.string s') ∧ W.cell? ⟨B, i * 4 + 3, none⟩ = some (.slice a' l' c') ∧ TmIn (fun b => B < b ∧ b < W.heap.size) W (.agg #[.int .i64 k', .int .i64 n', .string s', .slice a' l' c']) (F t)

theorem FillF.spot {W : World} {B c len : Nat} {F : Tm → Tm} {ks : List Tm} (h : FillF W B c len F ks) (i : Nat) (hi : i < len) :
    ∃ u0 u1 u2 u3, W.cell? ⟨B, i * 4, none⟩ = some u0 ∧ W.cell? ⟨B, i * 4 + 1, none⟩ = some u1 ∧ W.cell? ⟨B, i * 4 + 2, none⟩ = some u2 ∧ W.cell? ⟨B, i * 4 + 3, none⟩ = some u3 ∧ ∀ j, W.frozen? ⟨B, j, none⟩ = false := by
  obtain ⟨cur, h1, h2⟩ := h.row
  have e : ∀ j, j < len * 4 → ∃ u, W.cell? ⟨B, j, none⟩ = some u := fun j hj => ⟨cur[j], by simp [World.cell?, h1, Array.getElem?_eq_getElem (show j < cur.size by omega)]⟩
  obtain ⟨u0, e0⟩ := e (i * 4) (by omega)
  obtain ⟨u1, e1⟩ := e (i * 4 + 1) (by omega)
  obtain ⟨u2, e2⟩ := e (i * 4 + 2) (by omega)
  obtain ⟨u3, e3⟩ := e (i * 4 + 3) (by omega)
  exact ⟨u0, u1, u2, u3, e0, e1, e2, e3, fun j => by simp [World.frozen?, h1]⟩

theorem FillF.below {W W' : World} {B c len : Nat} {F : Tm → Tm} {ks : List Tm} (h : FillF W B c len F ks) (hb : Below W.heap.size W W') : FillF W' B c len F ks := by
  obtain ⟨cur, h1, h2⟩ := h.row
  have hlt : B < W.heap.size := (Array.getElem?_eq_some_iff.1 h1).1
  refine ⟨⟨cur, (hb.block B hlt).trans h1, h2⟩, fun i t hi ht => ?_⟩
  obtain ⟨k', n', s', a', l', c', c0, c1, c2, c3, hT⟩ := h.kids i t hi ht
  exact ⟨k', n', s', a', l', c', (hb.cell (p := ⟨B, _, none⟩) hlt).trans c0, (hb.cell (p := ⟨B, _, none⟩) hlt).trans c1, (hb.cell (p := ⟨B, _, none⟩) hlt).trans c2, (hb.cell (p := ⟨B, _, none⟩) hlt).trans c3,
    hT.carry (fun b hp => hb.block b hp.2) (fun b hp => ⟨hp.1, Nat.lt_of_lt_of_le hp.2 hb.size⟩)⟩

theorem FillF.set {W : World} {B c len : Nat} {F : Tm → Tm} {ks : List Tm} (h : FillF W B c len F ks) (hc : c < len) {t : Tm} (ht : ks[c]? = some t) {k n : Int} {s : ByteArray} {a : Option Addr} {l cp : Nat}
    (hT : TmIn (fun b => B < b ∧ b < W.heap.size) W (.agg #[.int .i64 k, .int .i64 n, .string s, .slice a l cp]) (F t)) :
    FillF ((((W.setCell ⟨B, c * 4, none⟩ (.int .i64 k)).setCell ⟨B, c * 4 + 1, none⟩ (.int .i64 n)).setCell ⟨B, c * 4 + 2, none⟩ (.string s)).setCell ⟨B, c * 4 + 3, none⟩ (.slice a l cp)) B (c + 1) len F ks := by
  obtain ⟨cur, h1, h2⟩ := h.row
  have e1 := set_block (o := c * 4 + 3) (set_block (o := c * 4 + 2) (set_block (o := c * 4 + 1) (set_block (o := c * 4) h1 (.int .i64 k)) (.int .i64 n)) (.string s)) (.slice a l cp)
  have eo : ∀ b, b ≠ B → ((((W.setCell ⟨B, c * 4, none⟩ (.int .i64 k)).setCell ⟨B, c * 4 + 1, none⟩ (.int .i64 n)).setCell ⟨B, c * 4 + 2, none⟩ (.string s)).setCell ⟨B, c * 4 + 3, none⟩ (.slice a l cp)).heap[b]? = W.heap[b]? := fun b hb => by
    rw [Below.heap_setCell _ _ _ _ hb, Below.heap_setCell _ _ _ _ hb, Below.heap_setCell _ _ _ _ hb, Below.heap_setCell _ _ _ _ hb]
  have es : ((((W.setCell ⟨B, c * 4, none⟩ (.int .i64 k)).setCell ⟨B, c * 4 + 1, none⟩ (.int .i64 n)).setCell ⟨B, c * 4 + 2, none⟩ (.string s)).setCell ⟨B, c * 4 + 3, none⟩ (.slice a l cp)).heap.size = W.heap.size := by simp
  generalize ((((W.setCell ⟨B, c * 4, none⟩ (.int .i64 k)).setCell ⟨B, c * 4 + 1, none⟩ (.int .i64 n)).setCell ⟨B, c * 4 + 2, none⟩ (.string s)).setCell ⟨B, c * 4 + 3, none⟩ (.slice a l cp)) = W' at e1 eo es ⊢
  have hcarry : ∀ {v : Value} {T : Tm}, TmIn (fun b => B < b ∧ b < W.heap.size) W v T → TmIn (fun b => B < b ∧ b < W'.heap.size) W' v T := fun hh =>
    hh.carry (fun b hb => eo b (by omega)) (fun b hb => ⟨hb.1, by rw [es]; exact hb.2⟩)
  have cell' : ∀ j, W'.cell? ⟨B, j, none⟩ = ((((cur.setIfInBounds (c * 4) (.int .i64 k)).setIfInBounds (c * 4 + 1) (.int .i64 n)).setIfInBounds (c * 4 + 2) (.string s)).setIfInBounds (c * 4 + 3) (.slice a l cp))[j]? := fun j => by simp [World.cell?, e1]
  have cell0 : ∀ j, W.cell? ⟨B, j, none⟩ = cur[j]? := fun j => by simp [World.cell?, h1]
  refine ⟨⟨_, e1, by simp [h2]⟩, fun i u hi hu => ?_⟩
  by_cases hic : i = c
  · subst hic
    rw [ht] at hu
    cases hu
    refine ⟨k, n, s, a, l, cp, ?_, ?_, ?_, ?_, hcarry hT⟩
    · rw [cell', Array.getElem?_setIfInBounds_ne (by omega), Array.getElem?_setIfInBounds_ne (by omega), Array.getElem?_setIfInBounds_ne (by omega), Array.getElem?_setIfInBounds_self_of_lt (by omega)]
    · rw [cell', Array.getElem?_setIfInBounds_ne (by omega), Array.getElem?_setIfInBounds_ne (by omega), Array.getElem?_setIfInBounds_self_of_lt (by simp; omega)]
    · rw [cell', Array.getElem?_setIfInBounds_ne (by omega), Array.getElem?_setIfInBounds_self_of_lt (by simp; omega)]
    · rw [cell', Array.getElem?_setIfInBounds_self_of_lt (by simp; omega)]
  · obtain ⟨k', n', s', a', l', c', c0, c1, c2, c3, hT'⟩ := h.kids i u (by omega) hu
    have other : ∀ j, j < c * 4 → W'.cell? ⟨B, j, none⟩ = W.cell? ⟨B, j, none⟩ := fun j hj => by
      rw [cell', cell0, Array.getElem?_setIfInBounds_ne (by omega), Array.getElem?_setIfInBounds_ne (by omega), Array.getElem?_setIfInBounds_ne (by omega), Array.getElem?_setIfInBounds_ne (by omega)]
    exact ⟨k', n', s', a', l', c', (other _ (by omega)).trans c0, (other _ (by omega)).trans c1, (other _ (by omega)).trans c2, (other _ (by omega)).trans c3, hcarry hT'⟩

theorem FillF.done {W : World} {B : Nat} {F : Tm → Tm} {ks : List Tm} (h : FillF W B ks.length ks.length F ks) (hl : ks.length ≤ maxLen) : TsIn (fun b => B ≤ b ∧ b < W.heap.size) W (.slice (some ⟨B, 0, none⟩) ks.length ks.length) (ks.map F) := by
  obtain ⟨cur, h1, h2⟩ := h.row
  have hlen : (ks.map F).length = ks.length := List.length_map _
  refine ⟨some ⟨B, 0, none⟩, ks.length, by rw [hlen], by rw [hlen]; exact Nat.le_refl _, hl, (fun h => by cases h), fun i hi => ?_⟩
  rw [hlen] at hi
  obtain ⟨k', n', s', a', l', c', c0, c1, c2, c3, hT⟩ := h.kids i ks[i] hi (List.getElem?_eq_getElem hi)
  refine ⟨B, 0, k', n', s', a', l', c', rfl, ⟨Nat.le_refl _, (Array.getElem?_eq_some_iff.1 h1).1⟩, by rw [Nat.zero_add]; exact c0, by rw [Nat.zero_add]; exact c1, by rw [Nat.zero_add]; exact c2, by rw [Nat.zero_add]; exact c3, ?_⟩
  rw [List.getElem_map]
  exact hT.carry (fun _ _ => rfl) (fun b hb => ⟨Nat.le_of_lt hb.1, hb.2⟩)


set_option maxRecDepth 100000 in
set_option maxHeartbeats 2000000 in
theorem withKids_erase (B1 : Nat) (F : Tm → Tm) (k n : Int) (s : ByteArray) (ks : List Tm) (v : Value) (w : World) (hv : Has w v (.mk k n s ks)) (hl : ks.length ≤ 1000000000000)
    (ih : ∀ t ∈ ks, ∀ (v : Value) (w' : World), Below w.heap.size w w' → Has w' v t → Calls Try.prog 43 #[v, .pointer (some ⟨B1, 0, none⟩)] w' (NewTm w' (F t))) :
    Calls Try.prog 45 #[v, .func (.func 43) #[] #[.pointer (some ⟨B1, 0, none⟩)]] w (NewTm w (.mk k n s (ks.map F))) := by
  obtain ⟨k_, n_, s_, a, len, cap, ks_, rfl, e, rfl, hk, hn, hs', -⟩ := hv.form
  injection e with e1 e2 e3 e4
  subst e1 e2 e3 e4
  obtain ⟨w2, hw2⟩ : ∃ w2, w2 = (w.alloc (.cells #[.int .i64 k, .int .i64 n, .string s, .slice a ks.length cap] 24)).alloc (.cells #[.int .i64 0, .int .i64 0, .string (ByteArray.mk #[]), .slice none 0 0] 24) := ⟨_, rfl⟩
  have hb2 : Below w.heap.size w w2 := by rw [hw2]; exact ((Below.refl _ w).alloc (Nat.le_refl _) _).alloc (by simp) _
  have hx1 : w2.heap[w.heap.size]? = some (.cells #[.int .i64 k, .int .i64 n, .string s, .slice a ks.length cap] 24 (0, 0)) := by rw [hw2]; exact (Below.heap_alloc _ _ _ (by simp)).trans (World.alloc_heap_new _ _)
  have hx2 : w2.heap[w.heap.size + 1]? = some (.cells #[.int .i64 0, .int .i64 0, .string (ByteArray.mk #[]), .slice none 0 0] 24 (0, 0)) := by rw [hw2]; simpa using World.alloc_heap_new (w.alloc (.cells #[.int .i64 k, .int .i64 n, .string s, .slice a ks.length cap] 24)) (.cells #[.int .i64 0, .int .i64 0, .string (ByteArray.mk #[]), .slice none 0 0] 24)
  have hsz2 : w2.heap.size = w.heap.size + 2 := by rw [hw2]; simp
  have hkids : HasTs w (.slice a ks.length cap) ks := TmIn.kids hv
  obtain ⟨a_, cap_, e, hc, hm, ha, hx⟩ := id hkids
  injection e with e1 e2 e3
  subst e1 e3
  have hmk := make_terms ks.length hl
  have hz := zeroTerm
  have HW := Lib.hid (And.intro hw2 (And.intro hb2 (And.intro hx1 (And.intro hx2 hsz2))))
  clear hw2 hb2 hx1 hx2 hsz2 hv hkids
  by_cases h0 : ks.length = 0
  · obtain rfl : ks = [] := List.eq_nil_of_length_eq_zero h0
    go_enter Try.func45, Try.ntmps45
    go_wp2_with fail
    go_loopw [19] (fun i wr => i = .int .i64 0 ∧ wr = w2) (fun i _ => 0)
    case atStart => exact ⟨rfl, HW.out.1.symm⟩
    case round =>
      obtain ⟨rfl, rfl⟩ := hrel
      obtain ⟨x0, x1, x2, x3⟩ := tbox_cells HW.out.2.2.1
      obtain ⟨z0, z1, z2, z3⟩ := tbox_cells HW.out.2.2.2.1
      have xf : ∀ j, wr.frozen? ⟨w.heap.size, j, none⟩ = false := fun j => by simp [World.frozen?, HW.out.2.2.1]
      have zf : ∀ j, wr.frozen? ⟨w.heap.size + 1, j, none⟩ = false := fun j => by simp [World.frozen?, HW.out.2.2.2.1]
      go_wp2_with fail
      have h5 := boxed_result (w := w) ((Below.heap_setCell wr ⟨w.heap.size, 3, none⟩ (.slice none 0 0) (w.heap.size + 1) (by simp)).trans HW.out.2.2.2.1) ((noTs (fun _ => False) (wr.setCell ⟨w.heap.size, 3, none⟩ (.slice none 0 0))).term hk hn hs') (fun b hb => hb.elim) (HW.out.2.1.setCell (p := ⟨w.heap.size, 3, none⟩) (Nat.le_refl _) _) (Nat.le_succ _)
      generalize (((((wr.setCell ⟨w.heap.size, 3, none⟩ (.slice none 0 0)).setCell ⟨w.heap.size + 1, 0, none⟩ (.int .i64 k)).setCell ⟨w.heap.size + 1, 1, none⟩ (.int .i64 n)).setCell ⟨w.heap.size + 1, 2, none⟩ (.string s)).setCell ⟨w.heap.size + 1, 3, none⟩ (.slice none 0 0)) = w5 at h5 ⊢
      obtain ⟨hb5, h5⟩ := h5
      obtain ⟨f0, f1, f2, f3⟩ := tbox_cells hb5
      refine bodyPost_ret (v := .agg #[.int .i64 k, .int .i64 n, .string s, .slice none 0 0]) (by simp [results, Try.f45, go_sem, f0, f1, f2, f3]) rfl ?_
      exact h5
  · have h0' : 0 < ks.length := by omega
    have h0i : (0 : Int) < (ks.length : Int) := by omega
    go_enter Try.func45, Try.ntmps45
    go_wp2_with fail
    go_loopw [19] (fun i wr => ∃ c : Nat, i = .int .i64 c ∧ c ≤ ks.length ∧ FillF wr (w.heap.size + 1 + 1) c ks.length F ks ∧ Below w.heap.size w wr ∧ wr.heap[w.heap.size]? = some (.cells #[.int .i64 k, .int .i64 n, .string s, .slice a ks.length cap] 24 (0, 0)) ∧ wr.heap[w.heap.size + 1]? = some (.cells #[.int .i64 0, .int .i64 0, .string (ByteArray.mk #[]), .slice none 0 0] 24 (0, 0))) (fun i _ => ks.length - (intOf i).toNat)
    case atStart =>
      rw [← HW.out.1]
      have hsz := HW.out.2.2.2.2
      have hnew := World.alloc_heap_new w2 (.cells (madeCells #[.int .i64 0, .int .i64 0, .string (ByteArray.mk #[]), .slice none 0 0] (ks.length * 4)) 24)
      rw [hsz] at hnew
      exact ⟨0, rfl, Nat.zero_le _, ⟨⟨_, hnew, by rw [size_madeCells]⟩, fun i t hi => absurd hi (Nat.not_lt_zero _)⟩, HW.out.2.1.alloc (by omega) _, (Below.heap_alloc _ _ _ (by omega)).trans HW.out.2.2.1, (Below.heap_alloc _ _ _ (by omega)).trans HW.out.2.2.2.1⟩
    case round =>
      obtain ⟨c, rfl, hcl, hF, hB, y1, y2⟩ := hrel
      by_cases hlt : c < ks.length
      · obtain ⟨b, o, k', n', s', a', l', c', rfl, hbn, c0, c1, c2, c3, ht⟩ := hx c hlt
        have hbn' : b < w.heap.size := hbn
        have q0 := (hB.cell (p := ⟨b, o + c * 4, none⟩) hbn').trans c0
        have q1 := (hB.cell (p := ⟨b, o + c * 4 + 1, none⟩) hbn').trans c1
        have q2 := (hB.cell (p := ⟨b, o + c * 4 + 2, none⟩) hbn').trans c2
        have q3 := (hB.cell (p := ⟨b, o + c * 4 + 3, none⟩) hbn').trans c3
        have ht1 : Has wr (.agg #[.int .i64 k', .int .i64 n', .string s', .slice a' l' c']) ks[c] := IsTm.later hB hB.size ht
        have hih : ∀ w3, Below wr.heap.size wr w3 → Calls Try.prog 43 #[.agg #[.int .i64 k', .int .i64 n', .string s', .slice a' l' c'], .pointer (some ⟨B1, 0, none⟩)] w3 fun e w4 => ∃ (k4 n4 : Int) (s4 : ByteArray) (a4 : Option Addr) (l4 c4 : Nat) (u0 u1 u2 u3 : Value), e = .returned (.agg #[.int .i64 k4, .int .i64 n4, .string s4, .slice a4 l4 c4]) ∧
            w4.cell? ⟨w.heap.size + 1 + 1, c * 4, none⟩ = some u0 ∧ w4.cell? ⟨w.heap.size + 1 + 1, c * 4 + 1, none⟩ = some u1 ∧ w4.cell? ⟨w.heap.size + 1 + 1, c * 4 + 2, none⟩ = some u2 ∧ w4.cell? ⟨w.heap.size + 1 + 1, c * 4 + 3, none⟩ = some u3 ∧ (∀ j, w4.frozen? ⟨w.heap.size + 1 + 1, j, none⟩ = false) ∧
            TmIn (fun b => w.heap.size + 1 + 1 < b ∧ b < w4.heap.size) w4 (.agg #[.int .i64 k4, .int .i64 n4, .string s4, .slice a4 l4 c4]) (F ks[c]) ∧ FillF w4 (w.heap.size + 1 + 1) c ks.length F ks ∧ Below w.heap.size w w4 ∧ w4.heap[w.heap.size]? = some (.cells #[.int .i64 k, .int .i64 n, .string s, .slice (some ⟨b, o, none⟩) ks.length cap] 24 (0, 0)) ∧ w4.heap[w.heap.size + 1]? = some (.cells #[.int .i64 0, .int .i64 0, .string (ByteArray.mk #[]), .slice none 0 0] 24 (0, 0)) := fun w3 h3 =>
          (ih ks[c] (List.getElem_mem _) _ w3 (hB.trans (h3.mono hB.size)) (Has.below ht1 h3)).mono fun e w4 h4 => by
            obtain ⟨r, rfl, hr, hb4⟩ := h4
            obtain ⟨k4, n4, s4, a4, l4, c4, ks4, rfl, -⟩ := hr.form
            have hF4 := (hF.below h3).below hb4
            obtain ⟨u0, u1, u2, u3, e0, e1, e2, e3, ef⟩ := hF4.spot c hlt
            obtain ⟨cur, hcur, _⟩ := hF.row
            have hlt3 : w.heap.size + 1 + 1 < w3.heap.size := Nat.lt_of_lt_of_le (Array.getElem?_eq_some_iff.1 hcur).1 h3.size
            exact ⟨k4, n4, s4, a4, l4, c4, u0, u1, u2, u3, rfl, e0, e1, e2, e3, ef, hr.carry (fun _ _ => rfl) (fun b hb => ⟨Nat.lt_of_lt_of_le hlt3 hb.1, hb.2⟩), hF4, (hB.trans (h3.mono hB.size)).trans (hb4.mono (Nat.le_trans hB.size h3.size)), tbox_below (tbox_below y1 h3) hb4, tbox_below (tbox_below y2 h3) hb4⟩
        clear ih c0 c1 c2 c3 ht hF hx ht1 hmk y1 y2
        go_wp2_with (go_at_call 43; refine (hih _ ((Below.refl _ _).alloc (Nat.le_refl _) _)).mono ?_; rintro e w4 ⟨k4, n4, s4, a4, l4, c4, u0, u1, u2, u3, rfl, e0, e1, e2, e3, ef, hT, hF4, hB4, y1, y2⟩)
        have hd : w.heap.size ≤ w.heap.size + 1 + 1 := by omega
        refine ⟨⟨c + 1, by simp, hlt, hF4.set hlt (List.getElem?_eq_getElem hlt) hT, (((hB4.setCell (p := ⟨w.heap.size + 1 + 1, _, none⟩) hd _).setCell (p := ⟨w.heap.size + 1 + 1, _, none⟩) hd _).setCell (p := ⟨w.heap.size + 1 + 1, _, none⟩) hd _).setCell (p := ⟨w.heap.size + 1 + 1, _, none⟩) hd _, ?_, ?_⟩, ?_⟩
        · rw [Below.heap_setCell _ _ _ _ (by simp; omega), Below.heap_setCell _ _ _ _ (by simp; omega), Below.heap_setCell _ _ _ _ (by simp; omega), Below.heap_setCell _ _ _ _ (by simp; omega)]; exact y1
        · rw [Below.heap_setCell _ _ _ _ (by simp), Below.heap_setCell _ _ _ _ (by simp), Below.heap_setCell _ _ _ _ (by simp), Below.heap_setCell _ _ _ _ (by simp)]; exact y2
        · simp [intOf]; omega
      · have hce : c = ks.length := by omega
        subst hce
        obtain ⟨x0, x1, x2, x3⟩ := tbox_cells y1
        obtain ⟨z0, z1, z2, z3⟩ := tbox_cells y2
        have xf : ∀ j, wr.frozen? ⟨w.heap.size, j, none⟩ = false := fun j => by simp [World.frozen?, y1]
        have zf : ∀ j, wr.frozen? ⟨w.heap.size + 1, j, none⟩ = false := fun j => by simp [World.frozen?, y2]
        have HF := Lib.hid (And.intro (hF.done (by unfold maxLen; omega)) (And.intro hB y2))
        clear hF hB y1 y2 ih hx hmk
        go_wp2_with fail
        have hT : TsIn (fun b => w.heap.size + 1 + 1 ≤ b ∧ b < (wr.setCell ⟨w.heap.size, 3, none⟩ (.slice (some ⟨w.heap.size + 1 + 1, 0, none⟩) ks.length ks.length)).heap.size) (wr.setCell ⟨w.heap.size, 3, none⟩ (.slice (some ⟨w.heap.size + 1 + 1, 0, none⟩) ks.length ks.length)) (.slice (some ⟨w.heap.size + 1 + 1, 0, none⟩) ks.length ks.length) (ks.map F) :=
          HF.out.1.carry (fun b hb => Below.heap_setCell _ _ _ _ (by have := hb.1; simp; omega)) (fun b hb => by simpa using hb)
        have h5 := boxed_result (w := w) ((Below.heap_setCell wr ⟨w.heap.size, 3, none⟩ (.slice (some ⟨w.heap.size + 1 + 1, 0, none⟩) ks.length ks.length) (w.heap.size + 1) (by simp)).trans HF.out.2.2) (hT.term hk hn hs') (fun b hb => ⟨by have := hb.1; omega, hb.2⟩) (HF.out.2.1.setCell (p := ⟨w.heap.size, 3, none⟩) (Nat.le_refl _) _) (Nat.le_succ _)
        generalize (((((wr.setCell ⟨w.heap.size, 3, none⟩ (.slice (some ⟨w.heap.size + 1 + 1, 0, none⟩) ks.length ks.length)).setCell ⟨w.heap.size + 1, 0, none⟩ (.int .i64 k)).setCell ⟨w.heap.size + 1, 1, none⟩ (.int .i64 n)).setCell ⟨w.heap.size + 1, 2, none⟩ (.string s)).setCell ⟨w.heap.size + 1, 3, none⟩ (.slice (some ⟨w.heap.size + 1 + 1, 0, none⟩) ks.length ks.length)) = w5 at h5 ⊢
        obtain ⟨hb5, h5⟩ := h5
        obtain ⟨f0, f1, f2, f3⟩ := tbox_cells hb5
        refine bodyPost_ret (v := .agg #[.int .i64 k, .int .i64 n, .string s, .slice (some ⟨w.heap.size + 1 + 1, 0, none⟩) ks.length ks.length]) (by simp [results, Try.f45, go_sem, f0, f1, f2, f3]) rfl ?_
        exact h5

end Go.Proofs.Ytbdkakpbhijilaa
