/-
  term.Shift, term.shifted, term.Make, term.Atom, term.Num, term.Let: the terms that they make.
-/
import Derived.Test.YtlnggaepmclbkaaZGround
import Derived.Deep.OwnRows
namespace Go.Proofs.Ytlnggaepmclbkaa
open Go.RowKit Go.Shelf
set_option linter.unusedVariables false

mutual
/-- A term, its variables' numbers moved. -/
def Tm.shift (d : Int) : Tm → Tm
  | .mk k n s ks => .mk k (if k = 1 then wrap64 (n + d) else n) s (Tm.shifts d ks)
def Tm.shifts (d : Int) : List Tm → List Tm
  | [] => []
  | t :: ts => t.shift d :: Tm.shifts d ts
end
theorem Tm.shift_mk (d k n : Int) (s : ByteArray) (ks : List Tm) : (Tm.mk k n s ks).shift d = .mk k (if k = 1 then wrap64 (n + d) else n) s (Tm.shifts d ks) := by rw [Tm.shift]
theorem Tm.shifts_eq (d : Int) : ∀ ks : List Tm, Tm.shifts d ks = ks.map (Tm.shift d)
  | [] => by rw [Tm.shifts]; rfl
  | t :: ts => by rw [Tm.shifts, Tm.shifts_eq d ts]; rfl

theorem wrap64_ok (x : Int) : i64ok (wrap64 x) := by unfold i64ok; simp only [wrap64]; omega

/-- What a call that makes a term leaves: the term in new memory; what was there is as it was. -/
def NewTm (w : World) (T : Tm) (e : Ending) (w' : World) : Prop := ∃ r, e = .returned r ∧ TmIn (fun b => w.heap.size ≤ b ∧ b < w'.heap.size) w' r T ∧ Below w.heap.size w w'
def NewTs (w : World) (ks : List Tm) (e : Ending) (w' : World) : Prop := ∃ r, e = .returned r ∧ TsIn (fun b => w.heap.size ≤ b ∧ b < w'.heap.size) w' r ks ∧ Below w.heap.size w w'

abbrev HasTs (w : World) (v : Value) (ks : List Tm) : Prop := TsIn (fun b => b < w.heap.size) w v ks
theorem HasTs.below {w w' : World} {v : Value} {ks : List Tm} (h : HasTs w v ks) (k : Below w.heap.size w w') : HasTs w' v ks := TsIn.carry (fun b hb => k.block b hb) (fun b hb => Nat.lt_of_lt_of_le hb k.size) h

theorem infoTerm : (Try.prog.info? 24).map (fun i => (i.zero, i.size, i.bytes)) = some (some (.agg #[.int .i64 0, .int .i64 0, .string (ByteArray.mk #[]), .slice none 0 0]), 4, 56) := by kernel_rfl

theorem make_terms (n : Nat) (h : n ≤ 1000000000000) (w : World) :
    (Instr.makeSlice 22 (.int .i64 (n : Int)) (.int .i64 (n : Int))).run Try.prog w = .ok (.slice (some ⟨w.heap.size, 0, none⟩) n n) (w.alloc (.cells (madeCells #[.int .i64 0, .int .i64 0, .string (ByteArray.mk #[]), .slice none 0 0] (n * 4)) 24)) := by
  obtain ⟨i, hi, hz, hs, hb⟩ := info_parts infoTerm
  have hr := run_make (P := Try.prog) w 22 24 i _ Try.underlying22 hi hz .i64 .i64 n n (by omega) (Int.le_refl _) (by rw [hb]; omega) (by omega)
  simp only [Int.toNat_natCast, hs] at hr
  exact hr

theorem zeroTerm (w : World) : (zeroValue 24).run Try.prog w = .ok (.agg #[.int .i64 0, .int .i64 0, .string (ByteArray.mk #[]), .slice none 0 0]) w := by kernel_rfl

/-- The new list, its first places filled. -/
structure Filled (W : World) (B c len : Nat) (d : Int) (ks : List Tm) : Prop where
  row : ∃ cur : Array Value, W.heap[B]? = some (.cells cur 24 (0, 0)) ∧ cur.size = len * 4
  kids : ∀ i t, i < c → ks[i]? = some t → ∃ (k' n' : Int) (s' : ByteArray) (a' : Option Addr) (l' c' : Nat), W.cell? ⟨B, i * 4, none⟩ = some (.int .i64 k') ∧ W.cell? ⟨B, i * 4 + 1, none⟩ = some (.int .i64 n') ∧
      W.cell? ⟨B, i * 4 + 2, none⟩ = some (.string s') ∧ W.cell? ⟨B, i * 4 + 3, none⟩ = some (.slice a' l' c') ∧ TmIn (fun b => B < b ∧ b < W.heap.size) W (.agg #[.int .i64 k', .int .i64 n', .string s', .slice a' l' c']) (t.shift d)

theorem Filled.spot {W : World} {B c len : Nat} {d : Int} {ks : List Tm} (h : Filled W B c len d ks) (i : Nat) (hi : i < len) :
    ∃ u0 u1 u2 u3, W.cell? ⟨B, i * 4, none⟩ = some u0 ∧ W.cell? ⟨B, i * 4 + 1, none⟩ = some u1 ∧ W.cell? ⟨B, i * 4 + 2, none⟩ = some u2 ∧ W.cell? ⟨B, i * 4 + 3, none⟩ = some u3 ∧ ∀ j, W.frozen? ⟨B, j, none⟩ = false := by
  obtain ⟨cur, h1, h2⟩ := h.row
  have e : ∀ j, j < len * 4 → ∃ u, W.cell? ⟨B, j, none⟩ = some u := fun j hj => ⟨cur[j], by simp [World.cell?, h1, Array.getElem?_eq_getElem (show j < cur.size by omega)]⟩
  obtain ⟨u0, e0⟩ := e (i * 4) (by omega)
  obtain ⟨u1, e1⟩ := e (i * 4 + 1) (by omega)
  obtain ⟨u2, e2⟩ := e (i * 4 + 2) (by omega)
  obtain ⟨u3, e3⟩ := e (i * 4 + 3) (by omega)
  exact ⟨u0, u1, u2, u3, e0, e1, e2, e3, fun j => by simp [World.frozen?, h1]⟩

theorem Filled.below {W W' : World} {B c len : Nat} {d : Int} {ks : List Tm} (h : Filled W B c len d ks) (hb : Below W.heap.size W W') : Filled W' B c len d ks := by
  obtain ⟨cur, h1, h2⟩ := h.row
  have hlt : B < W.heap.size := (Array.getElem?_eq_some_iff.1 h1).1
  refine ⟨⟨cur, (hb.block B hlt).trans h1, h2⟩, fun i t hi ht => ?_⟩
  obtain ⟨k', n', s', a', l', c', c0, c1, c2, c3, hT⟩ := h.kids i t hi ht
  exact ⟨k', n', s', a', l', c', (hb.cell (p := ⟨B, _, none⟩) hlt).trans c0, (hb.cell (p := ⟨B, _, none⟩) hlt).trans c1, (hb.cell (p := ⟨B, _, none⟩) hlt).trans c2, (hb.cell (p := ⟨B, _, none⟩) hlt).trans c3,
    hT.carry (fun b hp => hb.block b hp.2) (fun b hp => ⟨hp.1, Nat.lt_of_lt_of_le hp.2 hb.size⟩)⟩

theorem set_block {W : World} {B o : Nat} {cur : Array Value} {t : TypeId} {z : Nat × Nat} (h : W.heap[B]? = some (.cells cur t z)) (v : Value) : (W.setCell ⟨B, o, none⟩ v).heap[B]? = some (.cells (cur.setIfInBounds o v) t z) := by
  obtain ⟨hlt, hk⟩ := Array.getElem?_eq_some_iff.1 h
  show (W.heap.modify B _)[B]? = _
  rw [Array.getElem?_eq_getElem (by rw [Array.size_modify]; exact hlt), Array.getElem_modify_self, hk]
  rfl

/-- A box of a term, stored whole. -/
theorem four_block {W : World} {B : Nat} {c0 c1 c2 c3 : Value} {t : TypeId} {z : Nat × Nat} (h : W.heap[B]? = some (.cells #[c0, c1, c2, c3] t z)) (v0 v1 v2 v3 : Value) :
    ((((W.setCell ⟨B, 0, none⟩ v0).setCell ⟨B, 1, none⟩ v1).setCell ⟨B, 2, none⟩ v2).setCell ⟨B, 3, none⟩ v3).heap[B]? = some (.cells #[v0, v1, v2, v3] t z) :=
  set_block (o := 3) (set_block (o := 2) (set_block (o := 1) (set_block (o := 0) h v0) v1) v2) v3

theorem Filled.set {W : World} {B c len : Nat} {d : Int} {ks : List Tm} (h : Filled W B c len d ks) (hc : c < len) {t : Tm} (ht : ks[c]? = some t) {k n : Int} {s : ByteArray} {a : Option Addr} {l cp : Nat}
    (hT : TmIn (fun b => B < b ∧ b < W.heap.size) W (.agg #[.int .i64 k, .int .i64 n, .string s, .slice a l cp]) (t.shift d)) :
    Filled ((((W.setCell ⟨B, c * 4, none⟩ (.int .i64 k)).setCell ⟨B, c * 4 + 1, none⟩ (.int .i64 n)).setCell ⟨B, c * 4 + 2, none⟩ (.string s)).setCell ⟨B, c * 4 + 3, none⟩ (.slice a l cp)) B (c + 1) len d ks := by
  obtain ⟨cur, h1, h2⟩ := h.row
  have e1 := set_block (o := c * 4 + 3) (set_block (o := c * 4 + 2) (set_block (o := c * 4 + 1) (set_block (o := c * 4) h1 (.int .i64 k)) (.int .i64 n)) (.string s)) (.slice a l cp)
  have eo : ∀ b, b ≠ B → ((((W.setCell ⟨B, c * 4, none⟩ (.int .i64 k)).setCell ⟨B, c * 4 + 1, none⟩ (.int .i64 n)).setCell ⟨B, c * 4 + 2, none⟩ (.string s)).setCell ⟨B, c * 4 + 3, none⟩ (.slice a l cp)).heap[b]? = W.heap[b]? := fun b hb => by
    rw [Below.heap_setCell _ _ _ _ hb, Below.heap_setCell _ _ _ _ hb, Below.heap_setCell _ _ _ _ hb, Below.heap_setCell _ _ _ _ hb]
  have es : ((((W.setCell ⟨B, c * 4, none⟩ (.int .i64 k)).setCell ⟨B, c * 4 + 1, none⟩ (.int .i64 n)).setCell ⟨B, c * 4 + 2, none⟩ (.string s)).setCell ⟨B, c * 4 + 3, none⟩ (.slice a l cp)).heap.size = W.heap.size := by simp
  generalize ((((W.setCell ⟨B, c * 4, none⟩ (.int .i64 k)).setCell ⟨B, c * 4 + 1, none⟩ (.int .i64 n)).setCell ⟨B, c * 4 + 2, none⟩ (.string s)).setCell ⟨B, c * 4 + 3, none⟩ (.slice a l cp)) = W' at e1 eo es ⊢
  have hcarry : ∀ {v : Value} {T : Tm}, TmIn (fun b => B < b ∧ b < W.heap.size) W v T → TmIn (fun b => B < b ∧ b < W'.heap.size) W' v T := fun hh =>
    hh.carry (fun b hb => eo b (by omega)) (fun b hb => ⟨hb.1, by rw [es]; exact hb.2⟩)
  have cell' : ∀ j, W'.cell? ⟨B, j, none⟩ = ((((cur.setIfInBounds (c * 4) (.int .i64 k)).setIfInBounds (c * 4 + 1) (.int .i64 n)).setIfInBounds (c * 4 + 2) (.string s)).setIfInBounds (c * 4 + 3) (.slice a l cp))[j]? := fun j => by simp [World.cell?, e1]
  have cell0 : ∀ j, W.cell? ⟨B, j, none⟩ = cur[j]? := fun j => by simp [World.cell?, h1]
  refine ⟨⟨_, e1, by simp [h2]⟩, fun i u hi hu => ?_⟩
  by_cases hic : i = c
  · subst hic
    rw [ht] at hu
    cases hu
    refine ⟨k, n, s, a, l, cp, ?_, ?_, ?_, ?_, hcarry hT⟩
    · rw [cell', Array.getElem?_setIfInBounds_ne (by omega), Array.getElem?_setIfInBounds_ne (by omega), Array.getElem?_setIfInBounds_ne (by omega), Array.getElem?_setIfInBounds_self_of_lt (by omega)]
    · rw [cell', Array.getElem?_setIfInBounds_ne (by omega), Array.getElem?_setIfInBounds_ne (by omega), Array.getElem?_setIfInBounds_self_of_lt (by simp; omega)]
    · rw [cell', Array.getElem?_setIfInBounds_ne (by omega), Array.getElem?_setIfInBounds_self_of_lt (by simp; omega)]
    · rw [cell', Array.getElem?_setIfInBounds_self_of_lt (by simp; omega)]
  · obtain ⟨k', n', s', a', l', c', c0, c1, c2, c3, hT'⟩ := h.kids i u (by omega) hu
    have other : ∀ j, j < c * 4 → W'.cell? ⟨B, j, none⟩ = W.cell? ⟨B, j, none⟩ := fun j hj => by
      rw [cell', cell0, Array.getElem?_setIfInBounds_ne (by omega), Array.getElem?_setIfInBounds_ne (by omega), Array.getElem?_setIfInBounds_ne (by omega), Array.getElem?_setIfInBounds_ne (by omega)]
    exact ⟨k', n', s', a', l', c', (other _ (by omega)).trans c0, (other _ (by omega)).trans c1, (other _ (by omega)).trans c2, (other _ (by omega)).trans c3, hcarry hT'⟩

theorem Filled.done {W : World} {B : Nat} {d : Int} {ks : List Tm} (h : Filled W B ks.length ks.length d ks) (hl : ks.length ≤ maxLen) : TsIn (fun b => B ≤ b ∧ b < W.heap.size) W (.slice (some ⟨B, 0, none⟩) ks.length ks.length) (Tm.shifts d ks) := by
  obtain ⟨cur, h1, h2⟩ := h.row
  have hlen : (Tm.shifts d ks).length = ks.length := by rw [Tm.shifts_eq, List.length_map]
  refine ⟨some ⟨B, 0, none⟩, ks.length, by rw [hlen], by rw [hlen]; exact Nat.le_refl _, hl, (fun h => by cases h), fun i hi => ?_⟩
  rw [hlen] at hi
  obtain ⟨k', n', s', a', l', c', c0, c1, c2, c3, hT⟩ := h.kids i ks[i] hi (List.getElem?_eq_getElem hi)
  refine ⟨B, 0, k', n', s', a', l', c', rfl, ⟨Nat.le_refl _, (Array.getElem?_eq_some_iff.1 h1).1⟩, by rw [Nat.zero_add]; exact c0, by rw [Nat.zero_add]; exact c1, by rw [Nat.zero_add]; exact c2, by rw [Nat.zero_add]; exact c3, ?_⟩
  have e : (Tm.shifts d ks)[i] = ks[i].shift d := by simp [Tm.shifts_eq]
  rw [e]
  exact hT.carry (fun _ _ => rfl) (fun b hb => ⟨Nat.le_of_lt hb.1, hb.2⟩)

set_option maxRecDepth 100000 in
set_option maxHeartbeats 2000000 in
theorem shifted_of (d : Int) (ks : List Tm) (ih : ∀ t ∈ ks, ∀ (v : Value) (w : World), Has w v t → Calls Try.prog 12 #[v, .int .i64 d] w (NewTm w (t.shift d)))
    (v : Value) (w : World) (hv : HasTs w v ks) (hl : ks.length ≤ 1000000000000) :
    Calls Try.prog 33 #[v, .int .i64 d] w (NewTs w (Tm.shifts d ks)) := by
  obtain ⟨a, cap, rfl, hc, hm, ha, hx⟩ := id hv
  have hmk := make_terms ks.length hl
  have hz := zeroTerm
  by_cases h0 : ks.length = 0
  · obtain rfl : ks = [] := List.eq_nil_of_length_eq_zero h0
    go_enter Try.func33, Try.ntmps33
    go_wp2_with fail
    go_ret
    exact ⟨_, rfl, ⟨none, 0, by simp [Tm.shifts_eq], Nat.le_refl _, Nat.zero_le _, fun _ => rfl, fun i hi => by simp [Tm.shifts_eq] at hi⟩, Below.refl _ _⟩
  · go_enter Try.func33, Try.ntmps33
    go_wp2_with fail
    go_loopw [16] (fun i wr => ∃ c : Nat, i = .int .i64 c ∧ c ≤ ks.length ∧ Filled wr w.heap.size c ks.length d ks ∧ Below w.heap.size w wr) (fun i _ => ks.length - (intOf i).toNat)
    case atStart =>
      refine ⟨0, rfl, Nat.zero_le _, ⟨⟨_, World.alloc_heap_new _ _, by rw [size_madeCells]⟩, fun i t hi => absurd hi (Nat.not_lt_zero _)⟩, (Below.refl _ w).alloc (Nat.le_refl _) _⟩
    case round =>
      obtain ⟨c, rfl, hcl, hF, hB⟩ := hrel
      by_cases hlt : c < ks.length
      · obtain ⟨b, o, k', n', s', a', l', c', rfl, hbn, c0, c1, c2, c3, ht⟩ := hx c hlt
        have hbn' : b < w.heap.size := hbn
        have q0 := (hB.cell (p := ⟨b, o + c * 4, none⟩) hbn').trans c0
        have q1 := (hB.cell (p := ⟨b, o + c * 4 + 1, none⟩) hbn').trans c1
        have q2 := (hB.cell (p := ⟨b, o + c * 4 + 2, none⟩) hbn').trans c2
        have q3 := (hB.cell (p := ⟨b, o + c * 4 + 3, none⟩) hbn').trans c3
        have ht1 : Has wr (.agg #[.int .i64 k', .int .i64 n', .string s', .slice a' l' c']) ks[c] := IsTm.later hB hB.size ht
        have hih : ∀ w3, Below wr.heap.size wr w3 → Calls Try.prog 12 #[.agg #[.int .i64 k', .int .i64 n', .string s', .slice a' l' c'], .int .i64 d] w3 fun e w4 => ∃ (k4 n4 : Int) (s4 : ByteArray) (a4 : Option Addr) (l4 c4 : Nat) (u0 u1 u2 u3 : Value), e = .returned (.agg #[.int .i64 k4, .int .i64 n4, .string s4, .slice a4 l4 c4]) ∧
            w4.cell? ⟨w.heap.size, c * 4, none⟩ = some u0 ∧ w4.cell? ⟨w.heap.size, c * 4 + 1, none⟩ = some u1 ∧ w4.cell? ⟨w.heap.size, c * 4 + 2, none⟩ = some u2 ∧ w4.cell? ⟨w.heap.size, c * 4 + 3, none⟩ = some u3 ∧ (∀ j, w4.frozen? ⟨w.heap.size, j, none⟩ = false) ∧
            TmIn (fun b => w.heap.size < b ∧ b < w4.heap.size) w4 (.agg #[.int .i64 k4, .int .i64 n4, .string s4, .slice a4 l4 c4]) (ks[c].shift d) ∧ Filled w4 w.heap.size c ks.length d ks ∧ Below w.heap.size w w4 := fun w3 h3 =>
          (ih ks[c] (List.getElem_mem _) _ w3 (Has.below ht1 h3)).mono fun e w4 h4 => by
            obtain ⟨r, rfl, hr, hb4⟩ := h4
            obtain ⟨k4, n4, s4, a4, l4, c4, ks4, rfl, -⟩ := hr.form
            have hF4 := (hF.below h3).below hb4
            obtain ⟨u0, u1, u2, u3, e0, e1, e2, e3, ef⟩ := hF4.spot c hlt
            obtain ⟨cur, hcur, _⟩ := hF.row
            have hlt3 : w.heap.size < w3.heap.size := Nat.lt_of_lt_of_le (Array.getElem?_eq_some_iff.1 hcur).1 h3.size
            exact ⟨k4, n4, s4, a4, l4, c4, u0, u1, u2, u3, rfl, e0, e1, e2, e3, ef, hr.carry (fun _ _ => rfl) (fun b hb => ⟨Nat.lt_of_lt_of_le hlt3 hb.1, hb.2⟩), hF4, (hB.trans (h3.mono hB.size)).trans (hb4.mono (Nat.le_trans hB.size h3.size))⟩
        clear ih c0 c1 c2 c3 ht hF hv hx ht1 hmk
        go_wp2_with (go_at_call 12; refine (hih _ ((Below.refl _ _).alloc (Nat.le_refl _) _)).mono ?_; rintro e w4 ⟨k4, n4, s4, a4, l4, c4, u0, u1, u2, u3, rfl, e0, e1, e2, e3, ef, hT, hF4, hB4⟩)
        refine ⟨⟨c + 1, by simp, hlt, hF4.set hlt (List.getElem?_eq_getElem hlt) hT, (((hB4.setCell (p := ⟨w.heap.size, _, none⟩) (Nat.le_refl _) _).setCell (p := ⟨w.heap.size, _, none⟩) (Nat.le_refl _) _).setCell (p := ⟨w.heap.size, _, none⟩) (Nat.le_refl _) _).setCell (p := ⟨w.heap.size, _, none⟩) (Nat.le_refl _) _⟩, ?_⟩
        simp [intOf]; omega
      · have hce : c = ks.length := by omega
        subst hce
        go_wp2_with fail
        go_ret
        exact ⟨_, rfl, hF.done (by unfold maxLen; omega), hB⟩

set_option maxRecDepth 100000 in
set_option maxHeartbeats 2000000 in
theorem shift_at (d : Int) (T : Tm) : ∀ (v : Value) (w : World), Has w v T → T.size ≤ 1000000000000 → Calls Try.prog 12 #[v, .int .i64 d] w (NewTm w (T.shift d)) := by
  induction T using Tm.ind with
  | h k n s ks ih =>
    intro v w hv hs
    obtain ⟨k_, n_, s_, a, len, cap, ks_, rfl, e, hl, hk, hn, hs', -⟩ := hv.form
    injection e with e1 e2 e3 e4
    subst e1 e2 e3 e4
    have hsz : ks.length ≤ 1000000000000 := by have := Tm.length_le_sizes ks; rw [Tm.size_mk] at hs; omega
    have hkids : HasTs w (.slice a len cap) ks := TmIn.kids hv
    have hsh : ∀ n1 : Int, Calls Try.prog 33 #[.slice a len cap, .int .i64 d] ((w.alloc (.cells #[.int .i64 k, .int .i64 n1, .string s, .slice a len cap] 24)).alloc (.cells #[.int .i64 0, .int .i64 0, .string (ByteArray.mk #[]), .slice none 0 0] 24)) fun e w4 => ∃ a4 l4 c4, e = .returned (.slice a4 l4 c4) ∧
        w4.cell? ⟨w.heap.size, 0, none⟩ = some (.int .i64 k) ∧ w4.cell? ⟨w.heap.size, 1, none⟩ = some (.int .i64 n1) ∧ w4.cell? ⟨w.heap.size, 2, none⟩ = some (.string s) ∧ w4.cell? ⟨w.heap.size, 3, none⟩ = some (.slice a len cap) ∧ (∀ j, w4.frozen? ⟨w.heap.size, j, none⟩ = false) ∧
        w4.cell? ⟨w.heap.size + 1, 0, none⟩ = some (.int .i64 0) ∧ w4.cell? ⟨w.heap.size + 1, 1, none⟩ = some (.int .i64 0) ∧ w4.cell? ⟨w.heap.size + 1, 2, none⟩ = some (.string (ByteArray.mk #[])) ∧ w4.cell? ⟨w.heap.size + 1, 3, none⟩ = some (.slice none 0 0) ∧ (∀ j, w4.frozen? ⟨w.heap.size + 1, j, none⟩ = false) ∧
        w4.heap[w.heap.size + 1]? = some (.cells #[.int .i64 0, .int .i64 0, .string (ByteArray.mk #[]), .slice none 0 0] 24 (0, 0)) ∧
        TsIn (fun b => w.heap.size + 2 ≤ b ∧ b < w4.heap.size) w4 (.slice a4 l4 c4) (Tm.shifts d ks) ∧ Below w.heap.size w w4 := fun n1 => by
      obtain ⟨w2, hw2⟩ : ∃ w2, w2 = (w.alloc (.cells #[.int .i64 k, .int .i64 n1, .string s, .slice a len cap] 24)).alloc (.cells #[.int .i64 0, .int .i64 0, .string (ByteArray.mk #[]), .slice none 0 0] 24) := ⟨_, rfl⟩
      have hb : Below w.heap.size w w2 := by rw [hw2]; exact ((Below.refl _ w).alloc (Nat.le_refl _) _).alloc (by simp) _
      have hx1 : w2.heap[w.heap.size]? = some (.cells #[.int .i64 k, .int .i64 n1, .string s, .slice a len cap] 24 (0, 0)) := by rw [hw2]; exact (Below.heap_alloc _ _ _ (by simp)).trans (World.alloc_heap_new _ _)
      have hx2 : w2.heap[w.heap.size + 1]? = some (.cells #[.int .i64 0, .int .i64 0, .string (ByteArray.mk #[]), .slice none 0 0] 24 (0, 0)) := by rw [hw2]; simpa using World.alloc_heap_new (w.alloc (.cells #[.int .i64 k, .int .i64 n1, .string s, .slice a len cap] 24)) (.cells #[.int .i64 0, .int .i64 0, .string (ByteArray.mk #[]), .slice none 0 0] 24)
      have hsz2 : w2.heap.size = w.heap.size + 2 := by rw [hw2]; simp
      rw [← hw2]
      refine (shifted_of d ks (fun t ht v w hv => ih t ht v w hv (by have := Tm.size_le_sizes ht; rw [Tm.size_mk] at hs; omega)) _ w2 (HasTs.below hkids hb) hsz).mono fun e w4 h4 => ?_
      obtain ⟨r, rfl, hr, hb4⟩ := h4
      obtain ⟨a4, c4, rfl, h5⟩ := id hr
      have y1 := tbox_below hx1 hb4
      have y2 := tbox_below hx2 hb4
      obtain ⟨z0, z1, z2, z3⟩ := tbox_cells y1
      obtain ⟨x0, x1, x2, x3⟩ := tbox_cells y2
      exact ⟨a4, _, c4, rfl, z0, z1, z2, z3, (fun j => by simp [World.frozen?, y1]), x0, x1, x2, x3, (fun j => by simp [World.frozen?, y2]), y2, hr.carry (fun _ _ => rfl) (fun b hb => ⟨by rw [← hsz2]; exact hb.1, hb.2⟩), hb.trans (hb4.mono hb.size)⟩
    have hz := zeroTerm
    clear ih hl hkids hv
    rw [Tm.shift_mk]
    by_cases h1 : k = 1
    · subst h1
      rw [if_pos rfl]
      go_enter Try.func12, Try.ntmps12
      go_wp2_with (go_at_call 33; refine (hsh _).mono ?_; clear hsh; rintro e w4 ⟨a4, l4, c4, rfl, z0, z1, z2, z3, zf, x0, x1, x2, x3, xf, y2, hT, hB⟩)
      have hb5 := four_block ((Below.heap_setCell w4 ⟨w.heap.size, 3, none⟩ (.slice a4 l4 c4) (w.heap.size + 1) (by simp)).trans y2) (.int .i64 1) (.int .i64 (wrap64 (n + d))) (.string s) (.slice a4 l4 c4)
      have ho5 : ∀ b, w.heap.size + 2 ≤ b → (((((w4.setCell ⟨w.heap.size, 3, none⟩ (.slice a4 l4 c4)).setCell ⟨w.heap.size + 1, 0, none⟩ (.int .i64 1)).setCell ⟨w.heap.size + 1, 1, none⟩ (.int .i64 (wrap64 (n + d)))).setCell ⟨w.heap.size + 1, 2, none⟩ (.string s)).setCell ⟨w.heap.size + 1, 3, none⟩ (.slice a4 l4 c4)).heap[b]? = w4.heap[b]? := fun b hb => by
        rw [Below.heap_setCell _ _ _ _ (by simp; omega), Below.heap_setCell _ _ _ _ (by simp; omega), Below.heap_setCell _ _ _ _ (by simp; omega), Below.heap_setCell _ _ _ _ (by simp; omega), Below.heap_setCell _ _ _ _ (by simp; omega)]
      have hB5 := ((((hB.setCell (p := ⟨w.heap.size, 3, none⟩) (Nat.le_refl _) (.slice a4 l4 c4)).setCell (p := ⟨w.heap.size + 1, 0, none⟩) (Nat.le_succ _) (.int .i64 1)).setCell (p := ⟨w.heap.size + 1, 1, none⟩) (Nat.le_succ _) (.int .i64 (wrap64 (n + d)))).setCell (p := ⟨w.heap.size + 1, 2, none⟩) (Nat.le_succ _) (.string s)).setCell (p := ⟨w.heap.size + 1, 3, none⟩) (Nat.le_succ _) (.slice a4 l4 c4)
      have hs5 : (((((w4.setCell ⟨w.heap.size, 3, none⟩ (.slice a4 l4 c4)).setCell ⟨w.heap.size + 1, 0, none⟩ (.int .i64 1)).setCell ⟨w.heap.size + 1, 1, none⟩ (.int .i64 (wrap64 (n + d)))).setCell ⟨w.heap.size + 1, 2, none⟩ (.string s)).setCell ⟨w.heap.size + 1, 3, none⟩ (.slice a4 l4 c4)).heap.size = w4.heap.size := by simp
      generalize (((((w4.setCell ⟨w.heap.size, 3, none⟩ (.slice a4 l4 c4)).setCell ⟨w.heap.size + 1, 0, none⟩ (.int .i64 1)).setCell ⟨w.heap.size + 1, 1, none⟩ (.int .i64 (wrap64 (n + d)))).setCell ⟨w.heap.size + 1, 2, none⟩ (.string s)).setCell ⟨w.heap.size + 1, 3, none⟩ (.slice a4 l4 c4)) = w5 at hb5 ho5 hB5 hs5 ⊢
      obtain ⟨f0, f1, f2, f3⟩ := tbox_cells hb5
      refine bodyPost_ret (v := .agg #[.int .i64 1, .int .i64 (wrap64 (n + d)), .string s, .slice a4 l4 c4]) (by simp [results, Try.f12, go_sem, f0, f1, f2, f3]) rfl ?_
      exact ⟨_, rfl, (hT.carry (q := fun b => w.heap.size ≤ b ∧ b < w5.heap.size) (fun b hb => ho5 b hb.1) (fun b hb => ⟨by omega, by rw [hs5]; exact hb.2⟩)).term hk (wrap64_ok _) hs', hB5⟩
    · rw [if_neg h1]
      go_enter Try.func12, Try.ntmps12
      go_wp2_with (go_at_call 33; refine (hsh _).mono ?_; clear hsh; rintro e w4 ⟨a4, l4, c4, rfl, z0, z1, z2, z3, zf, x0, x1, x2, x3, xf, y2, hT, hB⟩)
      have hb5 := four_block ((Below.heap_setCell w4 ⟨w.heap.size, 3, none⟩ (.slice a4 l4 c4) (w.heap.size + 1) (by simp)).trans y2) (.int .i64 k) (.int .i64 n) (.string s) (.slice a4 l4 c4)
      have ho5 : ∀ b, w.heap.size + 2 ≤ b → (((((w4.setCell ⟨w.heap.size, 3, none⟩ (.slice a4 l4 c4)).setCell ⟨w.heap.size + 1, 0, none⟩ (.int .i64 k)).setCell ⟨w.heap.size + 1, 1, none⟩ (.int .i64 n)).setCell ⟨w.heap.size + 1, 2, none⟩ (.string s)).setCell ⟨w.heap.size + 1, 3, none⟩ (.slice a4 l4 c4)).heap[b]? = w4.heap[b]? := fun b hb => by
        rw [Below.heap_setCell _ _ _ _ (by simp; omega), Below.heap_setCell _ _ _ _ (by simp; omega), Below.heap_setCell _ _ _ _ (by simp; omega), Below.heap_setCell _ _ _ _ (by simp; omega), Below.heap_setCell _ _ _ _ (by simp; omega)]
      have hB5 := ((((hB.setCell (p := ⟨w.heap.size, 3, none⟩) (Nat.le_refl _) (.slice a4 l4 c4)).setCell (p := ⟨w.heap.size + 1, 0, none⟩) (Nat.le_succ _) (.int .i64 k)).setCell (p := ⟨w.heap.size + 1, 1, none⟩) (Nat.le_succ _) (.int .i64 n)).setCell (p := ⟨w.heap.size + 1, 2, none⟩) (Nat.le_succ _) (.string s)).setCell (p := ⟨w.heap.size + 1, 3, none⟩) (Nat.le_succ _) (.slice a4 l4 c4)
      have hs5 : (((((w4.setCell ⟨w.heap.size, 3, none⟩ (.slice a4 l4 c4)).setCell ⟨w.heap.size + 1, 0, none⟩ (.int .i64 k)).setCell ⟨w.heap.size + 1, 1, none⟩ (.int .i64 n)).setCell ⟨w.heap.size + 1, 2, none⟩ (.string s)).setCell ⟨w.heap.size + 1, 3, none⟩ (.slice a4 l4 c4)).heap.size = w4.heap.size := by simp
      generalize (((((w4.setCell ⟨w.heap.size, 3, none⟩ (.slice a4 l4 c4)).setCell ⟨w.heap.size + 1, 0, none⟩ (.int .i64 k)).setCell ⟨w.heap.size + 1, 1, none⟩ (.int .i64 n)).setCell ⟨w.heap.size + 1, 2, none⟩ (.string s)).setCell ⟨w.heap.size + 1, 3, none⟩ (.slice a4 l4 c4)) = w5 at hb5 ho5 hB5 hs5 ⊢
      obtain ⟨f0, f1, f2, f3⟩ := tbox_cells hb5
      refine bodyPost_ret (v := .agg #[.int .i64 k, .int .i64 n, .string s, .slice a4 l4 c4]) (by simp [results, Try.f12, go_sem, f0, f1, f2, f3]) rfl ?_
      exact ⟨_, rfl, (hT.carry (q := fun b => w.heap.size ≤ b ∧ b < w5.heap.size) (fun b hb => ho5 b hb.1) (fun b hb => ⟨by omega, by rw [hs5]; exact hb.2⟩)).term hk hn hs', hB5⟩

end Go.Proofs.Ytlnggaepmclbkaa

namespace Go.Proofs.Ytlnggaepmclbkaa
open Go.RowKit Go.Shelf
set_option linter.unusedVariables false

theorem wrap64_id {x : Int} (h : i64ok x) : wrap64 x = x := by obtain ⟨h1, h2⟩ := h; simp only [wrap64]; omega

theorem TmIn.shift_zero {p : Nat → Prop} {W : World} {v : Value} {T : Tm} (h : TmIn p W v T) : T.shift 0 = T := by
  induction h with
  | mk hk hn hs hc hm ha vs K N S hv hkid ih =>
    rw [Tm.shift_mk, Tm.shifts_eq, Int.add_zero, wrap64_id hn, ite_self]
    congr 1
    refine List.ext_getElem (by simp) fun i h1 h2 => ?_
    rw [List.getElem_map]
    exact ih i h2
theorem TsIn.shift_zero {p : Nat → Prop} {W : World} {v : Value} {ks : List Tm} (h : TsIn p W v ks) : Tm.shifts 0 ks = ks := by
  have h1 := (h.term (k := 0) (n := 0) (s := ByteArray.mk #[]) ⟨by decide, by decide⟩ ⟨by decide, by decide⟩ (Nat.zero_le _)).shift_zero
  rw [Tm.shift_mk] at h1
  injection h1

theorem NewTm.has {w w' : World} {T : Tm} {e : Ending} (h : NewTm w T e w') : ∃ k n s a len cap, e = .returned (.agg #[.int .i64 k, .int .i64 n, .string s, .slice a len cap]) ∧ Has w' (.agg #[.int .i64 k, .int .i64 n, .string s, .slice a len cap]) T ∧ Below w.heap.size w w' := by
  obtain ⟨r, rfl, hr, hb⟩ := h
  obtain ⟨k, n, s, a, len, cap, ks, rfl, -⟩ := hr.form
  exact ⟨k, n, s, a, len, cap, rfl, hr.carry (fun _ _ => rfl) (fun b hb => hb.2), hb⟩

set_option maxRecDepth 100000 in
set_option maxHeartbeats 2000000 in
theorem make_at (s : ByteArray) (v : Value) (ks : List Tm) (w : World) (hs : s.size ≤ maxLen) (hv : HasTs w v ks) (hl : Tm.sizes ks ≤ 1000000000000) :
    Calls Try.prog 26 #[.string s, v] w (NewTm w (.mk 3 0 s ks)) := by
  have hlen : ks.length ≤ 1000000000000 := by have := Tm.length_le_sizes ks; omega
  obtain ⟨w2, hw2⟩ : ∃ w2, w2 = w.alloc (.cells #[.int .i64 0, .int .i64 0, .string (ByteArray.mk #[]), .slice none 0 0] 24) := ⟨_, rfl⟩
  have hb : Below w.heap.size w w2 := by rw [hw2]; exact (Below.refl _ w).alloc (Nat.le_refl _) _
  have hx2 : w2.heap[w.heap.size]? = some (.cells #[.int .i64 0, .int .i64 0, .string (ByteArray.mk #[]), .slice none 0 0] 24 (0, 0)) := by rw [hw2]; exact World.alloc_heap_new _ _
  have hsz2 : w2.heap.size = w.heap.size + 1 := by rw [hw2]; simp
  have hsh := (shifted_of 0 ks (fun t ht v w hv => shift_at 0 t v w hv (by have := Tm.size_le_sizes ht; omega)) v w2 (HasTs.below hv hb) hlen).mono (R' := fun e w4 => ∃ a4 l4 c4, e = .returned (.slice a4 l4 c4) ∧
      w4.cell? ⟨w.heap.size, 0, none⟩ = some (.int .i64 0) ∧ w4.cell? ⟨w.heap.size, 1, none⟩ = some (.int .i64 0) ∧ w4.cell? ⟨w.heap.size, 2, none⟩ = some (.string (ByteArray.mk #[])) ∧ w4.cell? ⟨w.heap.size, 3, none⟩ = some (.slice none 0 0) ∧ (∀ j, w4.frozen? ⟨w.heap.size, j, none⟩ = false) ∧
        w4.heap[w.heap.size]? = some (.cells #[.int .i64 0, .int .i64 0, .string (ByteArray.mk #[]), .slice none 0 0] 24 (0, 0)) ∧
        TsIn (fun b => w.heap.size + 1 ≤ b ∧ b < w4.heap.size) w4 (.slice a4 l4 c4) ks ∧ Below w.heap.size w w4) (fun e w4 h4 => by
      obtain ⟨r, rfl, hr, hb4⟩ := h4
      rw [hv.shift_zero] at hr
      obtain ⟨a4, c4, rfl, h5⟩ := id hr
      have y2 := tbox_below hx2 hb4
      obtain ⟨x0, x1, x2, x3⟩ := tbox_cells y2
      exact ⟨a4, _, c4, rfl, x0, x1, x2, x3, (fun j => by simp [World.frozen?, y2]), y2, hr.carry (fun _ _ => rfl) (fun b hb => ⟨by rw [← hsz2]; exact hb.1, hb.2⟩), hb.trans (hb4.mono hb.size)⟩)
  have hz := zeroTerm
  obtain ⟨a, cap, rfl, -⟩ := id hv
  clear hv hb hx2 hsz2 hlen hl
  subst hw2
  go_enter Try.func26, Try.ntmps26
  go_wp2_with (go_at_call 33; refine hsh.mono ?_; clear hsh; rintro e w4 ⟨a4, l4, c4, rfl, x0, x1, x2, x3, xf, y2, hT, hB⟩)
  have hb5 := four_block y2 (.int .i64 3) (.int .i64 0) (.string s) (.slice a4 l4 c4)
  have ho5 : ∀ b, w.heap.size + 1 ≤ b → ((((w4.setCell ⟨w.heap.size, 0, none⟩ (.int .i64 3)).setCell ⟨w.heap.size, 1, none⟩ (.int .i64 0)).setCell ⟨w.heap.size, 2, none⟩ (.string s)).setCell ⟨w.heap.size, 3, none⟩ (.slice a4 l4 c4)).heap[b]? = w4.heap[b]? := fun b hb => by
    rw [Below.heap_setCell _ _ _ _ (by simp; omega), Below.heap_setCell _ _ _ _ (by simp; omega), Below.heap_setCell _ _ _ _ (by simp; omega), Below.heap_setCell _ _ _ _ (by simp; omega)]
  have hB5 := (((hB.setCell (p := ⟨w.heap.size, 0, none⟩) (Nat.le_refl _) (.int .i64 3)).setCell (p := ⟨w.heap.size, 1, none⟩) (Nat.le_refl _) (.int .i64 0)).setCell (p := ⟨w.heap.size, 2, none⟩) (Nat.le_refl _) (.string s)).setCell (p := ⟨w.heap.size, 3, none⟩) (Nat.le_refl _) (.slice a4 l4 c4)
  have hs5 : ((((w4.setCell ⟨w.heap.size, 0, none⟩ (.int .i64 3)).setCell ⟨w.heap.size, 1, none⟩ (.int .i64 0)).setCell ⟨w.heap.size, 2, none⟩ (.string s)).setCell ⟨w.heap.size, 3, none⟩ (.slice a4 l4 c4)).heap.size = w4.heap.size := by simp
  generalize ((((w4.setCell ⟨w.heap.size, 0, none⟩ (.int .i64 3)).setCell ⟨w.heap.size, 1, none⟩ (.int .i64 0)).setCell ⟨w.heap.size, 2, none⟩ (.string s)).setCell ⟨w.heap.size, 3, none⟩ (.slice a4 l4 c4)) = w5 at hb5 ho5 hB5 hs5 ⊢
  obtain ⟨f0, f1, f2, f3⟩ := tbox_cells hb5
  refine bodyPost_ret (v := .agg #[.int .i64 3, .int .i64 0, .string s, .slice a4 l4 c4]) (by simp [results, Try.f26, go_sem, f0, f1, f2, f3]) rfl ?_
  exact ⟨_, rfl, (hT.carry (q := fun b => w.heap.size ≤ b ∧ b < w5.heap.size) (fun b hb => ho5 b hb.1) (fun b hb => ⟨by omega, by rw [hs5]; exact hb.2⟩)).term ⟨by decide, by decide⟩ ⟨by decide, by decide⟩ hs, hB5⟩

theorem noTs (p : Nat → Prop) (w : World) : TsIn p w (.slice none 0 0) [] := ⟨none, 0, rfl, Nat.le_refl _, Nat.zero_le _, fun _ => rfl, fun i hi => absurd hi (Nat.not_lt_zero _)⟩

set_option maxRecDepth 100000 in
theorem let_at (n : Int) (w : World) (hn : i64ok n) : Calls Try.prog 27 #[.int .i64 n] w (NewTm w (.mk 1 n (ByteArray.mk #[]) [])) := by
  have hz := zeroTerm
  go_enter Try.func27, Try.ntmps27
  go_wp2_with fail
  obtain ⟨f0, f1, f2, f3⟩ := tbox_cells (World.alloc_heap_new w (.cells #[.int .i64 1, .int .i64 n, .string (ByteArray.mk #[]), .slice none 0 0] 24))
  refine bodyPost_ret (v := .agg #[.int .i64 1, .int .i64 n, .string (ByteArray.mk #[]), .slice none 0 0]) (by simp [results, Try.f27, go_sem, f0, f1, f2, f3]) rfl ?_
  exact ⟨_, rfl, (noTs _ _).term ⟨by decide, by decide⟩ hn (Nat.zero_le _), (Below.refl _ w).alloc (Nat.le_refl _) _⟩

set_option maxRecDepth 100000 in
theorem num_at (n : Int) (w : World) (hn : i64ok n) : Calls Try.prog 25 #[.int .i64 n] w (NewTm w (.mk 2 n (ByteArray.mk #[]) [])) := by
  have hz := zeroTerm
  go_enter Try.func25, Try.ntmps25
  go_wp2_with fail
  obtain ⟨f0, f1, f2, f3⟩ := tbox_cells (World.alloc_heap_new w (.cells #[.int .i64 2, .int .i64 n, .string (ByteArray.mk #[]), .slice none 0 0] 24))
  refine bodyPost_ret (v := .agg #[.int .i64 2, .int .i64 n, .string (ByteArray.mk #[]), .slice none 0 0]) (by simp [results, Try.f25, go_sem, f0, f1, f2, f3]) rfl ?_
  exact ⟨_, rfl, (noTs _ _).term ⟨by decide, by decide⟩ hn (Nat.zero_le _), (Below.refl _ w).alloc (Nat.le_refl _) _⟩

set_option maxRecDepth 100000 in
set_option maxHeartbeats 1000000 in
theorem atom_at (s : ByteArray) (w : World) (hs : s.size ≤ maxLen) : Calls Try.prog 23 #[.string s] w (NewTm w (.mk 3 0 s [])) := by
  have hz := zeroTerm
  obtain ⟨w2, hw2⟩ : ∃ w2, w2 = w.alloc (.cells #[.int .i64 0, .int .i64 0, .string (ByteArray.mk #[]), .slice none 0 0] 24) := ⟨_, rfl⟩
  have hb : Below w.heap.size w w2 := by rw [hw2]; exact (Below.refl _ w).alloc (Nat.le_refl _) _
  have hx2 : w2.heap[w.heap.size]? = some (.cells #[.int .i64 0, .int .i64 0, .string (ByteArray.mk #[]), .slice none 0 0] 24 (0, 0)) := by rw [hw2]; exact World.alloc_heap_new _ _
  have hsz2 : w2.heap.size = w.heap.size + 1 := by rw [hw2]; simp
  have hmk := (make_at s (.slice none 0 0) [] w2 hs (noTs _ _) (by simp [Tm.sizes_nil])).mono (R' := fun e w4 => ∃ l4 c4 a4, e = .returned (.agg #[.int .i64 3, .int .i64 0, .string s, .slice a4 l4 c4]) ∧
      w4.cell? ⟨w.heap.size, 0, none⟩ = some (.int .i64 0) ∧ w4.cell? ⟨w.heap.size, 1, none⟩ = some (.int .i64 0) ∧ w4.cell? ⟨w.heap.size, 2, none⟩ = some (.string (ByteArray.mk #[])) ∧ w4.cell? ⟨w.heap.size, 3, none⟩ = some (.slice none 0 0) ∧ (∀ j, w4.frozen? ⟨w.heap.size, j, none⟩ = false) ∧
        w4.heap[w.heap.size]? = some (.cells #[.int .i64 0, .int .i64 0, .string (ByteArray.mk #[]), .slice none 0 0] 24 (0, 0)) ∧
        TmIn (fun b => w.heap.size + 1 ≤ b ∧ b < w4.heap.size) w4 (.agg #[.int .i64 3, .int .i64 0, .string s, .slice a4 l4 c4]) (.mk 3 0 s []) ∧ Below w.heap.size w w4) (fun e w4 h4 => by
      obtain ⟨r, rfl, hr, hb4⟩ := h4
      obtain ⟨k, n, s', a, len, cap, ks, rfl, e, -⟩ := hr.form
      injection e with e1 e2 e3 e4
      subst e1 e2 e3
      have y2 := tbox_below hx2 hb4
      obtain ⟨x0, x1, x2, x3⟩ := tbox_cells y2
      exact ⟨len, cap, a, rfl, x0, x1, x2, x3, (fun j => by simp [World.frozen?, y2]), y2, hr.carry (fun _ _ => rfl) (fun b hb => ⟨by rw [← hsz2]; exact hb.1, hb.2⟩), hb.trans (hb4.mono hb.size)⟩)
  clear hb hx2 hsz2
  subst hw2
  go_enter Try.func23, Try.ntmps23
  go_wp2_with (go_at_call 26; refine hmk.mono ?_; clear hmk; rintro e w4 ⟨l4, c4, a4, rfl, x0, x1, x2, x3, xf, y2, hT, hB⟩)
  have hb5 := four_block y2 (.int .i64 3) (.int .i64 0) (.string s) (.slice a4 l4 c4)
  have ho5 : ∀ b, w.heap.size + 1 ≤ b → ((((w4.setCell ⟨w.heap.size, 0, none⟩ (.int .i64 3)).setCell ⟨w.heap.size, 1, none⟩ (.int .i64 0)).setCell ⟨w.heap.size, 2, none⟩ (.string s)).setCell ⟨w.heap.size, 3, none⟩ (.slice a4 l4 c4)).heap[b]? = w4.heap[b]? := fun b hb => by
    rw [Below.heap_setCell _ _ _ _ (by simp; omega), Below.heap_setCell _ _ _ _ (by simp; omega), Below.heap_setCell _ _ _ _ (by simp; omega), Below.heap_setCell _ _ _ _ (by simp; omega)]
  have hB5 := (((hB.setCell (p := ⟨w.heap.size, 0, none⟩) (Nat.le_refl _) (.int .i64 3)).setCell (p := ⟨w.heap.size, 1, none⟩) (Nat.le_refl _) (.int .i64 0)).setCell (p := ⟨w.heap.size, 2, none⟩) (Nat.le_refl _) (.string s)).setCell (p := ⟨w.heap.size, 3, none⟩) (Nat.le_refl _) (.slice a4 l4 c4)
  have hs5 : ((((w4.setCell ⟨w.heap.size, 0, none⟩ (.int .i64 3)).setCell ⟨w.heap.size, 1, none⟩ (.int .i64 0)).setCell ⟨w.heap.size, 2, none⟩ (.string s)).setCell ⟨w.heap.size, 3, none⟩ (.slice a4 l4 c4)).heap.size = w4.heap.size := by simp
  generalize ((((w4.setCell ⟨w.heap.size, 0, none⟩ (.int .i64 3)).setCell ⟨w.heap.size, 1, none⟩ (.int .i64 0)).setCell ⟨w.heap.size, 2, none⟩ (.string s)).setCell ⟨w.heap.size, 3, none⟩ (.slice a4 l4 c4)) = w5 at hb5 ho5 hB5 hs5 ⊢
  obtain ⟨f0, f1, f2, f3⟩ := tbox_cells hb5
  refine bodyPost_ret (v := .agg #[.int .i64 3, .int .i64 0, .string s, .slice a4 l4 c4]) (by simp [results, Try.f23, go_sem, f0, f1, f2, f3]) rfl ?_
  exact ⟨_, rfl, hT.carry (fun b hb => ho5 b hb.1) (fun b hb => ⟨by omega, by rw [hs5]; exact hb.2⟩), hB5⟩

end Go.Proofs.Ytlnggaepmclbkaa
