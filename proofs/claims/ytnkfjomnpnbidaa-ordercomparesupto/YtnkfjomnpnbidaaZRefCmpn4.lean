/-
  The reference's order: numbers, texts, what is erased, all.
-/
import Derived.Test.YtnkfjomnpnbidaaZOrdG
import Derived.Test.YtnkfjomnpnbidaaZSamen2
import Derived.Deep.RegionWith
import Derived.Test.YtnkfjomnpnbidaaZOrdDn2
import Derived.Test.YtnkfjomnpnbidaaZShiftn3
import Derived.Laws.AppendOwnNone
import Derived.Deep.Heap
import Derived.Deep.RegionHeld3
import Derived.Test.YtnkfjomnpnbidaaZRefAn3
import Derived.Laws.Concat
import Derived.Test.YtnkfjomnpnbidaaZLatn3
namespace Go.Proofs.Ytnkfjomnpnbidaa
open Go.RowKit Go.Shelf
open Classical
set_option linter.unusedVariables false
set_option linter.unusedSimpArgs false

theorem cmps_append : ∀ {xs ys : List Tm} (zs us : List Tm), xs.length = ys.length → Tm.cmps (xs ++ zs) (ys ++ us) = lx (Tm.cmps xs ys) (Tm.cmps zs us)
  | [], [], zs, us, _ => by rw [Tm.cmps_nil]; rfl
  | [], _ :: _, _, _, h => by cases h
  | _ :: _, [], _, _, h => by cases h
  | x :: xs, y :: ys, zs, us, h => by
    rw [List.cons_append, List.cons_append, Tm.cmps_cons, Tm.cmps_cons, cmps_append zs us (by simpa using h)]
    unfold lx
    split <;> simp_all
theorem cmps_take {ks ls : List Tm} (hl : ks.length = ls.length) {c : Nat} {t u : Tm} (ht : ks[c]? = some t) (hu : ls[c]? = some u) : Tm.cmps (ks.take (c + 1)) (ls.take (c + 1)) = lx (Tm.cmps (ks.take c) (ls.take c)) (t.cmp u) := by
  have e1 : ks.take (c + 1) = ks.take c ++ [t] := by rw [List.take_add_one, ht]; rfl
  have e2 : ls.take (c + 1) = ls.take c ++ [u] := by rw [List.take_add_one, hu]; rfl
  rw [e1, e2, cmps_append _ _ (by rw [List.length_take, List.length_take, hl]), Tm.cmps_cons, Tm.cmps_nil]
  unfold lx
  split <;> (try split) <;> simp_all
theorem cmps_stop {ks ls : List Tm} (hl : ks.length = ls.length) {c : Nat} (h : Tm.cmps (ks.take c) (ls.take c) ≠ 0) : Tm.cmps ks ls = Tm.cmps (ks.take c) (ls.take c) := by
  conv => lhs; rw [← List.take_append_drop c ks, ← List.take_append_drop c ls]
  rw [cmps_append _ _ (by rw [List.length_take, List.length_take, hl])]
  unfold lx; rw [if_neg h]
theorem cb_take : ∀ {a b : List UInt8} (i : Nat), a.take i = b.take i → i ≤ a.length → i ≤ b.length → Lib.compareBytes a b = Lib.compareBytes (a.drop i) (b.drop i)
  | a, b, 0, _, _, _ => rfl
  | [], _, i + 1, _, h, _ => by simp at h
  | _ :: _, [], i + 1, _, _, h => by simp at h
  | x :: a, y :: b, i + 1, h, h1, h2 => by
    rw [List.take_succ_cons, List.take_succ_cons] at h
    injection h with e h
    subst e
    rw [cb_cons, c3_self, List.drop_succ_cons, List.drop_succ_cons, ← cb_take i h (by simpa using h1) (by simpa using h2)]
    rfl
theorem cb_other {a b : List UInt8} {i : Nat} {x y : UInt8} (h : a.take i = b.take i) (hx : a[i]? = some x) (hy : b[i]? = some y) (hne : x ≠ y) : Lib.compareBytes a b = c3 (x.toNat : Int) (y.toNat : Int) := by
  obtain ⟨h1, e1⟩ := List.getElem?_eq_some_iff.1 hx
  obtain ⟨h2, e2⟩ := List.getElem?_eq_some_iff.1 hy
  rw [cb_take i h (by omega) (by omega), List.drop_eq_getElem_cons h1, List.drop_eq_getElem_cons h2, e1, e2, cb_cons]
  unfold lx
  rw [if_neg]
  intro e
  have := (c3_zero _ _).1 e
  exact hne (UInt8.toNat_inj.1 (by omega))
theorem cb_end {a b : List UInt8} {i : Nat} (h : a.take i = b.take i) (hi : i = a.length ∨ i = b.length) (h1 : i ≤ a.length) (h2 : i ≤ b.length) : Lib.compareBytes a b = c3 (a.length : Int) (b.length : Int) := by
  rw [cb_take i h h1 h2]
  by_cases ha : i = a.length
  · by_cases hb : i = b.length
    · rw [List.drop_of_length_le (by omega), List.drop_of_length_le (by omega)]
      unfold c3; rw [if_neg (by omega), if_neg (by omega)]; simp only [Lib.compareBytes]
    · rw [List.drop_of_length_le (by omega), List.drop_eq_getElem_cons (by omega)]
      unfold c3; rw [if_pos (by omega)]; simp only [Lib.compareBytes]
  · have hb : i = b.length := by omega
    rw [List.drop_of_length_le (l := b) (by omega), List.drop_eq_getElem_cons (by omega)]
    unfold c3; rw [if_neg (by omega), if_pos (by omega)]; simp only [Lib.compareBytes]
theorem take_step {α : Type} {a b : List α} {i : Nat} {x : α} (h : a.take i = b.take i) (hx : a[i]? = some x) (hy : b[i]? = some x) : a.take (i + 1) = b.take (i + 1) := by
  rw [List.take_add_one, List.take_add_one, h, hx, hy]

theorem nums_at (x y : Int) (w : World) : Calls Try.prog 61 #[.int .i64 x, .int .i64 y] w fun e w' => e = .returned (.int .i64 (c3 x y)) ∧ w' = w := by
  by_cases h1 : x < y
  · have e : c3 x y = -1 := by unfold c3; rw [if_pos h1]
    rw [e]
    clear e
    go_enter Try.func61, Try.ntmps61
    go_wp2_with fail
    go_ret
    exact ⟨rfl, rfl⟩
  · by_cases h2 : y < x
    · have e : c3 x y = 1 := by unfold c3; rw [if_neg h1, if_pos h2]
      rw [e]
      clear e
      have h2' : x > y := h2
      go_enter Try.func61, Try.ntmps61
      go_wp2_with fail
      go_ret
      exact ⟨rfl, rfl⟩
    · have e : c3 x y = 0 := by unfold c3; rw [if_neg h1, if_neg h2]
      rw [e]
      clear e
      have h2' : ¬ x > y := h2
      go_enter Try.func61, Try.ntmps61
      go_wp2_with fail
      go_ret
      exact ⟨rfl, rfl⟩

theorem byte_at {s : ByteArray} {j : Nat} (h : j < s.size) : ∃ c : UInt8, s.data.toList[j]? = some c ∧ s[j] = c := by
  refine ⟨s[j], ?_, rfl⟩
  have h' : j < s.data.size := h
  rw [List.getElem?_eq_getElem (by simpa using h')]
  rfl
end Go.Proofs.Ytnkfjomnpnbidaa

namespace Go.Proofs.Ytnkfjomnpnbidaa
open Go.RowKit Go.Shelf
open Classical
set_option linter.unusedVariables false
set_option linter.unusedSimpArgs false

set_option maxRecDepth 100000 in
set_option maxHeartbeats 4000000 in
theorem texts_at (s t : ByteArray) (w : World) (hs : s.size ≤ maxLen) (ht : t.size ≤ maxLen) : Calls Try.prog 62 #[.string s, .string t] w (Gets w (.int .i64 (cB s t))) := by
  have hS : s.data.toList.length = s.size := rfl
  have hT : t.data.toList.length = t.size := rfl
  unfold maxLen at hs ht
  go_enter Try.func62, Try.ntmps62
  go_wp2_with fail
  go_loopw [5] (fun i wr => ∃ j : Nat, i = .int .i64 j ∧ j ≤ s.size ∧ j ≤ t.size ∧ Hid (s.data.toList.take j = t.data.toList.take j) ∧ Below w.heap.size w wr) (fun i _ => s.size - (intOf i).toNat)
  case atStart => exact ⟨0, rfl, Nat.zero_le _, Nat.zero_le _, rfl, Below.refl _ _⟩
  case round =>
    obtain ⟨j, rfl, hj1, hj2, HE, hB⟩ := hrel
    by_cases h1 : j < s.size
    · have h1z : (j : Int) < (s.size : Int) := by omega
      by_cases h2 : j < t.size
      · have h2z : (j : Int) < (t.size : Int) := by omega
        obtain ⟨c, hc, hg⟩ := byte_at h1
        obtain ⟨d, hd, hk⟩ := byte_at h2
        by_cases hcd : c = d
        · subst hcd
          have HT : Hid (s.data.toList.take (j + 1) = t.data.toList.take (j + 1)) := Lib.hid (take_step HE.out hc hd)
          clear hc hd
          have hne : ((c.toNat : Int) != (c.toNat : Int)) = false := by simp
          go_wp2_with fail
          go_region
          go_wp2_with fail
          go_roundw
          case rel => exact ⟨j + 1, by simp, by omega, by omega, HT.out, hB.trans (Below.refl _ _).drew⟩
          case measure => simp [intOf]; omega
        · have hne : ((c.toNat : Int) != (d.toNat : Int)) = true := by
            simp only [bne_iff_ne, ne_eq]
            intro e; exact hcd (UInt8.toNat_inj.1 (by omega))
          have HV : Hid (cB s t = c3 (c.toNat : Int) (d.toNat : Int)) := Lib.hid (cb_other HE.out hc hd hcd)
          clear hc hd
          have hn : ∀ w, Calls Try.prog 61 #[.int .i64 (IntKind.i64.wrap (c.toNat : Int)), .int .i64 (IntKind.i64.wrap (d.toNat : Int))] w fun e w' => e = .returned (.int .i64 (c3 (c.toNat : Int) (d.toNat : Int))) ∧ w' = w := fun w => by
            have hc' := c.toNat_lt
            have hd' := d.toNat_lt
            rw [show IntKind.i64.wrap (c.toNat : Int) = (c.toNat : Int) by rw [IntKind.wrap_i64]; omega, show IntKind.i64.wrap (d.toNat : Int) = (d.toNat : Int) by rw [IntKind.wrap_i64]; omega]
            exact nums_at _ _ w
          go_wp2_with fail
          go_region
          go_wp2_with fail
          · go_region_with (go_at_call 61; (with_reducible refine (hn _).mono ?_); rintro e w2 ⟨rfl, rfl⟩)
            all_goals
              go_wp2_with fail
              go_ret
              exact ⟨by rw [HV.out]; rfl, (hB.trans (Below.refl _ _).drew).trans (Below.refl _ _).drew⟩
      · have h2e : j = t.size := by omega
        have h2z : ¬ (j : Int) < (t.size : Int) := by omega
        clear h2
        have HV : Hid (cB s t = c3 (s.size : Int) (t.size : Int)) := Lib.hid (cb_end HE.out (.inr h2e) hj1 hj2)
        have hn := nums_at (s.size : Int) (t.size : Int)
        go_wp2_with (go_at_call 61; refine (hn _).mono ?_; clear hn; rintro e w2 ⟨rfl, rfl⟩)
        go_ret
        exact ⟨by rw [HV.out]; rfl, hB⟩
    · have h1e : j = s.size := by omega
      have h1z : ¬ (j : Int) < (s.size : Int) := by omega
      clear h1
      have HV : Hid (cB s t = c3 (s.size : Int) (t.size : Int)) := Lib.hid (cb_end HE.out (.inl h1e) hj1 hj2)
      have hn := nums_at (s.size : Int) (t.size : Int)
      go_wp2_with (go_at_call 61; refine (hn _).mono ?_; clear hn; rintro e w2 ⟨rfl, rfl⟩)
      go_ret
      exact ⟨by rw [HV.out]; rfl, hB⟩
end Go.Proofs.Ytnkfjomnpnbidaa

namespace Go.Proofs.Ytnkfjomnpnbidaa
open Go.RowKit Go.Shelf
set_option linter.unusedVariables false

abbrev Quad := Int × Int × ByteArray × Value
def qval (q : Quad) : Value := .agg #[.int .i64 q.1, .int .i64 q.2.1, .string q.2.2.1, q.2.2.2]
def flatQ : List Quad → List Value
  | [] => []
  | q :: r => .int .i64 q.1 :: .int .i64 q.2.1 :: .string q.2.2.1 :: q.2.2.2 :: flatQ r
theorem flatQ_length : ∀ qs, (flatQ qs).length = qs.length * 4
  | [] => rfl
  | q :: r => by simp [flatQ, flatQ_length r]; omega
theorem flatQ_append : ∀ qs rs, flatQ (qs ++ rs) = flatQ qs ++ flatQ rs
  | [], _ => rfl
  | q :: r, rs => by simp [flatQ, flatQ_append r rs]
theorem flatQ_get : ∀ (qs : List Quad) (i : Nat) (q : Quad), qs[i]? = some q → (flatQ qs)[i * 4]? = some (.int .i64 q.1) ∧ (flatQ qs)[i * 4 + 1]? = some (.int .i64 q.2.1) ∧ (flatQ qs)[i * 4 + 2]? = some (.string q.2.2.1) ∧ (flatQ qs)[i * 4 + 3]? = some q.2.2.2
  | [], i, q, h => by simp at h
  | p :: r, 0, q, h => by
    have h' : p = q := by simpa using h
    subst h'
    exact ⟨rfl, rfl, rfl, rfl⟩
  | p :: r, i + 1, q, h => by
    have := flatQ_get r i q (by simpa using h)
    have e : (i + 1) * 4 = i * 4 + 4 := by omega
    rw [e]
    exact this

/-- Each of the cells' quadruples is that term. -/
def QsOk (p : Nat → Prop) (w : World) (qs : List Quad) (ks : List Tm) : Prop :=
  qs.length = ks.length ∧ ∀ (i : Nat) (q : Quad) (t : Tm), qs[i]? = some q → ks[i]? = some t → (∃ a l c, q.2.2.2 = .slice a l c) ∧ TmIn p w (qval q) t
theorem QsOk.carry {p q : Nat → Prop} {A B : World} (h : ∀ b, p b → B.heap[b]? = A.heap[b]?) (hq : ∀ b, p b → q b) {qs : List Quad} {ks : List Tm} (ht : QsOk p A qs ks) : QsOk q B qs ks :=
  ⟨ht.1, fun i q t h1 h2 => ⟨(ht.2 i q t h1 h2).1, (ht.2 i q t h1 h2).2.carry h hq⟩⟩
theorem QsOk.append {p : Nat → Prop} {w : World} {qs rs : List Quad} {ks ls : List Tm} (h : QsOk p w qs ks) (k : QsOk p w rs ls) : QsOk p w (qs ++ rs) (ks ++ ls) := by
  refine ⟨by rw [List.length_append, List.length_append, h.1, k.1], fun i q t h1 h2 => ?_⟩
  by_cases hi : i < qs.length
  · rw [List.getElem?_append_left hi] at h1
    rw [List.getElem?_append_left (by rw [← h.1]; exact hi)] at h2
    exact h.2 i q t h1 h2
  · rw [List.getElem?_append_right (by omega)] at h1
    rw [List.getElem?_append_right (by rw [← h.1]; omega), ← h.1] at h2
    exact k.2 _ q t h1 h2
theorem flatQ_one {p : Nat → Prop} {w : World} : ∀ {qs : List Quad} {ks : List Tm}, QsOk p w qs ks → ∀ u ∈ flatQ qs, u.oneCell' = true
  | [], _, _, u, h => by simp [flatQ] at h
  | q :: r, [], h, u, hu => by have := h.1; simp at this
  | q :: r, t :: ts, h, u, hu => by
    have h0 := (h.2 0 q t rfl rfl).1
    obtain ⟨a, l, c, e⟩ := h0
    simp only [flatQ, List.mem_cons] at hu
    rcases hu with rfl | rfl | rfl | rfl | hu
    · rfl
    · rfl
    · rfl
    · rw [e]; rfl
    · exact flatQ_one (qs := r) (ks := ts) ⟨by have := h.1; simpa using this, fun i q' t' h1 h2 => h.2 (i + 1) q' t' (by simpa using h1) (by simpa using h2)⟩ u hu

/-- The cells of a list that came. -/
theorem src_quads {p : Nat → Prop} {w : World} {v : Value} {ks : List Tm} (h : TsIn p w v ks) : ∃ a cap qs, v = .slice a ks.length cap ∧ (a = none → cap = 0 ∧ ks = []) ∧ QsOk p w qs ks ∧ ∀ ad, a = some ad → ∀ j u, (flatQ qs)[j]? = some u → w.cell? (ad.add j) = some u := by
  obtain ⟨a, cap, rfl, hc, hm, ha, hx⟩ := h
  have hx' : ∀ i, i < ks.length → ∃ q : Quad, (∃ b o, a = some ⟨b, o, none⟩ ∧ w.cell? ⟨b, o + i * 4, none⟩ = some (.int .i64 q.1) ∧ w.cell? ⟨b, o + i * 4 + 1, none⟩ = some (.int .i64 q.2.1) ∧ w.cell? ⟨b, o + i * 4 + 2, none⟩ = some (.string q.2.2.1) ∧ w.cell? ⟨b, o + i * 4 + 3, none⟩ = some q.2.2.2) ∧
      (∃ a l c, q.2.2.2 = .slice a l c) ∧ ∀ t, ks[i]? = some t → TmIn p w (qval q) t := fun i hi => by
    obtain ⟨b, o, k', n', s', a', l', c', e, hb, c0, c1, c2, c3, ht⟩ := hx i hi
    refine ⟨(k', n', s', .slice a' l' c'), ⟨b, o, e, c0, c1, c2, c3⟩, ⟨a', l', c', rfl⟩, fun t h => ?_⟩
    rw [List.getElem?_eq_getElem hi] at h
    cases h
    exact ht
  have : ∃ f : Nat → Quad, ∀ i, i < ks.length → (∃ b o, a = some ⟨b, o, none⟩ ∧ w.cell? ⟨b, o + i * 4, none⟩ = some (.int .i64 (f i).1) ∧ w.cell? ⟨b, o + i * 4 + 1, none⟩ = some (.int .i64 (f i).2.1) ∧ w.cell? ⟨b, o + i * 4 + 2, none⟩ = some (.string (f i).2.2.1) ∧ w.cell? ⟨b, o + i * 4 + 3, none⟩ = some (f i).2.2.2) ∧
      (∃ a l c, (f i).2.2.2 = .slice a l c) ∧ ∀ t, ks[i]? = some t → TmIn p w (qval (f i)) t := by
    classical
    refine ⟨fun i => if hi : i < ks.length then Classical.choose (hx' i hi) else (0, 0, ByteArray.mk #[], .bool true), fun i hi => ?_⟩
    simp only [dif_pos hi]
    exact Classical.choose_spec (hx' i hi)
  obtain ⟨f, hf⟩ := this
  refine ⟨a, cap, (List.range ks.length).map f, rfl, fun e => ⟨ha e, ?_⟩, ⟨by simp, fun i q t h1 h2 => ?_⟩, ?_⟩
  · cases hk : ks with
    | nil => rfl
    | cons t ts =>
      obtain ⟨⟨b, o, e', _⟩, _⟩ := hf 0 (by rw [hk]; simp)
      rw [e] at e'; cases e'
  · have hi : i < ks.length := (List.getElem?_eq_some_iff.1 h2).1
    have e : f i = q := by simpa [hi] using h1
    subst e
    exact ⟨(hf i hi).2.1, (hf i hi).2.2 t h2⟩
  · intro ad had j u hu
    have hj : j < ks.length * 4 := by
      have := (List.getElem?_eq_some_iff.1 hu).1
      rw [flatQ_length] at this
      simpa using this
    obtain ⟨⟨b, o, e, c0, c1, c2, c3⟩, _⟩ := hf (j / 4) (by omega)
    rw [had] at e
    injection e with e
    subst e
    have ea : (Addr.add ⟨b, o, none⟩ j) = ⟨b, o + j, none⟩ := by
      by_cases e : j = 0
      · subst e; simp [Addr.add]
      · simp [Addr.add, e]
    rw [ea]
    obtain ⟨g0, g1, g2, g3⟩ := flatQ_get ((List.range ks.length).map f) (j / 4) (f (j / 4)) (by rw [List.getElem?_map, List.getElem?_range (by omega)]; rfl)
    have h4 : j % 4 = 0 ∨ j % 4 = 1 ∨ j % 4 = 2 ∨ j % 4 = 3 := by omega
    rcases h4 with m | m | m | m
    · have e : j / 4 * 4 = j := by omega
      rw [e] at c0 g0; rw [c0, ← hu, g0]
    · have e : j / 4 * 4 + 1 = j := by omega
      rw [Nat.add_assoc, e] at c1; rw [e] at g1; rw [c1, ← hu, g1]
    · have e : j / 4 * 4 + 2 = j := by omega
      rw [Nat.add_assoc, e] at c2; rw [e] at g2; rw [c2, ← hu, g2]
    · have e : j / 4 * 4 + 3 = j := by omega
      rw [Nat.add_assoc, e] at c3; rw [e] at g3; rw [c3, ← hu, g3]

def Pv (w : World) (B : Nat) (v : Value) (b : Nat) : Prop := b < w.heap.size ∧ v.ownBlock ≠ some b ∧ b ≠ B
/-- A slice that owns terms; these lie in blocks that are neither its own nor B. -/
def OwnTs (w : World) (base B : Nat) (v : Value) (ks : List Tm) : Prop := ∃ qs, w.ownsRow base 24 4 v qs.length (flatQ qs) ∧ QsOk (Pv w B v) w qs ks

theorem OwnTs.nil (w : World) (base B : Nat) : OwnTs w base B (.slice none 0 0) [] := ⟨[], World.ownsRow_nil _ _ _ _, ⟨rfl, fun i q t h => by simp at h⟩⟩
theorem OwnTs.empty (w : World) (base B : Nat) (hb : base ≤ w.heap.size) : OwnTs (w.alloc (.cells #[] 24)) base B (.slice (some ⟨w.heap.size, 0, none⟩) 0 0) [] :=
  ⟨[], ⟨rfl, Or.inr ⟨w.heap.size, 0, #[], rfl, hb, Go.Deep.blk_alloc_new _ _, Nat.le_refl _, Nat.zero_le _, rfl, rfl⟩⟩, ⟨rfl, fun i q t h => by simp at h⟩⟩
theorem OwnTs.lt {w : World} {base B : Nat} {v : Value} {ks : List Tm} (h : OwnTs w base B v ks) : ∀ k, v.ownBlock = some k → base ≤ k := fun k hk => by
  obtain ⟨qs, h1, _⟩ := h
  exact (World.ownsRow.lt h1 k hk).1
theorem OwnTs.lt2 {w : World} {base B : Nat} {v : Value} {ks : List Tm} (h : OwnTs w base B v ks) : ∀ k, v.ownBlock = some k → k < w.heap.size := fun k hk => by
  obtain ⟨qs, h1, _⟩ := h
  exact (World.ownsRow.lt h1 k hk).2
theorem OwnTs.form {w : World} {base B : Nat} {v : Value} {ks : List Tm} (h : OwnTs w base B v ks) : ∃ a c, v = .slice a ks.length c := by
  obtain ⟨qs, h1, h2⟩ := h
  rw [h2.1] at h1
  rcases h1.2 with ⟨rfl, e⟩ | ⟨g, cap, cur, rfl, _⟩
  · exact ⟨none, 0, by rw [e]⟩
  · exact ⟨_, _, rfl⟩
/-- It stays where neither its row nor what its terms lie in has turned. -/
theorem OwnTs.kept {w w' : World} {base B : Nat} {v : Value} {ks : List Tm} (h : OwnTs w base B v ks) (hs : w.heap.size ≤ w'.heap.size) (hk : ∀ b, b < w.heap.size → b ≠ B → w'.heap[b]? = w.heap[b]?) (hB : v.ownBlock ≠ some B) : OwnTs w' base B v ks := by
  obtain ⟨qs, h1, h2⟩ := h
  refine ⟨qs, ?_, h2.carry (fun b hb => hk b hb.1 hb.2.2) (fun b hb => ⟨Nat.lt_of_lt_of_le hb.1 hs, hb.2⟩)⟩
  obtain ⟨hl, ⟨h0, h1⟩ | ⟨g, cap, cur, h0, hg, hh, r⟩⟩ := h1
  · exact ⟨hl, Or.inl ⟨h0, h1⟩⟩
  · refine ⟨hl, Or.inr ⟨g, cap, cur, h0, hg, ?_, r⟩⟩
    rw [hk g (Array.getElem?_eq_some_iff.1 hh).1 (fun e => hB (by rw [h0, e]; rfl))]
    exact hh
theorem OwnTs.alloc {w : World} {base B : Nat} {v : Value} {ks : List Tm} (h : OwnTs w base B v ks) (hB : v.ownBlock ≠ some B) (o : Obj) : OwnTs (w.alloc o) base B v ks :=
  h.kept (by simp) (fun b hb _ => Below.heap_alloc w o b hb) hB
theorem OwnTs.ts {w : World} {base B : Nat} {v : Value} {ks : List Tm} (h : OwnTs w base B v ks) : TsIn (fun b => b < w.heap.size) w v ks := by
  obtain ⟨qs, h1, h2⟩ := h
  rw [h2.1] at h1
  obtain ⟨_, ⟨rfl, h0⟩ | ⟨g, cap, cur, rfl, hg, hh, hc1, hc2, hc3, hc4⟩⟩ := h1
  · obtain rfl : ks = [] := List.eq_nil_of_length_eq_zero h0
    exact noTs _ _
  · refine ⟨some ⟨g, 0, none⟩, cap, rfl, hc1, hc2, (fun h => by cases h), fun i hi => ?_⟩
    have hq : i < qs.length := by rw [h2.1]; exact hi
    obtain ⟨⟨a, l, c, e⟩, hT⟩ := h2.2 i qs[i] ks[i] (List.getElem?_eq_getElem hq) (List.getElem?_eq_getElem hi)
    obtain ⟨g0, g1, g2, g3⟩ := flatQ_get qs i qs[i] (List.getElem?_eq_getElem hq)
    have cell : ∀ j, j < ks.length * 4 → w.cell? ⟨g, j, none⟩ = (flatQ qs)[j]? := fun j hj => by
      rw [← hc4, List.getElem?_take_of_lt hj]
      simp [World.cell?, hh]
    refine ⟨g, 0, qs[i].1, qs[i].2.1, qs[i].2.2.1, a, l, c, rfl, (Array.getElem?_eq_some_iff.1 hh).1, ?_, ?_, ?_, ?_, ?_⟩
    · rw [Nat.zero_add, cell _ (by omega)]; exact g0
    · rw [Nat.zero_add, cell _ (by omega)]; exact g1
    · rw [Nat.zero_add, cell _ (by omega)]; exact g2
    · rw [Nat.zero_add, cell _ (by omega), g3, e]
    · have hT' := hT.carry (q := fun b => b < w.heap.size) (B := w) (fun _ _ => rfl) (fun b hb => hb.1)
      unfold qval at hT'
      rw [e] at hT'
      exact hT'

/-- append, run. -/
theorem run_append_ts {w : World} (ty : TypeId) (base B : Nat) (v u : Value) (ks ls : List Tm) (hown : OwnTs w base B v ks) (hsrc : TsIn (Pv w B v) w u ls) (hl : ks.length + ls.length ≤ 1000000000000) (hbase : base ≤ w.heap.size) (hB : B < w.heap.size) :
    ∃ v' w', (Builtin.append_ #[22, 22] ty #[v, u]).run Try.prog w = .ok v' w' ∧ OwnTs w' base B v' (ks ++ ls) ∧ w.grownBy w' v.ownBlock ∧ (v'.ownBlock = v.ownBlock ∨ v'.ownBlock = some w.heap.size) := by
  obtain ⟨i0, hi, hz0, hz1, hz2⟩ := info_parts infoTerm
  obtain ⟨qs, h1, h2⟩ := hown
  obtain ⟨a, cap, rs, rfl, h3, h4, h5⟩ := src_quads hsrc
  cases a with
  | none =>
    obtain ⟨rfl, rfl⟩ := h3 rfl
    refine ⟨v, w, run_append_owned_none w base 22 ty 24 i0 4 Try.underlying22 hi v qs.length (flatQ qs) h1, ⟨qs, h1, by rw [List.append_nil]; exact h2⟩, ⟨rfl, rfl, rfl, Nat.le_refl _, fun _ _ _ => rfl⟩, Or.inl rfl⟩
  | some ad =>
    have hql : qs.length = ks.length := h2.1
    have hrl : rs.length = ls.length := h4.1
    obtain ⟨v', w', hr, ho, hg, _, hat⟩ := run_append_own_at (P := Try.prog) w base 22 ty 24 i0 _ 4 56 Try.underlying22 hi hz0 hz1 hz2 rfl (by decide) v qs.length (flatQ qs) h1 ad ls.length cap (flatQ rs) (by rw [flatQ_length, hrl]) (h5 ad rfl) (flatQ_one h4) (by unfold maxLen; omega) (by omega) hbase
    refine ⟨v', w', hr, ⟨qs ++ rs, ?_, ?_⟩, hg, hat⟩
    · rw [List.length_append, flatQ_append, hrl]; exact ho
    · refine (h2.append h4).carry (fun b hb => hg.block b hb.1 (fun e => hb.2.1 e.symm)) (fun b hb => ⟨Nat.lt_of_lt_of_le hb.1 hg.size, fun e => ?_, hb.2.2⟩)
      rcases hat with hat | hat
      · exact hb.2.1 (hat.symm.trans e)
      · rw [hat] at e; injection e with e; have := hb.1; omega

/-- append, at a step of a region that draws its order. -/
theorem step_append_ts {w : World} {ops : Array Oper} {o : Oper} {a : Act} {K : Act → World → Prop} {Q : Exit → Act → World → Prop} {E : Prop} (hgd : o.guard = none) (s x : Operand)
    (ho : o.op = .call { callee := .builtin .append, args := #[s, x], argTypes := #[22, 22] })
    (base B : Nat) (v u : Value) (ks ls : List Tm) (hs : a.eval s = v) (hx : a.eval x = u) (hown : OwnTs w base B v ks) (hsrc : TsIn (Pv w B v) w u ls) (hl : ks.length + ls.length ≤ 1000000000000) (hbase : base ≤ w.heap.size) (hB : B < w.heap.size)
    (h : ∀ v' w', OwnTs w' base B v' (ks ++ ls) → w.grownBy w' v.ownBlock → (v'.ownBlock = v.ownBlock ∨ v'.ownBlock = some w.heap.size) → K (a.put o.dst v') w') :
    if Region.wanted o (yielded ops a.tmps) = true then Oper.wp Try.prog o a w K Q else E := by
  have hw : Region.wanted o (yielded ops a.tmps) = true := by simp [Region.wanted, hgd]
  rw [if_pos hw]
  obtain ⟨v', w', hr, h2, h3, h4⟩ := run_append_ts o.type base B v u ks ls hown hsrc hl hbase hB
  unfold Oper.wp execOp
  simp only [ho, resolve, invoke, builtin, Sem.run_bind, Sem.run_pure, Result.andThen_ok, List.map_toArray, List.map_cons, List.map_nil, hs, hx, hr]
  exact h v' w' h2 h3 h4

/-- Behind some steps that let all lie that lay in w5, but the last cell of a term's box. -/
structure After (w5 : World) (B : Nat) (k n : Int) (s : ByteArray) (w' : World) : Prop where
  os : w'.os = w5.os
  tape : w'.tape = w5.tape
  output : w'.output = w5.output
  size : w5.heap.size ≤ w'.heap.size
  same : ∀ b, b < w5.heap.size → b ≠ B → w'.heap[b]? = w5.heap[b]?
  box : ∃ v, w'.heap[B]? = some (.cells #[.int .i64 k, .int .i64 n, .string s, v] 24 (0, 0))
  lt : B < w5.heap.size

theorem After.drew {w5 w' : World} {B : Nat} {k n : Int} {s : ByteArray} (h : After w5 B k n s w') : After w5 B k n s w'.drew := ⟨h.os, h.tape, h.output, h.size, h.same, h.box, h.lt⟩
theorem After.grown {w5 w' w'' : World} {B : Nat} {k n : Int} {s : ByteArray} {row : Option Nat} (h : After w5 B k n s w') (hg : w'.grownBy w'' row) (hr : ∀ b, row = some b → w5.heap.size ≤ b) : After w5 B k n s w'' := by
  obtain ⟨v, hv⟩ := h.box
  have hne : ∀ b, b < w5.heap.size → some b ≠ row := fun b hb e => by have := hr b e.symm; omega
  exact ⟨hg.os.trans h.os, hg.tape.trans h.tape, hg.output.trans h.output, Nat.le_trans h.size hg.size, fun b hb hB => (hg.block b (Nat.lt_of_lt_of_le hb h.size) (hne b hb)).trans (h.same b hb hB),
    ⟨v, (hg.block B (Array.getElem?_eq_some_iff.1 hv).1 (hne B h.lt)).trans hv⟩, h.lt⟩
theorem After.alloc {w5 w' : World} {B : Nat} {k n : Int} {s : ByteArray} (h : After w5 B k n s w') (o : Obj) : After w5 B k n s (w'.alloc o) := h.grown (World.grownBy_alloc w' o none) (fun b e => by cases e)
theorem After.below {w5 w' w'' : World} {B : Nat} {k n : Int} {s : ByteArray} (h : After w5 B k n s w') (hb : Below w'.heap.size w' w'') : After w5 B k n s w'' := by
  obtain ⟨v, hv⟩ := h.box
  exact ⟨hb.os.trans h.os, hb.tape.trans h.tape, hb.output.trans h.output, Nat.le_trans h.size hb.size, fun b hb' hB => (hb.block b (Nat.lt_of_lt_of_le hb' h.size)).trans (h.same b hb' hB),
    ⟨v, (hb.block B (Array.getElem?_eq_some_iff.1 hv).1).trans hv⟩, h.lt⟩
theorem After.set {w5 w' : World} {B : Nat} {k n : Int} {s : ByteArray} (h : After w5 B k n s w') (u : Value) : After w5 B k n s (w'.setCell ⟨B, 3, none⟩ u) := by
  obtain ⟨v, hv⟩ := h.box
  exact ⟨h.os, h.tape, h.output, by simpa using h.size, fun b hb hB => (Below.heap_setCell w' ⟨B, 3, none⟩ u b hB).trans (h.same b hb hB), ⟨u, set_block (o := 3) hv u⟩, h.lt⟩
theorem After.isBelow {w5 w' : World} {B : Nat} {k n : Int} {s : ByteArray} (h : After w5 B k n s w') {m : Nat} (hm : m ≤ B) : Below m w5 w' :=
  ⟨h.os, h.tape, h.output, h.size, fun b hb => h.same b (by have := h.lt; omega) (by omega)⟩
theorem After.cell {w5 w' : World} {B : Nat} {k n : Int} {s : ByteArray} (h : After w5 B k n s w') {b o : Nat} {v : Value} (hc : w5.cell? ⟨b, o, none⟩ = some v) (hB : b ≠ B) : w'.cell? ⟨b, o, none⟩ = some v := by
  have hlt : b < w5.heap.size := by
    unfold World.cell? at hc
    split at hc
    · rename_i hb; exact (Array.getElem?_eq_some_iff.1 hb).1
    · cases hc
  rw [World.cell?_of_block (w := w5) (a := ⟨b, o, none⟩) (h.same b hlt hB)]
  exact hc
theorem After.some {w5 w' : World} {B : Nat} {k n : Int} {s : ByteArray} (h : After w5 B k n s w') : w'.cell? ⟨B, 3, none⟩ = some ((w'.cell? ⟨B, 3, none⟩).getD undef) ∧ w'.frozen? ⟨B, 3, none⟩ = false := by
  obtain ⟨v, hv⟩ := h.box
  constructor
  · simp [World.cell?, hv]
  · simp [World.frozen?, hv]

end Go.Proofs.Ytnkfjomnpnbidaa

namespace Go.Proofs.Ytnkfjomnpnbidaa
open Go.RowKit Go.Shelf
open Classical
set_option linter.unusedVariables false

theorem has_ok {w : World} {k n : Int} {s : ByteArray} {v : Value} {T : Tm} (h : Has w (.agg #[.int .i64 k, .int .i64 n, .string s, v]) T) : i64ok k ∧ i64ok n ∧ s.size ≤ maxLen := by
  obtain ⟨_, _, _, _, _, _, _, e1, _, _, hki, hni, hsi, _⟩ := h.form
  simp only [Value.agg.injEq, Array.mk.injEq, List.cons.injEq, Value.int.injEq, Value.string.injEq, true_and, and_true] at e1
  obtain ⟨rfl, rfl, rfl, _⟩ := e1
  exact ⟨hki, hni, hsi⟩

theorem set_inv {W : World} {B : Nat} {a b c v u : Value} {t : TypeId} {z : Nat × Nat} (h : (W.setCell ⟨B, 3, none⟩ u).heap[B]? = some (.cells #[a, b, c, v] t z)) : v = u := by
  have hlt : B < W.heap.size := by have := (Array.getElem?_eq_some_iff.1 h).1; simpa using this
  have hW : W.heap[B]? = some W.heap[B] := Array.getElem?_eq_getElem hlt
  have hm : (W.setCell ⟨B, 3, none⟩ u).heap[B]? = some (match W.heap[B] with | .cells c elem frozen => .cells (c.setIfInBounds 3 u) elem frozen | o => o) := by
    show (W.heap.modify B _)[B]? = _
    rw [Array.getElem?_eq_getElem (by rw [Array.size_modify]; exact hlt), Array.getElem_modify_self]
    rfl
  rw [hm] at h
  cases ho : W.heap[B] with
  | cells cur e f =>
    rw [ho] at h
    simp only [Option.some.injEq, Obj.cells.injEq] at h
    have h3 := congrArg (fun x : Array Value => x[3]?) h.1
    have hs := congrArg Array.size h.1
    simp at hs
    simp [hs] at h3
    exact h3.symm
  | _ => rw [ho] at h; simp at h

theorem cell_al {W : World} {a : Addr} {v : Value} (o : Obj) (h : W.cell? a = some v) : (W.alloc o).cell? a = some v := cell_kept h (World.grownBy_alloc W o none) (fun r e => by cases e)

end Go.Proofs.Ytnkfjomnpnbidaa
