/-
  Slices of pairs that a law makes for itself by appending.
-/
import Derived.Test.YtfjnajngelemkaaZLatn3
import Derived.Laws.AppendOwnNone
import Derived.Deep.Heap
import Derived.Test.YtfjnajngelemkaaZStoQn4
import Derived.Deep.RegionHeld3
namespace Go.Proofs.Ytfjnajngelemkaa
open Go.RowKit

theorem Try.infoPair : (Try.prog.info? 72).map (fun i => (i.zero, i.size, i.bytes)) = some (some (.agg #[.int .i64 0, .int .i64 0]), 2, 16) := by kernel_rfl

/-- The cells of pairs. -/
def flat : List (Int × Int) → List Value
  | [] => []
  | p :: r => .int .i64 p.1 :: .int .i64 p.2 :: flat r

theorem flat_length : ∀ ps, (flat ps).length = ps.length * 2
  | [] => rfl
  | p :: r => by simp [flat, flat_length r]; omega
theorem flat_append : ∀ ps qs, flat (ps ++ qs) = flat ps ++ flat qs
  | [], _ => rfl
  | p :: r, qs => by simp [flat, flat_append r qs]
theorem flat_get : ∀ (ps : List (Int × Int)) (i : Nat) (h : i < ps.length), (flat ps)[i * 2]? = some (.int .i64 (ps[i]).1) ∧ (flat ps)[i * 2 + 1]? = some (.int .i64 (ps[i]).2)
  | [], i, h => by simp at h
  | p :: r, 0, _ => by simp [flat]
  | p :: r, i + 1, h => by
    have := flat_get r i (by simpa using h)
    have e : (i + 1) * 2 = i * 2 + 2 := by omega
    rw [e]; simpa [flat] using this

/-- A slice that owns pairs. -/
def OwnPairs (w : World) (base : Nat) (v : Value) (ps : List (Int × Int)) : Prop := w.ownsRow base 72 2 v ps.length (flat ps)

theorem OwnPairs.pairs {w : World} {base : Nat} {v : Value} {ps : List (Int × Int)} (h : OwnPairs w base v ps) : ∃ a cap, v = .slice a ps.length cap ∧ ps.length ≤ cap ∧ cap ≤ maxLen ∧ (a = none → cap = 0) ∧ PairsAt w a ps := by
  obtain ⟨_, ⟨rfl, h0⟩ | ⟨g, cap, cur, rfl, hg, hh, h1, h2, h3, h4⟩⟩ := h
  · refine ⟨none, 0, by rw [h0], by omega, Nat.zero_le _, fun _ => rfl, fun i hi => by omega⟩
  · refine ⟨some ⟨g, 0, none⟩, cap, rfl, h1, h2, (fun h => by cases h), fun i hi => ?_⟩
    have hlt : g < w.heap.size := (Array.getElem?_eq_some_iff.1 hh).1
    have e : ∀ j, j < ps.length * 2 → w.cell? ⟨g, 0 + j, none⟩ = (flat ps)[j]? := fun j hj => by
      rw [← h4, List.getElem?_take_of_lt hj]
      simp [World.cell?, hh]
    obtain ⟨f0, f1⟩ := flat_get ps i hi
    exact ⟨g, 0, rfl, hlt, by rw [e _ (by omega)]; exact f0, by rw [Nat.add_assoc, e _ (by omega)]; exact f1⟩

theorem OwnPairs.nil (w : World) (base : Nat) : OwnPairs w base (.slice none 0 0) [] := World.ownsRow_nil w base _ _
theorem OwnPairs.alloc {w : World} {base : Nat} {v : Value} {ps : List (Int × Int)} (h : OwnPairs w base v ps) (o : Obj) : OwnPairs (w.alloc o) base v ps := World.ownsRow.alloc h o
theorem OwnPairs.below {w w' : World} {base : Nat} {v : Value} {ps : List (Int × Int)} (h : OwnPairs w base v ps) (k : Below w.heap.size w w') : OwnPairs w' base v ps := by
  obtain ⟨hl, ⟨h0, h1⟩ | ⟨g, cap, cur, h0, hg, hh, r⟩⟩ := h
  · exact ⟨hl, Or.inl ⟨h0, h1⟩⟩
  · exact ⟨hl, Or.inr ⟨g, cap, cur, h0, hg, by rw [k.block g (Array.getElem?_eq_some_iff.1 hh).1]; exact hh, r⟩⟩
theorem OwnPairs.more {w : World} {base : Nat} {v : Value} {ps qs : List (Int × Int)} {n : Nat} {xs : List Value} (h : w.ownsRow base 72 2 v n xs) (hn : n = (ps ++ qs).length) (hx : xs = flat (ps ++ qs)) : OwnPairs w base v (ps ++ qs) := by
  subst hn hx; exact h
theorem OwnPairs.lt {w : World} {base : Nat} {v : Value} {ps : List (Int × Int)} (h : OwnPairs w base v ps) : ∀ k, v.ownBlock = some k → base ≤ k := fun k hk => (World.ownsRow.lt h k hk).1

theorem flat_cell {w : World} {a : Addr} {ps : List (Int × Int)} (h : PairsAt w (some a) ps) (j : Nat) (u : Value) (hu : (flat ps)[j]? = some u) : w.cell? (a.add j) = some u := by
  have hj : j < ps.length * 2 := by rw [← flat_length]; exact (List.getElem?_eq_some_iff.1 hu).1
  obtain ⟨pb, po, e, _, h0, h1⟩ := h (j / 2) (by omega)
  obtain ⟨f0, f1⟩ := flat_get ps (j / 2) (by omega)
  injection e with e
  subst e
  have ea : (Addr.add ⟨pb, po, none⟩ j) = ⟨pb, po + j, none⟩ := by
    by_cases e : j = 0
    · subst e; simp [Addr.add]
    · simp [Addr.add, e]
  rw [ea]
  rcases Nat.mod_two_eq_zero_or_one j with m | m
  · have ej : j / 2 * 2 = j := by omega
    rw [ej] at h0 f0
    rw [h0, ← hu, f0]
  · have ej : j / 2 * 2 + 1 = j := by omega
    rw [Nat.add_assoc, ej] at h1
    rw [ej] at f1
    rw [h1, ← hu, f1]
theorem flat_one : ∀ (ps : List (Int × Int)) (u : Value), u ∈ flat ps → u.oneCell' = true
  | [], _, h => by simp [flat] at h
  | p :: r, u, h => by
    simp only [flat, List.mem_cons] at h
    rcases h with rfl | rfl | h
    · rfl
    · rfl
    · exact flat_one r u h

/-- append onto pairs of one's own, of pairs wherever they lie. -/
theorem wpList_append_pairs {w : World} {ops : Array Oper} {rest : List Oper} {o : Oper} {a : Act} {Q : Exit → Act → World → Prop} (hgd : o.guard = none) (s x : Operand)
    (ho : o.op = .call { callee := .builtin .append, args := #[s, x], argTypes := #[30, 30] })
    (base : Nat) (v : Value) (ps : List (Int × Int)) (hs : a.eval s = v) (hown : OwnPairs w base v ps)
    (sa : Option Addr) (c : Nat) (qs : List (Int × Int)) (n : Nat) (hx : a.eval x = .slice sa n c) (hn : n = qs.length) (hq : PairsAt w sa qs) (hc : sa = none → c = 0)
    (hl : ps.length + qs.length ≤ 1000000) (hbase : base ≤ w.heap.size)
    (h : ∀ v' w', OwnPairs w' base v' (ps ++ qs) → w.grownBy w' v.ownBlock → wpList Try.prog ops Q rest (a.put o.dst v') w') : wpList Try.prog ops Q (o :: rest) a w := by
  subst hn
  obtain ⟨i0, hi, hz0, hz1, hz2⟩ := info_parts Try.infoPair
  cases sa with
  | none =>
    obtain rfl : qs = [] := by
      cases qs with
      | nil => rfl
      | cons p r => obtain ⟨_, _, e, _⟩ := hq 0 (by simp); cases e
    rw [hc rfl] at hx
    refine wpList_append_own_none hgd s x 30 ho base 72 i0 2 Try.underlying30 hi v ps.length (flat ps) hs hown hx ?_
    exact h v w (by rw [List.append_nil]; exact hown) ⟨rfl, rfl, rfl, Nat.le_refl _, fun _ _ _ => rfl⟩
  | some ad =>
    refine wpList_append_own _ hgd s x 30 ho base 72 i0 (.agg #[.int .i64 0, .int .i64 0]) 2 16 Try.underlying30 hi hz0 hz1 hz2 rfl (by decide) v ps.length (flat ps) hs hown ad qs.length c (flat qs) hx (flat_length qs) (flat_cell hq) (flat_one qs) (by unfold maxLen; omega) (by omega) hbase ?_
    intro v' w' h1 h2 _
    exact h v' w' (by unfold OwnPairs; rw [List.length_append, flat_append]; exact h1) h2

/-- A slice of pairs that is written out where it stands. -/
theorem PairsAt.lit1 (w : World) (x y : Int) : PairsAt (w.alloc (.cells #[.int .i64 x, .int .i64 y] 72)) (some ⟨w.heap.size, 0, none⟩) [(x, y)] := fun i hi => by
  have : i = 0 := by simpa using hi
  subst this
  refine ⟨w.heap.size, 0, rfl, by simp, ?_⟩
  rw [World.cell?_alloc_new, World.cell?_alloc_new]
  exact ⟨rfl, rfl⟩
theorem PairsAt.lit2 (w : World) (x y z u : Int) : PairsAt (w.alloc (.cells #[.int .i64 x, .int .i64 y, .int .i64 z, .int .i64 u] 72)) (some ⟨w.heap.size, 0, none⟩) [(x, y), (z, u)] := fun i hi => by
  have : i = 0 ∨ i = 1 := by simp at hi; omega
  rcases this with rfl | rfl
  · refine ⟨w.heap.size, 0, rfl, by simp, ?_⟩
    rw [World.cell?_alloc_new, World.cell?_alloc_new]
    exact ⟨rfl, rfl⟩
  · refine ⟨w.heap.size, 0, rfl, by simp, ?_⟩
    rw [World.cell?_alloc_new, World.cell?_alloc_new]
    exact ⟨rfl, rfl⟩
/-- An empty slice of one's own. -/
theorem OwnPairs.empty (w : World) (base : Nat) (hb : base ≤ w.heap.size) : OwnPairs (w.alloc (.cells #[] 72)) base (.slice (some ⟨w.heap.size, 0, none⟩) 0 0) [] :=
  ⟨rfl, Or.inr ⟨w.heap.size, 0, #[], rfl, hb, Go.Deep.blk_alloc_new _ _, Nat.le_refl _, Nat.zero_le _, rfl, rfl⟩⟩

end Go.Proofs.Ytfjnajngelemkaa

namespace Go.Proofs.Ytfjnajngelemkaa
open Go.RowKit

def chain : Nat → List (Int × Int)
  | 0 => []
  | j + 1 => chain j ++ [((j : Int), (j : Int) + 1)]

theorem chain_length : ∀ j, (chain j).length = j
  | 0 => rfl
  | j + 1 => by simp [chain, chain_length j]
theorem tab_chain (a b : Nat) : ∀ j, tab (chain j) a b = true ↔ a < j ∧ b = a + 1
  | 0 => by simp [chain, tab]
  | j + 1 => by
    have := tab_chain a b j
    simp only [tab] at this
    simp only [chain, tab, List.any_append, Bool.or_eq_true, this]
    simp
    omega
theorem good_chain (n : Nat) : ∀ j, j < n → goodB n (chain j) = true
  | 0, _ => rfl
  | j + 1, h => by
    have := good_chain n j (by omega)
    simp only [goodB] at this
    simp only [chain, goodB, List.all_append, this]
    simp [hasB]; omega

theorem chain_star (n j : Nat) (ps : List (Int × Int)) (hj : j < n) (hps : ∀ a b, a < j → b = a + 1 → tab ps a b = true) : ∀ d a, a + d ≤ j → Star (Rel n (tab ps)) a (a + d)
  | 0, a, _ => .refl a
  | d + 1, a, h => by
    have := chain_star n j ps hj hps d (a + 1) (by omega)
    rw [show a + 1 + d = a + (d + 1) by omega] at this
    exact .head ⟨by omega, by omega, hps a (a + 1) (by omega) rfl⟩ this

theorem chain_iff {k : Nat} {U D : Nat → Nat → Bool} (h : IsTab (k + 1) (chain k) U D) (a b : Nat) (ha : a < k + 1) (hb : b < k + 1) : U a b = true ↔ a ≤ b := by
  refine h.eq (fun a b => a ≤ b) (fun a _ => Nat.le_refl a) (fun a _ b _ c _ h1 h2 => Nat.le_trans h1 h2) (fun a _ b _ h => by rw [tab_chain] at h; omega) (fun a b ha hb h => ?_) a b ha hb
  have := chain_star (k + 1) k (chain k) (by omega) (fun a b h1 h2 => (tab_chain a b k).2 ⟨h1, h2⟩) (b - a) a (by omega)
  rw [show a + (b - a) = b by omega] at this
  exact this

theorem chain_lat {k : Nat} (hk : k < 16) {U D : Nat → Nat → Bool} (h : IsTab (k + 1) (chain k) U D) : IsLat (k + 1) U := by
  have e := chain_iff h
  refine ⟨by omega, by omega, h.within, h.refl, fun a b c ha hb hc h1 h2 => h.trans a b ha hb h1 c (by omega) h2, fun a b ha hb h1 h2 => ?_, fun a b ha hb => ?_, fun a b ha hb => ?_⟩
  · rw [e a b ha hb] at h1; rw [e b a hb ha] at h2; omega
  · by_cases c : a ≤ b
    · exact ⟨b, hb, (e a b ha hb).2 c, h.refl b hb, fun d hd _ h4 => h4⟩
    · exact ⟨a, ha, h.refl a ha, (e b a hb ha).2 (by omega), fun d hd h3 _ => h3⟩
  · by_cases c : a ≤ b
    · exact ⟨a, ha, h.refl a ha, (e a b ha hb).2 c, fun d hd h3 _ => h3⟩
    · exact ⟨b, hb, (e b a hb ha).2 (by omega), h.refl b hb, fun d hd _ h4 => h4⟩

theorem chain_made {w : World} {k b : Nat} {U D : Nat → Nat → Bool} (hk : k < 16) (M : Made w (k + 1) (chain k) b U D) : ChainAt w b (k + 1) := by
  have e := chain_iff M.tab
  have L := M.lat
  refine ⟨M.lt, by omega, by omega, U, D, M.at_, fun x y hx hy => ?_, fun x y hx hy => ?_, fun x y hx hy => ?_, ?_, ?_⟩
  · rw [leqB_in hx hy, Bool.eq_iff_iff, decide_eq_true_iff]; exact e x y hx hy
  · refine M.join hx hy ⟨by omega, (e x _ hx (by omega)).2 (by omega), (e y _ hy (by omega)).2 (by omega), fun d hd h1 h2 => ?_⟩
    rw [e x d hx hd] at h1
    rw [e y d hy hd] at h2
    exact (e _ d (by omega) hd).2 (by omega)
  · refine M.meet hx hy ⟨by omega, (e _ x (by omega) hx).2 (by omega), (e _ y (by omega) hy).2 (by omega), fun d hd h1 h2 => ?_⟩
    rw [e d x hd hx] at h1
    rw [e d y hd hy] at h2
    exact (e d _ hd (by omega)).2 (by omega)
  · exact bottom_eq L (c := 0) (by omega) fun i hi => (e 0 i (by omega) hi).2 (by omega)
  · exact top_eq L M.tab.down (c := k + 1 - 1) (by omega) fun i hi => (e i _ hi (by omega)).2 (by omega)

end Go.Proofs.Ytfjnajngelemkaa

namespace Go.Proofs.Ytfjnajngelemkaa
open Go.RowKit Go.Shelf
set_option linter.unusedVariables false

theorem deeps_app : ∀ xs ys : List Tm, Tm.deeps (xs ++ ys) = max (Tm.deeps xs) (Tm.deeps ys)
  | [], ys => by simp [Tm.deeps_nil]
  | x :: xs, ys => by rw [List.cons_append, Tm.deeps_cons, Tm.deeps_cons, deeps_app xs ys]; omega
theorem take_succ_deeps' (ks : List Tm) (i : Nat) (t : Tm) (h : ks[i]? = some t) : Tm.deeps (ks.take (i + 1)) = max (Tm.deeps (ks.take i)) t.deep := by
  rw [List.take_add_one, h, deeps_app]; simp [Tm.deeps_cons, Tm.deeps_nil]

/-- append, run, at numbers. -/
theorem run_append_ints {w : World} (ty : TypeId) (base : Nat) (v u : Value) (l r : List Int) (hown : OwnInts w base v l) (hr : IntsAt w u r) (hl : l.length + r.length ≤ 1000000000000) (hbase : base ≤ w.heap.size) :
    ∃ v' w', (Builtin.append_ #[75, 75] ty #[v, u]).run Try.prog w = .ok v' w' ∧ OwnInts w' base v' (l ++ r) ∧ w.grownBy w' v.ownBlock ∧ (v'.ownBlock = v.ownBlock ∨ v'.ownBlock = some w.heap.size) := by
  obtain ⟨i0, hi, hz0, hz1, hz2⟩ := info_parts infoInt
  obtain ⟨sa, c, rfl, h1, h2, h3, h4⟩ := hr
  cases sa with
  | none =>
    obtain rfl : r = [] := by
      cases r with
      | nil => rfl
      | cons p r => obtain ⟨_, _, e, _⟩ := h4 0 (by simp); cases e
    rw [h3 rfl]
    exact ⟨v, w, run_append_owned_none w base 75 ty 3 i0 1 Try.underlying75 hi v l.length (l.map (Value.int .i64)) hown, by rw [List.append_nil]; exact hown, ⟨rfl, rfl, rfl, Nat.le_refl _, fun _ _ _ => rfl⟩, Or.inl rfl⟩
  | some ad =>
    obtain ⟨v', w', hr, ho, hg, _, hat⟩ := run_append_own_at (P := Try.prog) w base 75 ty 3 i0 (.int .i64 0) 1 8 Try.underlying75 hi hz0 hz1 hz2 rfl (by decide) v l.length (l.map (Value.int .i64)) hown ad r.length c (r.map (Value.int .i64)) (by simp) (ints_cell h4) (by simp [Value.oneCell']) (by unfold maxLen; omega) (by omega) hbase
    exact ⟨v', w', hr, by unfold OwnInts; rw [List.length_append, List.map_append]; exact ho, hg, hat⟩
theorem step_append_ints {w : World} {ops : Array Oper} {o : Oper} {a : Act} {K : Act → World → Prop} {Q : Exit → Act → World → Prop} {E : Prop} (hgd : o.guard = none) (s x : Operand)
    (ho : o.op = .call { callee := .builtin .append, args := #[s, x], argTypes := #[75, 75] })
    (base : Nat) (v u : Value) (l r : List Int) (hs : a.eval s = v) (hx : a.eval x = u) (hown : OwnInts w base v l) (hsrc : IntsAt w u r) (hl : l.length + r.length ≤ 1000000000000) (hbase : base ≤ w.heap.size)
    (h : ∀ v' w', OwnInts w' base v' (l ++ r) → w.grownBy w' v.ownBlock → (v'.ownBlock = v.ownBlock ∨ v'.ownBlock = some w.heap.size) → K (a.put o.dst v') w') :
    if Region.wanted o (yielded ops a.tmps) = true then Oper.wp Try.prog o a w K Q else E := by
  have hw : Region.wanted o (yielded ops a.tmps) = true := by simp [Region.wanted, hgd]
  rw [if_pos hw]
  obtain ⟨v', w', hr, h2, h3, h4⟩ := run_append_ints o.type base v u l r hown hsrc hl hbase
  unfold Oper.wp execOp
  simp only [ho, resolve, invoke, builtin, Sem.run_bind, Sem.run_pure, Result.andThen_ok, List.map_toArray, List.map_cons, List.map_nil, hs, hx, hr]
  exact h v' w' h2 h3 h4

end Go.Proofs.Ytfjnajngelemkaa
