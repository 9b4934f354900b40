/-
  Lists of terms that are made by appending.
-/
import Derived.Test.YtlnggaepmclbkaaZVarsn3
import Derived.Test.YtlnggaepmclbkaaZShiftn2
import Derived.Laws.AppendOwnNone
import Derived.Deep.Heap
import Derived.Deep.RegionHeld3
import Derived.Test.YtlnggaepmclbkaaZStoG
import Derived.BigQuiet
import Derived.Deep.LoopGhost
namespace Go.Proofs.Ytlnggaepmclbkaa
open Go.RowKit Go.Shelf
set_option linter.unusedVariables false

abbrev Quad := Int × Int × ByteArray × Value
def qval (q : Quad) : Value := .agg #[.int .i64 q.1, .int .i64 q.2.1, .string q.2.2.1, q.2.2.2]
def flatQ : List Quad → List Value
  | [] => []
  | q :: r => .int .i64 q.1 :: .int .i64 q.2.1 :: .string q.2.2.1 :: q.2.2.2 :: flatQ r
theorem flatQ_length : ∀ qs, (flatQ qs).length = qs.length * 4
  | [] => rfl
  | q :: r => by simp [flatQ, flatQ_length r]; omega
theorem flatQ_append : ∀ qs rs, flatQ (qs ++ rs) = flatQ qs ++ flatQ rs
  | [], _ => rfl
  | q :: r, rs => by simp [flatQ, flatQ_append r rs]
theorem flatQ_get : ∀ (qs : List Quad) (i : Nat) (q : Quad), qs[i]? = some q → (flatQ qs)[i * 4]? = some (.int .i64 q.1) ∧ (flatQ qs)[i * 4 + 1]? = some (.int .i64 q.2.1) ∧ (flatQ qs)[i * 4 + 2]? = some (.string q.2.2.1) ∧ (flatQ qs)[i * 4 + 3]? = some q.2.2.2
  | [], i, q, h => by simp at h
  | p :: r, 0, q, h => by
    have h' : p = q := by simpa using h
    subst h'
    exact ⟨rfl, rfl, rfl, rfl⟩
  | p :: r, i + 1, q, h => by
    have := flatQ_get r i q (by simpa using h)
    have e : (i + 1) * 4 = i * 4 + 4 := by omega
    rw [e]
    exact this

/-- Each of the cells' quadruples is that term. -/
def QsOk (p : Nat → Prop) (w : World) (qs : List Quad) (ks : List Tm) : Prop :=
  qs.length = ks.length ∧ ∀ (i : Nat) (q : Quad) (t : Tm), qs[i]? = some q → ks[i]? = some t → (∃ a l c, q.2.2.2 = .slice a l c) ∧ TmIn p w (qval q) t
theorem QsOk.carry {p q : Nat → Prop} {A B : World} (h : ∀ b, p b → B.heap[b]? = A.heap[b]?) (hq : ∀ b, p b → q b) {qs : List Quad} {ks : List Tm} (ht : QsOk p A qs ks) : QsOk q B qs ks :=
  ⟨ht.1, fun i q t h1 h2 => ⟨(ht.2 i q t h1 h2).1, (ht.2 i q t h1 h2).2.carry h hq⟩⟩
theorem QsOk.append {p : Nat → Prop} {w : World} {qs rs : List Quad} {ks ls : List Tm} (h : QsOk p w qs ks) (k : QsOk p w rs ls) : QsOk p w (qs ++ rs) (ks ++ ls) := by
  refine ⟨by rw [List.length_append, List.length_append, h.1, k.1], fun i q t h1 h2 => ?_⟩
  by_cases hi : i < qs.length
  · rw [List.getElem?_append_left hi] at h1
    rw [List.getElem?_append_left (by rw [← h.1]; exact hi)] at h2
    exact h.2 i q t h1 h2
  · rw [List.getElem?_append_right (by omega)] at h1
    rw [List.getElem?_append_right (by rw [← h.1]; omega), ← h.1] at h2
    exact k.2 _ q t h1 h2
theorem flatQ_one {p : Nat → Prop} {w : World} : ∀ {qs : List Quad} {ks : List Tm}, QsOk p w qs ks → ∀ u ∈ flatQ qs, u.oneCell' = true
  | [], _, _, u, h => by simp [flatQ] at h
  | q :: r, [], h, u, hu => by have := h.1; simp at this
  | q :: r, t :: ts, h, u, hu => by
    have h0 := (h.2 0 q t rfl rfl).1
    obtain ⟨a, l, c, e⟩ := h0
    simp only [flatQ, List.mem_cons] at hu
    rcases hu with rfl | rfl | rfl | rfl | hu
    · rfl
    · rfl
    · rfl
    · rw [e]; rfl
    · exact flatQ_one (qs := r) (ks := ts) ⟨by have := h.1; simpa using this, fun i q' t' h1 h2 => h.2 (i + 1) q' t' (by simpa using h1) (by simpa using h2)⟩ u hu

/-- The cells of a list that came. -/
theorem src_quads {p : Nat → Prop} {w : World} {v : Value} {ks : List Tm} (h : TsIn p w v ks) : ∃ a cap qs, v = .slice a ks.length cap ∧ (a = none → cap = 0 ∧ ks = []) ∧ QsOk p w qs ks ∧ ∀ ad, a = some ad → ∀ j u, (flatQ qs)[j]? = some u → w.cell? (ad.add j) = some u := by
  obtain ⟨a, cap, rfl, hc, hm, ha, hx⟩ := h
  have hx' : ∀ i, i < ks.length → ∃ q : Quad, (∃ b o, a = some ⟨b, o, none⟩ ∧ w.cell? ⟨b, o + i * 4, none⟩ = some (.int .i64 q.1) ∧ w.cell? ⟨b, o + i * 4 + 1, none⟩ = some (.int .i64 q.2.1) ∧ w.cell? ⟨b, o + i * 4 + 2, none⟩ = some (.string q.2.2.1) ∧ w.cell? ⟨b, o + i * 4 + 3, none⟩ = some q.2.2.2) ∧
      (∃ a l c, q.2.2.2 = .slice a l c) ∧ ∀ t, ks[i]? = some t → TmIn p w (qval q) t := fun i hi => by
    obtain ⟨b, o, k', n', s', a', l', c', e, hb, c0, c1, c2, c3, ht⟩ := hx i hi
    refine ⟨(k', n', s', .slice a' l' c'), ⟨b, o, e, c0, c1, c2, c3⟩, ⟨a', l', c', rfl⟩, fun t h => ?_⟩
    rw [List.getElem?_eq_getElem hi] at h
    cases h
    exact ht
  have : ∃ f : Nat → Quad, ∀ i, i < ks.length → (∃ b o, a = some ⟨b, o, none⟩ ∧ w.cell? ⟨b, o + i * 4, none⟩ = some (.int .i64 (f i).1) ∧ w.cell? ⟨b, o + i * 4 + 1, none⟩ = some (.int .i64 (f i).2.1) ∧ w.cell? ⟨b, o + i * 4 + 2, none⟩ = some (.string (f i).2.2.1) ∧ w.cell? ⟨b, o + i * 4 + 3, none⟩ = some (f i).2.2.2) ∧
      (∃ a l c, (f i).2.2.2 = .slice a l c) ∧ ∀ t, ks[i]? = some t → TmIn p w (qval (f i)) t := by
    classical
    refine ⟨fun i => if hi : i < ks.length then Classical.choose (hx' i hi) else (0, 0, ByteArray.mk #[], .bool true), fun i hi => ?_⟩
    simp only [dif_pos hi]
    exact Classical.choose_spec (hx' i hi)
  obtain ⟨f, hf⟩ := this
  refine ⟨a, cap, (List.range ks.length).map f, rfl, fun e => ⟨ha e, ?_⟩, ⟨by simp, fun i q t h1 h2 => ?_⟩, ?_⟩
  · cases hk : ks with
    | nil => rfl
    | cons t ts =>
      obtain ⟨⟨b, o, e', _⟩, _⟩ := hf 0 (by rw [hk]; simp)
      rw [e] at e'; cases e'
  · have hi : i < ks.length := (List.getElem?_eq_some_iff.1 h2).1
    have e : f i = q := by simpa [hi] using h1
    subst e
    exact ⟨(hf i hi).2.1, (hf i hi).2.2 t h2⟩
  · intro ad had j u hu
    have hj : j < ks.length * 4 := by
      have := (List.getElem?_eq_some_iff.1 hu).1
      rw [flatQ_length] at this
      simpa using this
    obtain ⟨⟨b, o, e, c0, c1, c2, c3⟩, _⟩ := hf (j / 4) (by omega)
    rw [had] at e
    injection e with e
    subst e
    have ea : (Addr.add ⟨b, o, none⟩ j) = ⟨b, o + j, none⟩ := by
      by_cases e : j = 0
      · subst e; simp [Addr.add]
      · simp [Addr.add, e]
    rw [ea]
    obtain ⟨g0, g1, g2, g3⟩ := flatQ_get ((List.range ks.length).map f) (j / 4) (f (j / 4)) (by rw [List.getElem?_map, List.getElem?_range (by omega)]; rfl)
    have h4 : j % 4 = 0 ∨ j % 4 = 1 ∨ j % 4 = 2 ∨ j % 4 = 3 := by omega
    rcases h4 with m | m | m | m
    · have e : j / 4 * 4 = j := by omega
      rw [e] at c0 g0; rw [c0, ← hu, g0]
    · have e : j / 4 * 4 + 1 = j := by omega
      rw [Nat.add_assoc, e] at c1; rw [e] at g1; rw [c1, ← hu, g1]
    · have e : j / 4 * 4 + 2 = j := by omega
      rw [Nat.add_assoc, e] at c2; rw [e] at g2; rw [c2, ← hu, g2]
    · have e : j / 4 * 4 + 3 = j := by omega
      rw [Nat.add_assoc, e] at c3; rw [e] at g3; rw [c3, ← hu, g3]

def Pv (w : World) (B : Nat) (v : Value) (b : Nat) : Prop := b < w.heap.size ∧ v.ownBlock ≠ some b ∧ b ≠ B
/-- A slice that owns terms; these lie in blocks that are neither its own nor B. -/
def OwnTs (w : World) (base B : Nat) (v : Value) (ks : List Tm) : Prop := ∃ qs, w.ownsRow base 24 4 v qs.length (flatQ qs) ∧ QsOk (Pv w B v) w qs ks

theorem OwnTs.nil (w : World) (base B : Nat) : OwnTs w base B (.slice none 0 0) [] := ⟨[], World.ownsRow_nil _ _ _ _, ⟨rfl, fun i q t h => by simp at h⟩⟩
theorem OwnTs.empty (w : World) (base B : Nat) (hb : base ≤ w.heap.size) : OwnTs (w.alloc (.cells #[] 24)) base B (.slice (some ⟨w.heap.size, 0, none⟩) 0 0) [] :=
  ⟨[], ⟨rfl, Or.inr ⟨w.heap.size, 0, #[], rfl, hb, Go.Deep.blk_alloc_new _ _, Nat.le_refl _, Nat.zero_le _, rfl, rfl⟩⟩, ⟨rfl, fun i q t h => by simp at h⟩⟩
theorem OwnTs.lt {w : World} {base B : Nat} {v : Value} {ks : List Tm} (h : OwnTs w base B v ks) : ∀ k, v.ownBlock = some k → base ≤ k := fun k hk => by
  obtain ⟨qs, h1, _⟩ := h
  exact (World.ownsRow.lt h1 k hk).1
theorem OwnTs.lt2 {w : World} {base B : Nat} {v : Value} {ks : List Tm} (h : OwnTs w base B v ks) : ∀ k, v.ownBlock = some k → k < w.heap.size := fun k hk => by
  obtain ⟨qs, h1, _⟩ := h
  exact (World.ownsRow.lt h1 k hk).2
theorem OwnTs.form {w : World} {base B : Nat} {v : Value} {ks : List Tm} (h : OwnTs w base B v ks) : ∃ a c, v = .slice a ks.length c := by
  obtain ⟨qs, h1, h2⟩ := h
  rw [h2.1] at h1
  rcases h1.2 with ⟨rfl, e⟩ | ⟨g, cap, cur, rfl, _⟩
  · exact ⟨none, 0, by rw [e]⟩
  · exact ⟨_, _, rfl⟩
/-- It stays where neither its row nor what its terms lie in has turned. -/
theorem OwnTs.kept {w w' : World} {base B : Nat} {v : Value} {ks : List Tm} (h : OwnTs w base B v ks) (hs : w.heap.size ≤ w'.heap.size) (hk : ∀ b, b < w.heap.size → b ≠ B → w'.heap[b]? = w.heap[b]?) (hB : v.ownBlock ≠ some B) : OwnTs w' base B v ks := by
  obtain ⟨qs, h1, h2⟩ := h
  refine ⟨qs, ?_, h2.carry (fun b hb => hk b hb.1 hb.2.2) (fun b hb => ⟨Nat.lt_of_lt_of_le hb.1 hs, hb.2⟩)⟩
  obtain ⟨hl, ⟨h0, h1⟩ | ⟨g, cap, cur, h0, hg, hh, r⟩⟩ := h1
  · exact ⟨hl, Or.inl ⟨h0, h1⟩⟩
  · refine ⟨hl, Or.inr ⟨g, cap, cur, h0, hg, ?_, r⟩⟩
    rw [hk g (Array.getElem?_eq_some_iff.1 hh).1 (fun e => hB (by rw [h0, e]; rfl))]
    exact hh
theorem OwnTs.alloc {w : World} {base B : Nat} {v : Value} {ks : List Tm} (h : OwnTs w base B v ks) (hB : v.ownBlock ≠ some B) (o : Obj) : OwnTs (w.alloc o) base B v ks :=
  h.kept (by simp) (fun b hb _ => Below.heap_alloc w o b hb) hB
theorem OwnTs.ts {w : World} {base B : Nat} {v : Value} {ks : List Tm} (h : OwnTs w base B v ks) : TsIn (fun b => b < w.heap.size) w v ks := by
  obtain ⟨qs, h1, h2⟩ := h
  rw [h2.1] at h1
  obtain ⟨_, ⟨rfl, h0⟩ | ⟨g, cap, cur, rfl, hg, hh, hc1, hc2, hc3, hc4⟩⟩ := h1
  · obtain rfl : ks = [] := List.eq_nil_of_length_eq_zero h0
    exact noTs _ _
  · refine ⟨some ⟨g, 0, none⟩, cap, rfl, hc1, hc2, (fun h => by cases h), fun i hi => ?_⟩
    have hq : i < qs.length := by rw [h2.1]; exact hi
    obtain ⟨⟨a, l, c, e⟩, hT⟩ := h2.2 i qs[i] ks[i] (List.getElem?_eq_getElem hq) (List.getElem?_eq_getElem hi)
    obtain ⟨g0, g1, g2, g3⟩ := flatQ_get qs i qs[i] (List.getElem?_eq_getElem hq)
    have cell : ∀ j, j < ks.length * 4 → w.cell? ⟨g, j, none⟩ = (flatQ qs)[j]? := fun j hj => by
      rw [← hc4, List.getElem?_take_of_lt hj]
      simp [World.cell?, hh]
    refine ⟨g, 0, qs[i].1, qs[i].2.1, qs[i].2.2.1, a, l, c, rfl, (Array.getElem?_eq_some_iff.1 hh).1, ?_, ?_, ?_, ?_, ?_⟩
    · rw [Nat.zero_add, cell _ (by omega)]; exact g0
    · rw [Nat.zero_add, cell _ (by omega)]; exact g1
    · rw [Nat.zero_add, cell _ (by omega)]; exact g2
    · rw [Nat.zero_add, cell _ (by omega), g3, e]
    · have hT' := hT.carry (q := fun b => b < w.heap.size) (B := w) (fun _ _ => rfl) (fun b hb => hb.1)
      unfold qval at hT'
      rw [e] at hT'
      exact hT'

/-- append, run. -/
theorem run_append_ts {w : World} (ty : TypeId) (base B : Nat) (v u : Value) (ks ls : List Tm) (hown : OwnTs w base B v ks) (hsrc : TsIn (Pv w B v) w u ls) (hl : ks.length + ls.length ≤ 1000000000000) (hbase : base ≤ w.heap.size) (hB : B < w.heap.size) :
    ∃ v' w', (Builtin.append_ #[22, 22] ty #[v, u]).run Try.prog w = .ok v' w' ∧ OwnTs w' base B v' (ks ++ ls) ∧ w.grownBy w' v.ownBlock ∧ (v'.ownBlock = v.ownBlock ∨ v'.ownBlock = some w.heap.size) := by
  obtain ⟨i0, hi, hz0, hz1, hz2⟩ := info_parts infoTerm
  obtain ⟨qs, h1, h2⟩ := hown
  obtain ⟨a, cap, rs, rfl, h3, h4, h5⟩ := src_quads hsrc
  cases a with
  | none =>
    obtain ⟨rfl, rfl⟩ := h3 rfl
    refine ⟨v, w, run_append_owned_none w base 22 ty 24 i0 4 Try.underlying22 hi v qs.length (flatQ qs) h1, ⟨qs, h1, by rw [List.append_nil]; exact h2⟩, ⟨rfl, rfl, rfl, Nat.le_refl _, fun _ _ _ => rfl⟩, Or.inl rfl⟩
  | some ad =>
    have hql : qs.length = ks.length := h2.1
    have hrl : rs.length = ls.length := h4.1
    obtain ⟨v', w', hr, ho, hg, _, hat⟩ := run_append_own_at (P := Try.prog) w base 22 ty 24 i0 _ 4 56 Try.underlying22 hi hz0 hz1 hz2 rfl (by decide) v qs.length (flatQ qs) h1 ad ls.length cap (flatQ rs) (by rw [flatQ_length, hrl]) (h5 ad rfl) (flatQ_one h4) (by unfold maxLen; omega) (by omega) hbase
    refine ⟨v', w', hr, ⟨qs ++ rs, ?_, ?_⟩, hg, hat⟩
    · rw [List.length_append, flatQ_append, hrl]; exact ho
    · refine (h2.append h4).carry (fun b hb => hg.block b hb.1 (fun e => hb.2.1 e.symm)) (fun b hb => ⟨Nat.lt_of_lt_of_le hb.1 hg.size, fun e => ?_, hb.2.2⟩)
      rcases hat with hat | hat
      · exact hb.2.1 (hat.symm.trans e)
      · rw [hat] at e; injection e with e; have := hb.1; omega

/-- append, at a step of a region that draws its order. -/
theorem step_append_ts {w : World} {ops : Array Oper} {o : Oper} {a : Act} {K : Act → World → Prop} {Q : Exit → Act → World → Prop} {E : Prop} (hgd : o.guard = none) (s x : Operand)
    (ho : o.op = .call { callee := .builtin .append, args := #[s, x], argTypes := #[22, 22] })
    (base B : Nat) (v u : Value) (ks ls : List Tm) (hs : a.eval s = v) (hx : a.eval x = u) (hown : OwnTs w base B v ks) (hsrc : TsIn (Pv w B v) w u ls) (hl : ks.length + ls.length ≤ 1000000000000) (hbase : base ≤ w.heap.size) (hB : B < w.heap.size)
    (h : ∀ v' w', OwnTs w' base B v' (ks ++ ls) → w.grownBy w' v.ownBlock → (v'.ownBlock = v.ownBlock ∨ v'.ownBlock = some w.heap.size) → K (a.put o.dst v') w') :
    if Region.wanted o (yielded ops a.tmps) = true then Oper.wp Try.prog o a w K Q else E := by
  have hw : Region.wanted o (yielded ops a.tmps) = true := by simp [Region.wanted, hgd]
  rw [if_pos hw]
  obtain ⟨v', w', hr, h2, h3, h4⟩ := run_append_ts o.type base B v u ks ls hown hsrc hl hbase hB
  unfold Oper.wp execOp
  simp only [ho, resolve, invoke, builtin, Sem.run_bind, Sem.run_pure, Result.andThen_ok, List.map_toArray, List.map_cons, List.map_nil, hs, hx, hr]
  exact h v' w' h2 h3 h4

/-- Behind some steps that let all lie that lay in w5, but the last cell of a term's box. -/
structure After (w5 : World) (B : Nat) (k n : Int) (s : ByteArray) (w' : World) : Prop where
  os : w'.os = w5.os
  tape : w'.tape = w5.tape
  output : w'.output = w5.output
  size : w5.heap.size ≤ w'.heap.size
  same : ∀ b, b < w5.heap.size → b ≠ B → w'.heap[b]? = w5.heap[b]?
  box : ∃ v, w'.heap[B]? = some (.cells #[.int .i64 k, .int .i64 n, .string s, v] 24 (0, 0))
  lt : B < w5.heap.size

theorem After.drew {w5 w' : World} {B : Nat} {k n : Int} {s : ByteArray} (h : After w5 B k n s w') : After w5 B k n s w'.drew := ⟨h.os, h.tape, h.output, h.size, h.same, h.box, h.lt⟩
theorem After.grown {w5 w' w'' : World} {B : Nat} {k n : Int} {s : ByteArray} {row : Option Nat} (h : After w5 B k n s w') (hg : w'.grownBy w'' row) (hr : ∀ b, row = some b → w5.heap.size ≤ b) : After w5 B k n s w'' := by
  obtain ⟨v, hv⟩ := h.box
  have hne : ∀ b, b < w5.heap.size → some b ≠ row := fun b hb e => by have := hr b e.symm; omega
  exact ⟨hg.os.trans h.os, hg.tape.trans h.tape, hg.output.trans h.output, Nat.le_trans h.size hg.size, fun b hb hB => (hg.block b (Nat.lt_of_lt_of_le hb h.size) (hne b hb)).trans (h.same b hb hB),
    ⟨v, (hg.block B (Array.getElem?_eq_some_iff.1 hv).1 (hne B h.lt)).trans hv⟩, h.lt⟩
theorem After.alloc {w5 w' : World} {B : Nat} {k n : Int} {s : ByteArray} (h : After w5 B k n s w') (o : Obj) : After w5 B k n s (w'.alloc o) := h.grown (World.grownBy_alloc w' o none) (fun b e => by cases e)
theorem After.below {w5 w' w'' : World} {B : Nat} {k n : Int} {s : ByteArray} (h : After w5 B k n s w') (hb : Below w'.heap.size w' w'') : After w5 B k n s w'' := by
  obtain ⟨v, hv⟩ := h.box
  exact ⟨hb.os.trans h.os, hb.tape.trans h.tape, hb.output.trans h.output, Nat.le_trans h.size hb.size, fun b hb' hB => (hb.block b (Nat.lt_of_lt_of_le hb' h.size)).trans (h.same b hb' hB),
    ⟨v, (hb.block B (Array.getElem?_eq_some_iff.1 hv).1).trans hv⟩, h.lt⟩
theorem After.set {w5 w' : World} {B : Nat} {k n : Int} {s : ByteArray} (h : After w5 B k n s w') (u : Value) : After w5 B k n s (w'.setCell ⟨B, 3, none⟩ u) := by
  obtain ⟨v, hv⟩ := h.box
  exact ⟨h.os, h.tape, h.output, by simpa using h.size, fun b hb hB => (Below.heap_setCell w' ⟨B, 3, none⟩ u b hB).trans (h.same b hb hB), ⟨u, set_block (o := 3) hv u⟩, h.lt⟩
theorem After.isBelow {w5 w' : World} {B : Nat} {k n : Int} {s : ByteArray} (h : After w5 B k n s w') {m : Nat} (hm : m ≤ B) : Below m w5 w' :=
  ⟨h.os, h.tape, h.output, h.size, fun b hb => h.same b (by have := h.lt; omega) (by omega)⟩
theorem After.cell {w5 w' : World} {B : Nat} {k n : Int} {s : ByteArray} (h : After w5 B k n s w') {b o : Nat} {v : Value} (hc : w5.cell? ⟨b, o, none⟩ = some v) (hB : b ≠ B) : w'.cell? ⟨b, o, none⟩ = some v := by
  have hlt : b < w5.heap.size := by
    unfold World.cell? at hc
    split at hc
    · rename_i hb; exact (Array.getElem?_eq_some_iff.1 hb).1
    · cases hc
  rw [World.cell?_of_block (w := w5) (a := ⟨b, o, none⟩) (h.same b hlt hB)]
  exact hc
theorem After.some {w5 w' : World} {B : Nat} {k n : Int} {s : ByteArray} (h : After w5 B k n s w') : w'.cell? ⟨B, 3, none⟩ = some ((w'.cell? ⟨B, 3, none⟩).getD undef) ∧ w'.frozen? ⟨B, 3, none⟩ = false := by
  obtain ⟨v, hv⟩ := h.box
  constructor
  · simp [World.cell?, hv]
  · simp [World.frozen?, hv]

end Go.Proofs.Ytlnggaepmclbkaa

namespace Go.Proofs.Ytlnggaepmclbkaa
open Go.RowKit Go.Shelf
set_option linter.unusedVariables false

/-- The five cells of a variable. -/
structure V5 where
  b : Bool
  k : Int
  n : Int
  s : ByteArray
  a : Option Addr
  l : Nat
  c : Nat
def V5.cells (x : V5) : List Value := [.bool x.b, .int .i64 x.k, .int .i64 x.n, .string x.s, .slice x.a x.l x.c]
abbrev V5.val (x : V5) : Value := .agg #[.int .i64 x.k, .int .i64 x.n, .string x.s, .slice x.a x.l x.c]
def flat5 : List V5 → List Value
  | [] => []
  | x :: r => x.cells ++ flat5 r
theorem flat5_length : ∀ xs, (flat5 xs).length = xs.length * 5
  | [] => rfl
  | x :: r => by rw [flat5, List.length_append, flat5_length r, List.length_cons]; simp [V5.cells]; omega
theorem flat5_append : ∀ xs ys, flat5 (xs ++ ys) = flat5 xs ++ flat5 ys
  | [], ys => rfl
  | x :: r, ys => by rw [List.cons_append, flat5, flat5, flat5_append r ys, List.append_assoc]
theorem flat5_get : ∀ (xs : List V5) (i : Nat) (x : V5), xs[i]? = some x → ∀ j, j < 5 → (flat5 xs)[i * 5 + j]? = x.cells[j]?
  | y :: r, 0, x, h, j, hj => by
    simp at h; subst h
    rw [flat5, Nat.zero_mul, Nat.zero_add, List.getElem?_append_left (by simp [V5.cells]; exact hj)]
  | y :: r, i + 1, x, h, j, hj => by
    have := flat5_get r i x (by simpa using h) j hj
    rw [flat5, List.getElem?_append_right (by simp [V5.cells]; omega), ← this]
    congr 1
    simp [V5.cells]; omega

abbrev RowV (w : World) (base : Nat) (v : Value) (xs : List V5) : Prop := w.ownsRow base 72 5 v xs.length (flat5 xs)
/-- A row of numbers, of which what lies behind it may be cut off. -/
def RowL (w : World) (base : Nat) (v : Value) (l : List Nat) : Prop := (v = .slice none 0 0 ∧ l = []) ∨ ∃ g cap cur, v = .slice (some ⟨g, 0, none⟩) l.length cap ∧ base ≤ g ∧ w.heap[g]? = some (.cells cur 3 (0, 0)) ∧ l.length ≤ cap ∧ cap ≤ maxLen ∧ cap ≤ cur.size ∧
  cur.toList.take l.length = l.map fun n : Nat => Value.int .i64 (n : Int)

/-- Others' blocks. -/
def Oth (w : World) (b : Nat) (V L : Value) (k : Nat) : Prop := k < w.heap.size ∧ k ≠ b ∧ V.ownBlock ≠ some k ∧ L.ownBlock ≠ some k

structure VOk (p : Nat → Prop) (w : World) (xs : List V5) (vs : List (Option Tm)) : Prop where
  len : xs.length = vs.length
  at_ : ∀ (i : Nat) (x : V5) (o : Option Tm), xs[i]? = some x → vs[i]? = some o → x.b = o.isSome ∧ ∀ U, o = some U → TmIn p w x.val U

structure St.Ok (σ : St) : Prop where
  ranked : σ.Ranked
  len : σ.vs.length ≤ 4096
  small : ∀ o ∈ σ.vs, ∀ U, o = some U → U.size ≤ 2000000
  nd : σ.tr.Nodup
  mem : ∀ v, v ∈ σ.tr ↔ ∃ U, σ.vs[v]? = some (some U)

/-- A store, in memory from n₀ on; what its variables are bound to lies in blocks of which p holds. -/
structure StAt (p : Nat → Prop) (n₀ : Nat) (w : World) (b : Nat) (V L : Value) (σ : St) : Prop where
  box : w.heap[b]? = some (.cells #[V, L] 70 (0, 0))
  lo : n₀ ≤ b
  sub : ∀ k, p k → Oth w b V L k
  rV : ∃ xs, RowV w n₀ V xs ∧ VOk p w xs σ.vs
  rL : RowL w n₀ L σ.tr
  ok : σ.Ok

theorem RowV.later {w w' : World} {base : Nat} {v : Value} {xs : List V5} (h : RowV w base v xs) (k : ∀ b, v.ownBlock = some b → w'.heap[b]? = w.heap[b]?) : RowV w' base v xs := by
  obtain ⟨h1, ⟨h2, h0⟩ | ⟨g, cap, cur, rfl, hg, hh, r⟩⟩ := h
  · exact ⟨h1, .inl ⟨h2, h0⟩⟩
  · exact ⟨h1, .inr ⟨g, cap, cur, rfl, hg, (k g rfl).trans hh, r⟩⟩
theorem RowL.later {w w' : World} {base : Nat} {v : Value} {l : List Nat} (h : RowL w base v l) (k : ∀ b, v.ownBlock = some b → w'.heap[b]? = w.heap[b]?) : RowL w' base v l := by
  obtain ⟨rfl, rfl⟩ | ⟨g, cap, cur, rfl, hg, hh, r⟩ := h
  · exact .inl ⟨rfl, rfl⟩
  · exact .inr ⟨g, cap, cur, rfl, hg, (k g rfl).trans hh, r⟩
theorem RowL.lt {w : World} {base : Nat} {v : Value} {l : List Nat} (h : RowL w base v l) : ∀ k, v.ownBlock = some k → base ≤ k ∧ k < w.heap.size := by
  intro k hk
  obtain ⟨rfl, rfl⟩ | ⟨g, cap, cur, rfl, hg, hh, r⟩ := h
  · cases hk
  · cases hk; exact ⟨hg, (Array.getElem?_eq_some_iff.1 hh).1⟩
theorem RowV.lt {w : World} {base : Nat} {v : Value} {xs : List V5} (h : RowV w base v xs) : ∀ k, v.ownBlock = some k → base ≤ k ∧ k < w.heap.size := World.ownsRow.lt h
theorem RowV.form {w : World} {base : Nat} {v : Value} {xs : List V5} (h : RowV w base v xs) : ∃ a c, v = .slice a xs.length c := by
  obtain ⟨h1, ⟨h2, h0⟩ | ⟨g, cap, cur, rfl, hg, hh, r⟩⟩ := h
  · exact ⟨none, 0, by rw [h0]; exact h2⟩
  · exact ⟨_, _, rfl⟩
theorem RowL.form {w : World} {base : Nat} {v : Value} {l : List Nat} (h : RowL w base v l) : ∃ a c, v = .slice a l.length c := by
  obtain ⟨rfl, rfl⟩ | ⟨g, cap, cur, rfl, hg, hh, r⟩ := h
  · exact ⟨none, 0, rfl⟩
  · exact ⟨_, _, rfl⟩
theorem VOk.carry {p q : Nat → Prop} {w w' : World} {xs : List V5} {vs : List (Option Tm)} (h : VOk p w xs vs) (hk : ∀ b, p b → w'.heap[b]? = w.heap[b]?) (hq : ∀ b, p b → q b) : VOk q w' xs vs :=
  ⟨h.len, fun i x o h1 h2 => ⟨(h.at_ i x o h1 h2).1, fun U hU => ((h.at_ i x o h1 h2).2 U hU).carry hk hq⟩⟩

theorem StAt.lt {p : Nat → Prop} {n₀ : Nat} {w : World} {b : Nat} {V L : Value} {σ : St} (h : StAt p n₀ w b V L σ) : b < w.heap.size := (Array.getElem?_eq_some_iff.1 h.box).1
theorem Oth.below {w w' : World} {b : Nat} {V L : Value} (k : Below w.heap.size w w') {c : Nat} (h : Oth w b V L c) : Oth w' b V L c := ⟨Nat.lt_of_lt_of_le h.1 k.size, h.2⟩
/-- A step that writes in new memory alone. -/
theorem StAt.below {p : Nat → Prop} {n₀ : Nat} {w w' : World} {b : Nat} {V L : Value} {σ : St} (h : StAt p n₀ w b V L σ) (k : Below w.heap.size w w') : StAt p n₀ w' b V L σ := by
  obtain ⟨xs, h1, h2⟩ := h.rV
  refine ⟨(k.block b h.lt).trans h.box, h.lo, fun c hc => (h.sub c hc).below k, ⟨xs, h1.later fun c hc => k.block c (h1.lt c hc).2, h2.carry (fun c hc => k.block c (h.sub c hc).1) fun c hc => hc⟩, h.rL.later fun c hc => k.block c (h.rL.lt c hc).2, h.ok⟩
theorem StAt.weak {p q : Nat → Prop} {n₀ : Nat} {w : World} {b : Nat} {V L : Value} {σ : St} (h : StAt p n₀ w b V L σ) (hq : ∀ k, p k → q k) (hs : ∀ k, q k → Oth w b V L k) : StAt q n₀ w b V L σ := by
  obtain ⟨xs, h1, h2⟩ := h.rV
  exact ⟨h.box, h.lo, hs, ⟨xs, h1, h2.carry (fun _ _ => rfl) hq⟩, h.rL, h.ok⟩
theorem oth_below {w w' : World} {b : Nat} {V L : Value} (k : Below w.heap.size w w') {v : Value} {T : Tm} (h : TmIn (Oth w b V L) w v T) : TmIn (Oth w' b V L) w' v T := h.carry (fun c hc => k.block c hc.1) fun c hc => hc.below k
/-- What is new is others'. -/
theorem StAt.fresh {p : Nat → Prop} {n₀ : Nat} {w : World} {b : Nat} {V L : Value} {σ : St} (h : StAt p n₀ w b V L σ) {w' : World} {c : Nat} (hc : w.heap.size ≤ c ∧ c < w'.heap.size) : Oth w' b V L c := by
  obtain ⟨xs, h1, h2⟩ := h.rV
  refine ⟨hc.2, fun e => ?_, fun e => ?_, fun e => ?_⟩
  · have := h.lt; have := hc.1; omega
  · have := (h1.lt c e).2; have := hc.1; omega
  · have := (h.rL.lt c e).2; have := hc.1; omega
theorem StAt.new {p : Nat → Prop} {n₀ : Nat} {w w' : World} {b : Nat} {V L : Value} {σ : St} (h : StAt p n₀ w b V L σ) {v : Value} {T : Tm} (ht : TmIn (fun c => w.heap.size ≤ c ∧ c < w'.heap.size) w' v T) : TmIn (Oth w' b V L) w' v T :=
  ht.carry (fun _ _ => rfl) fun c hc => h.fresh hc
theorem oth_has {w : World} {b : Nat} {V L : Value} {v : Value} {T : Tm} (h : TmIn (Oth w b V L) w v T) : Has w v T := h.carry (fun _ _ => rfl) fun _ hc => hc.1

theorem boxed_new {w w4 : World} {B : Nat} {c0 c1 c2 c3 : Value} (y : w4.heap[B]? = some (.cells #[c0, c1, c2, c3] 24 (0, 0))) {v0 v1 v2 v3 : Value} {T : Tm} {p q : Nat → Prop} (hT : TmIn p w4 (.agg #[v0, v1, v2, v3]) T)
    (hp : ∀ b, p b → b ≠ B) (hq : ∀ b, p b → q b) (hB : Below w.heap.size w w4) (hw : w.heap.size ≤ B) :
    ∃ w5, w5 = (((w4.setCell ⟨B, 0, none⟩ v0).setCell ⟨B, 1, none⟩ v1).setCell ⟨B, 2, none⟩ v2).setCell ⟨B, 3, none⟩ v3 ∧ w5.heap[B]? = some (.cells #[v0, v1, v2, v3] 24 (0, 0)) ∧ TmIn q w5 (.agg #[v0, v1, v2, v3]) T ∧ Below w.heap.size w w5 ∧ w5.heap.size = w4.heap.size := by
  refine ⟨_, rfl, four_block y v0 v1 v2 v3, hT.carry (fun b hb => ?_) (fun b hb => hq b hb), (((hB.setCell (p := ⟨B, 0, none⟩) hw v0).setCell (p := ⟨B, 1, none⟩) hw v1).setCell (p := ⟨B, 2, none⟩) hw v2).setCell (p := ⟨B, 3, none⟩) hw v3, by simp⟩
  have := hp b hb
  rw [Below.heap_setCell _ _ _ _ (by simpa using this), Below.heap_setCell _ _ _ _ (by simpa using this), Below.heap_setCell _ _ _ _ (by simpa using this), Below.heap_setCell _ _ _ _ (by simpa using this)]

set_option maxRecDepth 100000 in
set_option maxHeartbeats 1000000 in
theorem swhole_at (v : Value) (T : Tm) (w : World) (hv : Has w v T) (hs : T.size ≤ 1000000000000) : Calls Try.prog 37 #[v] w (NewTm w T) := by
  obtain ⟨k, n, s, a, len, cap, ks, rfl, e, -⟩ := hv.form
  obtain ⟨w2, hw2⟩ : ∃ w2, w2 = (w.alloc (.cells #[.int .i64 k, .int .i64 n, .string s, .slice a len cap] 24)).alloc (.cells #[.int .i64 0, .int .i64 0, .string (ByteArray.mk #[]), .slice none 0 0] 24) := ⟨_, rfl⟩
  have hb2 : Below w.heap.size w w2 := by rw [hw2]; exact ((Below.refl _ w).alloc (Nat.le_refl _) _).alloc (by simp) _
  have hx1 : w2.heap[w.heap.size]? = some (.cells #[.int .i64 k, .int .i64 n, .string s, .slice a len cap] 24 (0, 0)) := by rw [hw2]; exact (Below.heap_alloc _ _ _ (by simp)).trans (World.alloc_heap_new _ _)
  have hx2 : w2.heap[w.heap.size + 1]? = some (.cells #[.int .i64 0, .int .i64 0, .string (ByteArray.mk #[]), .slice none 0 0] 24 (0, 0)) := by rw [hw2]; simpa using World.alloc_heap_new (w.alloc (.cells #[.int .i64 k, .int .i64 n, .string s, .slice a len cap] 24)) (.cells #[.int .i64 0, .int .i64 0, .string (ByteArray.mk #[]), .slice none 0 0] 24)
  have hsz2 : w2.heap.size = w.heap.size + 2 := by rw [hw2]; simp
  have hcall := (shift_at 0 T _ w2 (Has.below hv hb2) hs).mono (R' := fun e w4 => ∃ k4 n4 s4 a4 l4 c4, e = .returned (.agg #[.int .i64 k4, .int .i64 n4, .string s4, .slice a4 l4 c4]) ∧ w4.cell? ⟨w.heap.size + 1, 0, none⟩ = some (.int .i64 0) ∧ w4.cell? ⟨w.heap.size + 1, 1, none⟩ = some (.int .i64 0) ∧ w4.cell? ⟨w.heap.size + 1, 2, none⟩ = some (.string (ByteArray.mk #[])) ∧ w4.cell? ⟨w.heap.size + 1, 3, none⟩ = some (.slice none 0 0) ∧ (∀ j, w4.frozen? ⟨w.heap.size + 1, j, none⟩ = false) ∧
      w4.heap[w.heap.size + 1]? = some (.cells #[.int .i64 0, .int .i64 0, .string (ByteArray.mk #[]), .slice none 0 0] 24 (0, 0)) ∧ TmIn (fun b => w2.heap.size ≤ b ∧ b < w4.heap.size) w4 (.agg #[.int .i64 k4, .int .i64 n4, .string s4, .slice a4 l4 c4]) T ∧ Below w.heap.size w w4) (fun e w4 h4 => by
    obtain ⟨r, rfl, hr, hb4⟩ := h4
    rw [(Has.below hv hb2).shift_zero] at hr
    obtain ⟨k4, n4, s4, a4, l4, c4, ks4, rfl, -⟩ := hr.form
    have y2 := tbox_below hx2 hb4
    obtain ⟨z0, z1, z2, z3⟩ := tbox_cells y2
    exact ⟨k4, n4, s4, a4, l4, c4, rfl, z0, z1, z2, z3, (fun j => by simp [World.frozen?, y2]), y2, hr, hb2.trans (hb4.mono hb2.size)⟩)
  have hz := zeroTerm
  obtain ⟨x0, x1, x2, x3⟩ := tbox_cells hx1
  have HS := Lib.hid hsz2
  clear hv hb2 hx1 hx2 hsz2 e
  subst hw2
  go_enter Try.func37, Try.ntmps37
  go_wp2_with (go_at_call 12; refine hcall.mono ?_; clear hcall; rintro e w4 ⟨k4, n4, s4, a4, l4, c4, rfl, z0, z1, z2, z3, zf, y2, hT, hB⟩)
  obtain ⟨w5, hw5, hb5, hT5, hB5, hs5⟩ := boxed_new (q := fun b => w.heap.size ≤ b ∧ b < w4.heap.size) y2 hT (fun b hb => by have := HS.out; have := hb.1; omega) (fun b hb => by have := HS.out; have := hb.1; have := hb.2; omega) hB (Nat.le_succ _)
  rw [← hw5]
  obtain ⟨f0, f1, f2, f3⟩ := tbox_cells hb5
  refine bodyPost_ret (v := .agg #[.int .i64 k4, .int .i64 n4, .string s4, .slice a4 l4 c4]) (by simp [results, Try.f37, go_sem, f0, f1, f2, f3]) rfl ?_
  exact ⟨_, rfl, by rw [hs5]; exact hT5, hB5⟩

end Go.Proofs.Ytlnggaepmclbkaa
