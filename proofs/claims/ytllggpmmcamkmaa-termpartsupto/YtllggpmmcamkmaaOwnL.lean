/-
  Lists of terms that are made by appending, all of whose terms lie at or above a mark.
-/
import Derived.Test.YtllggpmmcamkmaaOwnT
namespace Go.Proofs.Ytllggpmmcamkmaa
open Go.RowKit Go.Shelf
set_option linter.unusedVariables false

def PvL (w : World) (base B : Nat) (v : Value) (b : Nat) : Prop := b < w.heap.size ∧ v.ownBlock ≠ some b ∧ b ≠ B ∧ base ≤ b
/-- A slice that owns terms; these lie in blocks that are neither its own nor B. -/
def OwnTl (w : World) (base B : Nat) (v : Value) (ks : List Tm) : Prop := ∃ qs, w.ownsRow base 24 4 v qs.length (flatQ qs) ∧ QsOk (PvL w base B v) w qs ks

theorem OwnTl.nil (w : World) (base B : Nat) : OwnTl w base B (.slice none 0 0) [] := ⟨[], World.ownsRow_nil _ _ _ _, ⟨rfl, fun i q t h => by simp at h⟩⟩
theorem OwnTl.empty (w : World) (base B : Nat) (hb : base ≤ w.heap.size) : OwnTl (w.alloc (.cells #[] 24)) base B (.slice (some ⟨w.heap.size, 0, none⟩) 0 0) [] :=
  ⟨[], ⟨rfl, Or.inr ⟨w.heap.size, 0, #[], rfl, hb, Go.Deep.blk_alloc_new _ _, Nat.le_refl _, Nat.zero_le _, rfl, rfl⟩⟩, ⟨rfl, fun i q t h => by simp at h⟩⟩
theorem OwnTl.lt {w : World} {base B : Nat} {v : Value} {ks : List Tm} (h : OwnTl w base B v ks) : ∀ k, v.ownBlock = some k → base ≤ k := fun k hk => by
  obtain ⟨qs, h1, _⟩ := h
  exact (World.ownsRow.lt h1 k hk).1
theorem OwnTl.lt2 {w : World} {base B : Nat} {v : Value} {ks : List Tm} (h : OwnTl w base B v ks) : ∀ k, v.ownBlock = some k → k < w.heap.size := fun k hk => by
  obtain ⟨qs, h1, _⟩ := h
  exact (World.ownsRow.lt h1 k hk).2
theorem OwnTl.form {w : World} {base B : Nat} {v : Value} {ks : List Tm} (h : OwnTl w base B v ks) : ∃ a c, v = .slice a ks.length c := by
  obtain ⟨qs, h1, h2⟩ := h
  rw [h2.1] at h1
  rcases h1.2 with ⟨rfl, e⟩ | ⟨g, cap, cur, rfl, _⟩
  · exact ⟨none, 0, by rw [e]⟩
  · exact ⟨_, _, rfl⟩
/-- It stays where neither its row nor what its terms lie in has turned. -/
theorem OwnTl.kept {w w' : World} {base B : Nat} {v : Value} {ks : List Tm} (h : OwnTl w base B v ks) (hs : w.heap.size ≤ w'.heap.size) (hk : ∀ b, b < w.heap.size → b ≠ B → w'.heap[b]? = w.heap[b]?) (hB : v.ownBlock ≠ some B) : OwnTl w' base B v ks := by
  obtain ⟨qs, h1, h2⟩ := h
  refine ⟨qs, ?_, h2.carry (fun b hb => hk b hb.1 hb.2.2.1) (fun b hb => ⟨Nat.lt_of_lt_of_le hb.1 hs, hb.2⟩)⟩
  obtain ⟨hl, ⟨h0, h1⟩ | ⟨g, cap, cur, h0, hg, hh, r⟩⟩ := h1
  · exact ⟨hl, Or.inl ⟨h0, h1⟩⟩
  · refine ⟨hl, Or.inr ⟨g, cap, cur, h0, hg, ?_, r⟩⟩
    rw [hk g (Array.getElem?_eq_some_iff.1 hh).1 (fun e => hB (by rw [h0, e]; rfl))]
    exact hh
theorem OwnTl.alloc {w : World} {base B : Nat} {v : Value} {ks : List Tm} (h : OwnTl w base B v ks) (hB : v.ownBlock ≠ some B) (o : Obj) : OwnTl (w.alloc o) base B v ks :=
  h.kept (by simp) (fun b hb _ => Below.heap_alloc w o b hb) hB
theorem OwnTl.ts {w : World} {base B : Nat} {v : Value} {ks : List Tm} (h : OwnTl w base B v ks) : TsIn (fun b => base ≤ b ∧ b < w.heap.size) w v ks := by
  obtain ⟨qs, h1, h2⟩ := h
  rw [h2.1] at h1
  obtain ⟨_, ⟨rfl, h0⟩ | ⟨g, cap, cur, rfl, hg, hh, hc1, hc2, hc3, hc4⟩⟩ := h1
  · obtain rfl : ks = [] := List.eq_nil_of_length_eq_zero h0
    exact noTs _ _
  · refine ⟨some ⟨g, 0, none⟩, cap, rfl, hc1, hc2, (fun h => by cases h), fun i hi => ?_⟩
    have hq : i < qs.length := by rw [h2.1]; exact hi
    obtain ⟨⟨a, l, c, e⟩, hT⟩ := h2.2 i qs[i] ks[i] (List.getElem?_eq_getElem hq) (List.getElem?_eq_getElem hi)
    obtain ⟨g0, g1, g2, g3⟩ := flatQ_get qs i qs[i] (List.getElem?_eq_getElem hq)
    have cell : ∀ j, j < ks.length * 4 → w.cell? ⟨g, j, none⟩ = (flatQ qs)[j]? := fun j hj => by
      rw [← hc4, List.getElem?_take_of_lt hj]
      simp [World.cell?, hh]
    refine ⟨g, 0, qs[i].1, qs[i].2.1, qs[i].2.2.1, a, l, c, rfl, ⟨hg, (Array.getElem?_eq_some_iff.1 hh).1⟩, ?_, ?_, ?_, ?_, ?_⟩
    · rw [Nat.zero_add, cell _ (by omega)]; exact g0
    · rw [Nat.zero_add, cell _ (by omega)]; exact g1
    · rw [Nat.zero_add, cell _ (by omega)]; exact g2
    · rw [Nat.zero_add, cell _ (by omega), g3, e]
    · have hT' := hT.carry (q := fun b => base ≤ b ∧ b < w.heap.size) (B := w) (fun _ _ => rfl) (fun b hb => ⟨hb.2.2.2, hb.1⟩)
      unfold qval at hT'
      rw [e] at hT'
      exact hT'

/-- append, run. -/
theorem run_append_tl {w : World} (ty : TypeId) (base B : Nat) (v u : Value) (ks ls : List Tm) (hown : OwnTl w base B v ks) (hsrc : TsIn (PvL w base B v) w u ls) (hl : ks.length + ls.length ≤ 1000000000000) (hbase : base ≤ w.heap.size) (hB : B < w.heap.size) :
    ∃ v' w', (Builtin.append_ #[22, 22] ty #[v, u]).run Try.prog w = .ok v' w' ∧ OwnTl w' base B v' (ks ++ ls) ∧ w.grownBy w' v.ownBlock ∧ (v'.ownBlock = v.ownBlock ∨ v'.ownBlock = some w.heap.size) := by
  obtain ⟨i0, hi, hz0, hz1, hz2⟩ := info_parts infoTerm
  obtain ⟨qs, h1, h2⟩ := hown
  obtain ⟨a, cap, rs, rfl, h3, h4, h5⟩ := src_quads hsrc
  cases a with
  | none =>
    obtain ⟨rfl, rfl⟩ := h3 rfl
    refine ⟨v, w, run_append_owned_none w base 22 ty 24 i0 4 Try.underlying22 hi v qs.length (flatQ qs) h1, ⟨qs, h1, by rw [List.append_nil]; exact h2⟩, ⟨rfl, rfl, rfl, Nat.le_refl _, fun _ _ _ => rfl⟩, Or.inl rfl⟩
  | some ad =>
    have hql : qs.length = ks.length := h2.1
    have hrl : rs.length = ls.length := h4.1
    obtain ⟨v', w', hr, ho, hg, _, hat⟩ := run_append_own_at (P := Try.prog) w base 22 ty 24 i0 _ 4 56 Try.underlying22 hi hz0 hz1 hz2 rfl (by decide) v qs.length (flatQ qs) h1 ad ls.length cap (flatQ rs) (by rw [flatQ_length, hrl]) (h5 ad rfl) (flatQ_one h4) (by unfold maxLen; omega) (by omega) hbase
    refine ⟨v', w', hr, ⟨qs ++ rs, ?_, ?_⟩, hg, hat⟩
    · rw [List.length_append, flatQ_append, hrl]; exact ho
    · refine (h2.append h4).carry (fun b hb => hg.block b hb.1 (fun e => hb.2.1 e.symm)) (fun b hb => ⟨Nat.lt_of_lt_of_le hb.1 hg.size, fun e => ?_, hb.2.2⟩)
      rcases hat with hat | hat
      · exact hb.2.1 (hat.symm.trans e)
      · rw [hat] at e; injection e with e; have := hb.1; omega

/-- append, at a step of a region that draws its order. -/
theorem step_append_tl {w : World} {ops : Array Oper} {o : Oper} {a : Act} {K : Act → World → Prop} {Q : Exit → Act → World → Prop} {E : Prop} (hgd : o.guard = none) (s x : Operand)
    (ho : o.op = .call { callee := .builtin .append, args := #[s, x], argTypes := #[22, 22] })
    (base B : Nat) (v u : Value) (ks ls : List Tm) (hs : a.eval s = v) (hx : a.eval x = u) (hown : OwnTl w base B v ks) (hsrc : TsIn (PvL w base B v) w u ls) (hl : ks.length + ls.length ≤ 1000000000000) (hbase : base ≤ w.heap.size) (hB : B < w.heap.size)
    (h : ∀ v' w', OwnTl w' base B v' (ks ++ ls) → w.grownBy w' v.ownBlock → (v'.ownBlock = v.ownBlock ∨ v'.ownBlock = some w.heap.size) → K (a.put o.dst v') w') :
    if Region.wanted o (yielded ops a.tmps) = true then Oper.wp Try.prog o a w K Q else E := by
  have hw : Region.wanted o (yielded ops a.tmps) = true := by simp [Region.wanted, hgd]
  rw [if_pos hw]
  obtain ⟨v', w', hr, h2, h3, h4⟩ := run_append_tl o.type base B v u ks ls hown hsrc hl hbase hB
  unfold Oper.wp execOp
  simp only [ho, resolve, invoke, builtin, Sem.run_bind, Sem.run_pure, Result.andThen_ok, List.map_toArray, List.map_cons, List.map_nil, hs, hx, hr]
  exact h v' w' h2 h3 h4


end Go.Proofs.Ytllggpmmcamkmaa
