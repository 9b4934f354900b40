/-
  reader.ground: whether a term has no variables, by a list of what is left to visit.
-/
import Derived.Test.YtfencolokfghfaaGreatDoorReadB
import Derived.StillTailTactics
import Derived.Deep.LoopGhost
namespace Go.Proofs.YtfencolokfghfaaGreatDoor
open Go.RowKit Go.Maps
set_option linter.unusedVariables false

theorem groundL_append (l r : List (Nat × Tm)) : groundL (l ++ r) = (groundL l && groundL r) := by simp [groundL, List.all_append]
theorem ground_any (T : Tm) : ∀ d, groundL (T.parts d) = T.ground := by
  have key : ∀ (T : Tm) (d e : Nat), groundL (T.parts d) = groundL (T.parts e) := by
    intro T
    induction T using Tm.ind with
    | h k n s ks ih =>
      intro d e
      have : ∀ (ks : List Tm), (∀ t ∈ ks, ∀ d e : Nat, groundL (t.parts d) = groundL (t.parts e)) → ∀ d e, groundL (Tm.partss d ks) = groundL (Tm.partss e ks) := by
        intro ks
        induction ks with
        | nil => intro _ d e; simp [Tm.partss_nil]
        | cons t ts iht => intro h d e; rw [Tm.partss_cons, Tm.partss_cons, groundL_append, groundL_append, h t (by simp) d e, iht (fun u hu => h u (by simp [hu])) d e]
      have h9 := this ks ih (d + 1) (e + 1)
      rw [Tm.parts_mk, Tm.parts_mk]
      unfold groundL at h9 ⊢
      rw [List.all_cons, List.all_cons, h9]
  exact fun d => key T d 1
theorem ground_mk (k n : Int) (s : ByteArray) (ks : List Tm) : (Tm.mk k n s ks).ground = (decide (k ≠ 1) && ks.all Tm.ground) := by
  have : ∀ (ks : List Tm) (d : Nat), groundL (Tm.partss d ks) = ks.all Tm.ground := by
    intro ks
    induction ks with
    | nil => intro d; simp [Tm.partss_nil, groundL]
    | cons t ts ih => intro d; rw [Tm.partss_cons, groundL_append, ih, ground_any]; rfl
  have h9 := this ks 2
  unfold Tm.ground
  rw [Tm.parts_mk]
  unfold groundL at h9 ⊢
  rw [List.all_cons, h9]
  rfl
/-- The last one taken away. -/
theorem OwnTs.last {w : World} {base B : Nat} {v : Value} {ks : List Tm} {t : Tm} (h : OwnTs w base B v (ks ++ [t])) : ∃ g cap k n s a l c, v = .slice (some ⟨g, 0, none⟩) (ks.length + 1) cap ∧ base ≤ g ∧ g < w.heap.size ∧ ks.length + 1 ≤ cap ∧ cap ≤ maxLen ∧ w.cell? ⟨g, ks.length * 4, none⟩ = some (.int .i64 k) ∧ w.cell? ⟨g, ks.length * 4 + 1, none⟩ = some (.int .i64 n) ∧ w.cell? ⟨g, ks.length * 4 + 2, none⟩ = some (.string s) ∧ w.cell? ⟨g, ks.length * 4 + 3, none⟩ = some (.slice a l c) ∧
    TmIn (Pv w B v) w (.agg #[.int .i64 k, .int .i64 n, .string s, .slice a l c]) t ∧ OwnTs w base B (.slice (some ⟨g, 0, none⟩) ks.length cap) ks := by
  obtain ⟨qs, h1, h2⟩ := h
  have hql : qs.length = ks.length + 1 := by have := h2.1; simpa using this
  obtain ⟨hl, ⟨rfl, h0⟩ | ⟨g, cap, cur, rfl, hg, hh, hc1, hc2, hc3, hc4⟩⟩ := h1
  · omega
  · have hi : ks.length < qs.length := by omega
    obtain ⟨⟨a, l, c, e⟩, hT⟩ := h2.2 ks.length qs[ks.length] t (List.getElem?_eq_getElem hi) (by simp)
    obtain ⟨g0, g1, g2, g3⟩ := flatQ_get qs ks.length qs[ks.length] (List.getElem?_eq_getElem hi)
    have cell : ∀ j, j < qs.length * 4 → w.cell? ⟨g, j, none⟩ = (flatQ qs)[j]? := fun j hj => by
      rw [← hc4, List.getElem?_take_of_lt hj]
      simp [World.cell?, hh]
    refine ⟨g, cap, qs[ks.length].1, qs[ks.length].2.1, qs[ks.length].2.2.1, a, l, c, by rw [hql], hg, (Array.getElem?_eq_some_iff.1 hh).1, by omega, hc2, by rw [cell _ (by omega)]; exact g0, by rw [cell _ (by omega)]; exact g1, by rw [cell _ (by omega)]; exact g2, by rw [cell _ (by omega), g3, e], ?_, ?_⟩
    · unfold qval at hT; rw [e] at hT; exact hT
    · refine ⟨qs.take ks.length, ⟨?_, .inr ⟨g, cap, cur, by rw [List.length_take]; congr 1; omega, hg, hh, by rw [List.length_take]; omega, hc2, hc3, ?_⟩⟩, ?_, fun i q u hq hu => ?_⟩
      · rw [flatQ_length]
      · have e9 : flatQ qs = flatQ (qs.take ks.length) ++ flatQ (qs.drop ks.length) := by rw [← flatQ_append, List.take_append_drop]
        have e8 : (qs.take ks.length).length * 4 = (flatQ (qs.take ks.length)).length := by rw [flatQ_length]
        have e7 : cur.toList.take ((qs.take ks.length).length * 4) = (flatQ qs).take ((qs.take ks.length).length * 4) := by
          rw [← hc4, List.take_take]; congr 1; rw [List.length_take]; omega
        rw [e7, e9, e8, List.take_left']
        rfl
      · rw [List.length_take]; omega
      · have hlt : i < ks.length := (List.getElem?_eq_some_iff.1 hu).1
        rw [List.getElem?_take_of_lt hlt] at hq
        obtain ⟨p1, p2⟩ := h2.2 i q u hq (by rw [List.getElem?_append_left hlt]; exact hu)
        exact ⟨p1, p2.carry (fun _ _ => rfl) (fun b hb => ⟨hb.1, hb.2.1, hb.2.2⟩)⟩

/-- append of terms, in a walk. -/
theorem wpList_append_ts {w : World} {ops : Array Oper} {rest : List Oper} {o : Oper} {a : Act} {Q : Exit → Act → World → Prop} (hgd : o.guard = none) (s x : Operand)
    (ho : o.op = .call { callee := .builtin .append, args := #[s, x], argTypes := #[22, 22] })
    (base B : Nat) (v u : Value) (ks ls : List Tm) (hs : a.eval s = v) (hx : a.eval x = u) (hown : OwnTs w base B v ks) (hsrc : TsIn (Pv w B v) w u ls) (hl : ks.length + ls.length ≤ 1000000000000) (hbase : base ≤ w.heap.size) (hB : B < w.heap.size)
    (h : ∀ v' w', OwnTs w' base B v' (ks ++ ls) → w.grownBy w' v.ownBlock → (v'.ownBlock = v.ownBlock ∨ v'.ownBlock = some w.heap.size) → wpList Tryz.prog ops Q rest (a.put o.dst v') w') : wpList Tryz.prog ops Q (o :: rest) a w := by
  refine wpList_plain hgd fun K hK => ?_
  obtain ⟨v', w', hr, h2, h3, h4⟩ := run_append_ts o.type base B v u ks ls hown hsrc hl hbase hB
  unfold Oper.wp execOp
  simp only [ho, resolve, invoke, builtin, Sem.run_bind, Sem.run_pure, Result.andThen_ok, List.map_toArray, List.map_cons, List.map_nil, hs, hx, hr]
  exact hK _ _ (h v' w' h2 h3 h4)
set_option maxRecDepth 100000 in
set_option maxHeartbeats 4000000 in
theorem rground_at (v : Value) (T : Tm) (W : World) (hv : Has W v T) (hs : T.size ≤ 1000000) : Calls Tryz.prog 108 #[v] W (Gets W (.bool T.ground)) := by
  obtain ⟨k, n, s, a, l, c, ks, rfl, -⟩ := hv.form
  obtain ⟨W2, hW2⟩ : ∃ W2, W2 = (W.alloc (.cells #[.int .i64 k, .int .i64 n, .string s, .slice a l c] 24)).alloc (.cells #[.int .i64 k, .int .i64 n, .string s, .slice a l c] 24) := ⟨_, rfl⟩
  have hB2 : Below W.heap.size W W2 := by rw [hW2]; exact bel_al (bel_al (Below.refl _ _) _) _
  have hsz2 : W2.heap.size = W.heap.size + 2 := by rw [hW2]; simp
  have x2 : W2.heap[W.heap.size + 1]? = some (.cells #[.int .i64 k, .int .i64 n, .string s, .slice a l c] 24 (0, 0)) := by rw [hW2]; simpa using alloc_new (W.alloc (.cells #[.int .i64 k, .int .i64 n, .string s, .slice a l c] 24)) (.cells #[.int .i64 k, .int .i64 n, .string s, .slice a l c] 24)
  have hO : OwnTs W2 (W.heap.size + 1) W.heap.size (.slice (some ⟨W.heap.size + 1, 0, none⟩) 1 1) [T] :=
    ⟨[(k, n, s, .slice a l c)], ⟨rfl, .inr ⟨W.heap.size + 1, 1, _, rfl, Nat.le_refl _, x2, Nat.le_refl _, by unfold maxLen; omega, rfl, rfl⟩⟩, rfl, fun i q t h1 h2 => by
      have e : i = 0 := by have := (List.getElem?_eq_some_iff.1 h1).1; simpa using this
      subst e
      simp at h1 h2
      subst h1 h2
      exact ⟨⟨a, l, c, rfl⟩, hv.carry (fun b hb => hB2.block b hb) (fun b (hb : b < W.heap.size) => ⟨by omega, by simp [Value.ownBlock]; omega, by omega⟩)⟩⟩
  go_enter Tryz.func108, Tryz.ntmps108
  go_wp2
  rw [← hW2]
  clear hW2 x2
  go_loopg [3] T.size (fun g x wr => ∃ S : List Tm, OwnTs wr (W.heap.size + 1) W.heap.size x S ∧ T.ground = S.all Tm.ground ∧ Tm.sizes S = g ∧ g ≤ T.size ∧ Below W.heap.size W wr ∧ W.heap.size < wr.heap.size)
  case atStart => exact ⟨[T], hO, by simp, by simp [Tm.sizes_cons, Tm.sizes_nil], Nat.le_refl _, hB2, by omega⟩
  case round =>
    obtain ⟨S, hOS, hgr, hgk, hgs, hbr, hszr⟩ := hrel
    clear hO hB2 hsz2
    rcases List.eq_nil_or_concat S with rfl | ⟨S', t, rfl⟩
    · obtain ⟨a', c', rfl⟩ := hOS.form
      go_wp2
      go_ret
      exact ⟨by rw [hgr]; rfl, hbr⟩
    · rw [List.concat_eq_append] at hOS hgr hgk
      have hlen := Tm.length_le_sizes (S' ++ [t])
      rw [List.length_append] at hlen
      simp only [List.length_cons, List.length_nil] at hlen
      obtain ⟨g, cap, k', n', s', a', l', c', rfl, hg1, hg2, hcap1, hcap2, z0, z1, z2, z3, hT, hO'⟩ := hOS.last
      have e1 : wrap64 (S'.length : Int) = (S'.length : Int) := by simp only [wrap64]; omega
      have e2 : (0 : Int) < (S'.length : Int) + 1 := by omega
      have e3 : (S'.length : Int) < (S'.length : Int) + 1 := by omega
      have e4 : (0 : Int) ≤ (S'.length : Int) := by omega
      have hSl : S'.length ≤ 1000000 := by omega
      have A : Aside (T.ground = (S' ++ [t]).all Tm.ground ∧ Tm.sizes (S' ++ [t]) = gk) := ⟨hgr, hgk⟩
      clear hgr hgk
      have hTk : t.kind = k' ∧ ∃ ks', t = .mk k' n' s' ks' := by
        obtain ⟨_, _, _, _, _, _, ks', e, e', _⟩ := hT.form
        simp only [Value.agg.injEq, Array.mk.injEq, List.cons.injEq, Value.int.injEq, Value.string.injEq, true_and, and_true] at e
        obtain ⟨e0, e1, e2, e3⟩ := e
        subst e0 e1 e2
        exact ⟨by rw [e']; rfl, ks', e'⟩
      obtain ⟨hTk, ks', hTe⟩ := hTk
      by_cases hk' : k' = 1
      · subst hk'
        go_wp2
        go_ret
        refine ⟨?_, bel_al hbr _⟩
        rw [A.out.1, hTe, List.all_append]
        simp [ground_mk]
      · obtain ⟨W5, hW5⟩ : ∃ W5, W5 = wr.alloc (.cells #[.int .i64 k', .int .i64 n', .string s', .slice a' l' c'] 24) := ⟨_, rfl⟩
        have hb5 : Below wr.heap.size wr W5 := by rw [hW5]; exact bel_al (Below.refl _ _) _
        have hs5 : wr.heap.size < W5.heap.size := by rw [hW5]; simp
        have x5 : W5.heap[wr.heap.size]? = some (.cells #[.int .i64 k', .int .i64 n', .string s', .slice a' l' c'] 24 (0, 0)) := by rw [hW5]; exact alloc_new _ _
        obtain ⟨u0, u1, u2', u3⟩ := tbox_cells x5
        have hO5 := hO'.kept (w' := W5.drew) hb5.size (fun b hb _ => hb5.block b hb) (by simp [Value.ownBlock]; omega)
        have hsrc : TsIn (Pv W5.drew W.heap.size (.slice (some ⟨g, 0, none⟩) S'.length cap)) W5.drew (.slice a' l' c') ks' := by
          rw [hTe] at hT
          exact TsIn.carry (A := wr) (B := W5.drew) (q := Pv W5.drew W.heap.size (.slice (some ⟨g, 0, none⟩) S'.length cap)) (fun b hb => hb5.block b hb.1) (fun b hb => ⟨Nat.lt_of_lt_of_le hb.1 hb5.size, hb.2.1, hb.2.2⟩) hT.kids
        have hlk : ks'.length ≤ 1000000 := by
          have h1 := A.out.2
          have h2 := Tm.length_le_sizes ks'
          rw [hTe, Tm.sizes_append, Tm.sizes_cons, Tm.size_mk] at h1
          omega
        have e5 : (S'.length : Int) ≤ (cap : Int) := by omega
        go_wp2
        rw [← hW5]
        clear hW5 z0 z1 z2 z3
        go_still_tail 5, (by kernel_rfl)
        change wpList _ _ _ _ _ W5.drew
        go_wp2_with (at_builtin; refine wpList_append_ts rfl _ _ rfl (W.heap.size + 1) W.heap.size (.slice (some ⟨g, 0, none⟩) S'.length cap) (.slice a' l' c') S' ks' rfl rfl hO5 hsrc (by omega) (by have := hb5.size; simp; omega) (by have := hb5.size; simp; omega) ?_; intro v6 W6 ho6 hg6 hat6)
        obtain ⟨a6, c6, rfl⟩ := ho6.form
        have hsz6 : W5.heap.size ≤ W6.heap.size := hg6.size
        have hb6 : Below W.heap.size W W6 := by
          have hb7 : Below W.heap.size W W5.drew := (bel hbr hb5).drew
          exact ⟨hg6.os.trans hb7.os, hg6.tape.trans hb7.tape, hg6.output.trans hb7.output, Nat.le_trans hb7.size hg6.size, fun b hb => (hg6.block b (Nat.lt_of_lt_of_le hb hb7.size) (by simp [Value.ownBlock]; omega)).trans (hb7.block b hb)⟩
        go_roundg (Tm.sizes (S' ++ ks'))
        case measure => rw [← A.out.2, hTe, Tm.sizes_append, Tm.sizes_append, Tm.sizes_cons, Tm.size_mk, Tm.sizes_nil]; omega
        case rel =>
          refine ⟨S' ++ ks', ho6, ?_, rfl, ?_, hb6, by omega⟩
          · rw [A.out.1, hTe, List.all_append, List.all_append]
            simp [ground_mk, hk']
          · have h9 := A.out.2
            rw [hTe, Tm.sizes_append, Tm.sizes_cons, Tm.size_mk, Tm.sizes_nil] at h9
            rw [Tm.sizes_append]; omega
end Go.Proofs.YtfencolokfghfaaGreatDoor
