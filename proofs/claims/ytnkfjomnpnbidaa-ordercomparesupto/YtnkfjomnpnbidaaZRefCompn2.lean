/-
  The reference's Compare.
-/
import Derived.Test.YtnkfjomnpnbidaaZRefBaren2
import Derived.Test.YtnkfjomnpnbidaaZRefErase
import Derived.Deep.RegionWith
import Derived.Test.YtnkfjomnpnbidaaZSrtN
import Derived.Test.YtnkfjomnpnbidaaZRefCmpn4
import Derived.Deep.DeepCutAuto
namespace Go.Proofs.Ytnkfjomnpnbidaa
open Go.RowKit Go.Shelf
open Classical
set_option linter.unusedVariables false
set_option linter.unusedSimpArgs false

theorem NewTm.form9 {w w' : World} {T : Tm} {e : Ending} (h : NewTm w T e w') : ∃ k n s a l cp, e = .returned (.agg #[.int .i64 k, .int .i64 n, .string s, .slice a l cp]) ∧ Has w' (.agg #[.int .i64 k, .int .i64 n, .string s, .slice a l cp]) T ∧ Below w.heap.size w w' := by
  obtain ⟨r, rfl, hr, hb⟩ := h
  obtain ⟨k, n, s, a, l, cp, ks, rfl, -⟩ := hr.form
  exact ⟨k, n, s, a, l, cp, rfl, hr.carry (fun _ _ => rfl) (fun b hb' => hb'.2), hb⟩
set_option maxRecDepth 100000 in
set_option maxHeartbeats 16000000 in
theorem rcompare_at (A B : Tm) (u v : Value) (w : World) (hu : Has w u A) (hv : Has w v B) (hsa : A.size ≤ 1000000000) (hsb : B.size ≤ 1000000000) : Calls Try.prog 13 #[u, v] w (Gets w (.int .i64 (A.er.cmp B.er))) := by
  obtain ⟨k1, n1, s1, a1, l1, c1, ks1, rfl, e1, -⟩ := hu.form
  obtain ⟨k2, n2, s2, a2, l2, c2, ks2, rfl, e2, -⟩ := hv.form
  clear e1 e2
  obtain ⟨w2, hw2⟩ : ∃ w2, w2 = ((w.alloc (.cells #[.int .i64 k1, .int .i64 n1, .string s1, .slice a1 l1 c1] 24)).alloc (.cells #[.int .i64 k2, .int .i64 n2, .string s2, .slice a2 l2 c2] 24)) := ⟨_, rfl⟩
  have hB2 : Below w.heap.size w w2 := by rw [hw2]; exact ((Below.refl _ w).alloc (Nat.le_refl _) _).alloc (by simp) _
  have hsz2 : w2.heap.size = w.heap.size + 1 + 1 := by rw [hw2]; simp
  have hx1 : w2.heap[w.heap.size]? = some (.cells #[.int .i64 k1, .int .i64 n1, .string s1, .slice a1 l1 c1] 24 (0, 0)) := by rw [hw2]; exact (Below.heap_alloc _ _ _ (by simp)).trans (World.alloc_heap_new _ _)
  have hx2 : w2.heap[w.heap.size + 1]? = some (.cells #[.int .i64 k2, .int .i64 n2, .string s2, .slice a2 l2 c2] 24 (0, 0)) := by rw [hw2]; simpa using World.alloc_heap_new (w.alloc (.cells #[.int .i64 k1, .int .i64 n1, .string s1, .slice a1 l1 c1] 24)) (.cells #[.int .i64 k2, .int .i64 n2, .string s2, .slice a2 l2 c2] 24)
  have hu2 := Has.below hu hB2
  have hv2 := Has.below hv hB2
  obtain ⟨x0, x1, x2, x3⟩ := tbox_cells hx1
  obtain ⟨z0, z1, z2, z3⟩ := tbox_cells hx2
  have hcell : ∀ W, Below w2.heap.size w2 W → (W.cell? ⟨w.heap.size, 0, none⟩ = some (.int .i64 k1) ∧ W.cell? ⟨w.heap.size, 1, none⟩ = some (.int .i64 n1) ∧ W.cell? ⟨w.heap.size, 2, none⟩ = some (.string s1) ∧ W.cell? ⟨w.heap.size, 3, none⟩ = some (.slice a1 l1 c1)) ∧ (W.cell? ⟨w.heap.size + 1, 0, none⟩ = some (.int .i64 k2) ∧ W.cell? ⟨w.heap.size + 1, 1, none⟩ = some (.int .i64 n2) ∧ W.cell? ⟨w.heap.size + 1, 2, none⟩ = some (.string s2) ∧ W.cell? ⟨w.heap.size + 1, 3, none⟩ = some (.slice a2 l2 c2)) := fun W hb => ⟨tbox_cells (tbox_below hx1 hb), tbox_cells (tbox_below hx2 hb)⟩
  have hE1 : ∀ W, Below w2.heap.size w2 W → Calls Try.prog 33 #[.agg #[.int .i64 k1, .int .i64 n1, .string s1, .slice a1 l1 c1]] W fun e W' => ∃ k3 n3 s3 a3 l3 c3, e = .returned (.agg #[.int .i64 k3, .int .i64 n3, .string s3, .slice a3 l3 c3]) ∧ W'.cell? ⟨w.heap.size + 1, 0, none⟩ = some (.int .i64 k2) ∧ W'.cell? ⟨w.heap.size + 1, 1, none⟩ = some (.int .i64 n2) ∧ W'.cell? ⟨w.heap.size + 1, 2, none⟩ = some (.string s2) ∧ W'.cell? ⟨w.heap.size + 1, 3, none⟩ = some (.slice a2 l2 c2) ∧ Has W' (.agg #[.int .i64 k3, .int .i64 n3, .string s3, .slice a3 l3 c3]) A.er ∧ Below w2.heap.size w2 W' := fun W hb =>
    (rerase_at A _ W (Has.below hu2 hb) hsa).mono fun e W' h => by
      obtain ⟨k3, n3, s3, a3, l3, c3, rfl, h3, hb3⟩ := h.form9
      have hbb := hb.trans (hb3.mono hb.size)
      obtain ⟨-, y0, y1, y2, y3⟩ := hcell W' hbb
      exact ⟨k3, n3, s3, a3, l3, c3, rfl, y0, y1, y2, y3, h3, hbb⟩
  have hE2 : ∀ (W : World) (r : Value), Below w2.heap.size w2 W → Has W r A.er → Calls Try.prog 33 #[.agg #[.int .i64 k2, .int .i64 n2, .string s2, .slice a2 l2 c2]] W fun e W' => ∃ k4 n4 s4 a4 l4 c4, e = .returned (.agg #[.int .i64 k4, .int .i64 n4, .string s4, .slice a4 l4 c4]) ∧ Has W' r A.er ∧ Has W' (.agg #[.int .i64 k4, .int .i64 n4, .string s4, .slice a4 l4 c4]) B.er ∧ Below w2.heap.size w2 W' := fun W r hb hr =>
    (rerase_at B _ W (Has.below hv2 hb) hsb).mono fun e W' h => by
      obtain ⟨k4, n4, s4, a4, l4, c4, rfl, h3, hb3⟩ := h.form9
      exact ⟨k4, n4, s4, a4, l4, c4, rfl, Has.below hr hb3, h3, hb.trans (hb3.mono hb.size)⟩
  have hza : A.er.size ≤ 1000000000 := Nat.le_trans (Tm.er_size A) hsa
  have hzb : B.er.size ≤ 1000000000 := Nat.le_trans (Tm.er_size B) hsb
  have HB := Lib.hid hB2
  have HW := Lib.hid hw2
  have hdr : Below w2.heap.size w2 w2.drew := (Below.refl _ _).drew
  clear hu hv hu2 hv2 hx1 hx2 hw2 hB2 hsz2 hcell
  go_enter Try.func13, Try.ntmps13
  go_upto_region 1 with fail
  rw [← HW.out]
  go_region_with (first
    | (go_at_call 33; (with_reducible refine (hE1 _ hdr).mono ?_); rintro e w3 ⟨k3, n3, s3, a3, l3, c3, rfl, y0, y1, y2, y3, hT3, hb3⟩)
    | (go_at_call 33; (with_reducible refine (hE2 _ _ hb3 hT3).mono ?_); rintro e w4 ⟨k4, n4, s4, a4, l4, c4, rfl, hT3', hT4, hb4⟩)
    | (go_at_call 32; (with_reducible refine (bare_at A.er B.er _ _ _ hT3' hT4 hza hzb).mono ?_); rintro e w5 ⟨rfl, hb5⟩))
  all_goals
    go_wp2_with fail
    go_ret
    exact ⟨rfl, HB.out.trans ((hb4.trans (hb5.mono hb4.size)).mono HB.out.size)⟩
end Go.Proofs.Ytnkfjomnpnbidaa

namespace Go.Proofs.Ytnkfjomnpnbidaa
open Go.RowKit Go.Shelf
open Classical
set_option linter.unusedVariables false
set_option linter.unusedSimpArgs false

/-- A slice that owns terms; these lie in blocks that are not its own. -/
def OwnQ (w : World) (base : Nat) (v : Value) (ks : List Tm) : Prop := ∃ qs, w.ownsRow base 24 4 v ks.length (flatQ qs) ∧ QsOk (fun j => j < w.heap.size ∧ v.ownBlock ≠ some j) w qs ks
theorem OwnQ.nil (w : World) (base : Nat) : OwnQ w base (.slice none 0 0) [] := ⟨[], World.ownsRow_nil _ _ _ _, ⟨rfl, fun i q t h => by simp at h⟩⟩
theorem OwnQ.lt {w : World} {base : Nat} {v : Value} {ks : List Tm} (h : OwnQ w base v ks) : ∀ k, v.ownBlock = some k → base ≤ k := fun k hk => by
  obtain ⟨qs, h1, _⟩ := h
  exact (World.ownsRow.lt h1 k hk).1
theorem OwnQ.later {w w' : World} {base : Nat} {v : Value} {ks : List Tm} (h : OwnQ w base v ks) (k : Below w.heap.size w w') : OwnQ w' base v ks := by
  obtain ⟨qs, h1, h2⟩ := h
  refine ⟨qs, ?_, h2.carry (fun b hb => k.block b hb.1) (fun b hb => ⟨Nat.lt_of_lt_of_le hb.1 k.size, hb.2⟩)⟩
  obtain ⟨hl, ⟨h0, h1⟩ | ⟨g, cap, cur, h0, hg, hh, r⟩⟩ := h1
  · exact ⟨hl, Or.inl ⟨h0, h1⟩⟩
  · exact ⟨hl, Or.inr ⟨g, cap, cur, h0, hg, (k.block g (Array.getElem?_eq_some_iff.1 hh).1).trans hh, r⟩⟩
/-- append, run: a list of one's own, whose terms lie in blocks of which q holds. -/
theorem run_append_q {w : World} (ty : TypeId) (base : Nat) (v u : Value) (q : Nat → Prop) (qs : List Quad) (ks ls : List Tm) (hown : w.ownsRow base 24 4 v ks.length (flatQ qs)) (hq : QsOk q w qs ks) (hqv : ∀ j, q j → j < w.heap.size ∧ v.ownBlock ≠ some j) (hsrc : TsIn q w u ls) (hl : ks.length + ls.length ≤ 1000000000000) (hbase : base ≤ w.heap.size) :
    ∃ v' w' qs', (Builtin.append_ #[22, 22] ty #[v, u]).run Try.prog w = .ok v' w' ∧ w'.ownsRow base 24 4 v' (ks ++ ls).length (flatQ qs') ∧ QsOk q w' qs' (ks ++ ls) ∧ w.grownBy w' v.ownBlock ∧ (v'.ownBlock = v.ownBlock ∨ v'.ownBlock = some w.heap.size) := by
  obtain ⟨i0, hi, hz0, hz1, hz2⟩ := info_parts infoTerm
  obtain ⟨a, cap, rs, rfl, h3, h4, h5⟩ := src_quads hsrc
  cases a with
  | none =>
    obtain ⟨rfl, rfl⟩ := h3 rfl
    exact ⟨v, w, qs, run_append_owned_none w base 22 ty 24 i0 4 Try.underlying22 hi v ks.length (flatQ qs) hown, by rw [List.append_nil]; exact hown, by rw [List.append_nil]; exact hq, ⟨rfl, rfl, rfl, Nat.le_refl _, fun _ _ _ => rfl⟩, Or.inl rfl⟩
  | some ad =>
    have hql : qs.length = ks.length := hq.1
    have hrl : rs.length = ls.length := h4.1
    obtain ⟨v', w', hr, ho, hg, _, hat⟩ := run_append_own_at (P := Try.prog) w base 22 ty 24 i0 _ 4 56 Try.underlying22 hi hz0 hz1 hz2 rfl (by decide) v ks.length (flatQ qs) hown ad ls.length cap (flatQ rs) (by rw [flatQ_length, hrl]) (h5 ad rfl) (flatQ_one h4) (by unfold maxLen; omega) (by omega) hbase
    refine ⟨v', w', qs ++ rs, hr, ?_, ?_, hg, hat⟩
    · rw [List.length_append, flatQ_append]; exact ho
    · exact (hq.append h4).carry (fun b hb => hg.block b (hqv b hb).1 (fun e => (hqv b hb).2 e.symm)) (fun b hb => hb)
theorem wpList_append_oq {w : World} {ops : Array Oper} {rest : List Oper} {o : Oper} {a : Act} {Q : Exit → Act → World → Prop} (hgd : o.guard = none) (s x : Operand)
    (ho : o.op = .call { callee := .builtin .append, args := #[s, x], argTypes := #[22, 22] })
    (base : Nat) (v u : Value) (ks ls : List Tm) (hs : a.eval s = v) (hx : a.eval x = u) (hown : OwnQ w base v ks) (hsrc : TsIn (fun j => j < w.heap.size ∧ v.ownBlock ≠ some j) w u ls) (hl : ks.length + ls.length ≤ 1000000000000) (hbase : base ≤ w.heap.size)
    (h : ∀ v' w', OwnQ w' base v' (ks ++ ls) → w.grownBy w' v.ownBlock → wpList Try.prog ops Q rest (a.put o.dst v') w') : wpList Try.prog ops Q (o :: rest) a w := by
  refine wpList_plain hgd fun K hK => ?_
  obtain ⟨qs, h1, h2⟩ := hown
  obtain ⟨v', w', qs', hr, h3, h4, h5, h6⟩ := run_append_q o.type base v u _ qs ks ls h1 h2 (fun j hj => hj) hsrc hl hbase
  unfold Oper.wp execOp
  simp only [ho, resolve, invoke, builtin, Sem.run_bind, Sem.run_pure, Result.andThen_ok, List.map_toArray, List.map_cons, List.map_nil, hs, hx, hr]
  refine hK _ _ (h v' w' ⟨qs', h3, h4.carry (fun _ _ => rfl) (fun b hb => ⟨Nat.lt_of_lt_of_le hb.1 h5.size, fun e => ?_⟩)⟩ h5)
  rcases h6 with h6 | h6
  · exact hb.2 (h6.symm.trans e)
  · rw [h6] at e; injection e with e; have := hb.1; omega
theorem OwnQ.ts {w : World} {base : Nat} {v : Value} {ks : List Tm} (h : OwnQ w base v ks) : HasTs w v ks := by
  obtain ⟨qs, h1, h2⟩ := h
  have ht : OwnTs w base w.heap.size v ks := ⟨qs, by rw [h2.1]; exact h1, h2.carry (fun _ _ => rfl) (fun b hb => ⟨hb.1, hb.2, by have := hb.1; omega⟩)⟩
  exact ht.ts
/-- A list in memory, at a place. -/
theorem ts_at {W : World} {v : Value} {ks : List Tm} (h : HasTs W v ks) : ∃ a cap, v = .slice a ks.length cap ∧ ks.length ≤ cap ∧ cap ≤ maxLen ∧ ∀ i (hi : i < ks.length), ∃ (b o : Nat) (k' n' : Int) (s' : ByteArray) (a' : Option Addr) (l' c' : Nat), a = some ⟨b, o, none⟩ ∧ b < W.heap.size ∧ W.cell? ⟨b, o + i * 4, none⟩ = some (.int .i64 k') ∧ W.cell? ⟨b, o + i * 4 + 1, none⟩ = some (.int .i64 n') ∧
      W.cell? ⟨b, o + i * 4 + 2, none⟩ = some (.string s') ∧ W.cell? ⟨b, o + i * 4 + 3, none⟩ = some (.slice a' l' c') ∧ Has W (.agg #[.int .i64 k', .int .i64 n', .string s', .slice a' l' c']) ks[i] := by
  obtain ⟨a, cap, e, h1, h2, _, h4⟩ := h
  exact ⟨a, cap, e, h1, h2, h4⟩


theorem ts_take {p : Nat → Prop} {W : World} {a : Option Addr} {len cap : Nat} {ks : List Tm} (h : TsIn p W (.slice a len cap) ks) (i : Nat) (hi : i ≤ ks.length) : TsIn p W (.slice a i cap) (ks.take i) := by
  obtain ⟨a', cap', e, h1, h2, h3, h4⟩ := h
  injection e with e1 e2 e3
  subst e1 e3
  refine ⟨a, cap, by rw [List.length_take, Nat.min_eq_left hi], by rw [List.length_take]; omega, h2, h3, fun j hj => ?_⟩
  have hj' : j < ks.length := by rw [List.length_take] at hj; omega
  obtain ⟨b, o, k, n, s, a2, l2, c2, r⟩ := h4 j hj'
  rw [List.getElem_take]
  exact ⟨b, o, k, n, s, a2, l2, c2, r⟩
theorem ts_drop {p : Nat → Prop} {W : World} {b o len cap : Nat} {ks : List Tm} (h : TsIn p W (.slice (some ⟨b, o, none⟩) len cap) ks) (i : Nat) (hi : i ≤ ks.length) (a' : Option Addr) (ha : i < ks.length → a' = some ⟨b, o + i * 4, none⟩) (ha' : a' ≠ none) : TsIn p W (.slice a' (len - i) (cap - i)) (ks.drop i) := by
  obtain ⟨a0, cap', e, h1, h2, h3, h4⟩ := h
  injection e with e1 e2 e3
  subst e1 e2 e3
  refine ⟨a', cap - i, by rw [List.length_drop], by rw [List.length_drop]; omega, by omega, fun e => absurd e ha', fun j hj => ?_⟩
  have hj' : i + j < ks.length := by rw [List.length_drop] at hj; omega
  obtain ⟨b', o', k, n, s, a2, l2, c2, e, r0, r1, r2, r3, r4, r5⟩ := h4 (i + j) hj'
  cases e
  rw [List.getElem_drop]
  refine ⟨b, o + i * 4, k, n, s, a2, l2, c2, ha (by omega), r0, ?_, ?_, ?_, ?_, r5⟩
  · rw [← r1]; congr 2; omega
  · rw [← r2]; congr 2; omega
  · rw [← r3]; congr 2; omega
  · rw [← r4]; congr 2; omega
theorem insT_end : ∀ {us : List Tm} {t : Tm}, (∀ x ∈ us, tc x t < 0) → insT us t = us ++ [t]
  | [], t, _ => rfl
  | u :: us, t, h => by rw [insT, if_pos (h u (by simp)), insT_end (fun x hx => h x (by simp [hx]))]; rfl
theorem insT_same : ∀ {us : List Tm} {t x : Tm} (i : Nat), (∀ x ∈ us.take i, tc x t < 0) → us[i]? = some x → tc x t = 0 → insT us t = us
  | [], _, _, _, _, h, _ => by simp at h
  | u :: us, t, x, 0, _, h, e => by
    simp at h; subst h
    rw [insT, if_neg (by omega), if_pos e]
  | u :: us, t, x, i + 1, h, hx, e => by
    rw [insT, if_pos (h u (by simp)), insT_same i (fun y hy => h y (by simp [hy])) (by simpa using hx) e]
theorem insT_here : ∀ {us : List Tm} {t x : Tm} (i : Nat), (∀ x ∈ us.take i, tc x t < 0) → us[i]? = some x → ¬ tc x t < 0 → tc x t ≠ 0 → insT us t = us.take i ++ [t] ++ us.drop i
  | [], _, _, _, _, h, _, _ => by simp at h
  | u :: us, t, x, 0, _, h, e, e' => by
    simp at h; subst h
    rw [insT, if_neg e, if_neg e']; rfl
  | u :: us, t, x, i + 1, h, hx, e, e' => by
    rw [insT, if_pos (h u (by simp)), insT_here i (fun y hy => h y (by simp [hy])) (by simpa using hx) e e']; rfl
theorem sortT_take {ks : List Tm} {c : Nat} {t : Tm} (h : ks[c]? = some t) : sortT (ks.take (c + 1)) = insT (sortT (ks.take c)) t := by
  have e : ks.take (c + 1) = ks.take c ++ [t] := by rw [List.take_add_one, h]; rfl
  rw [e, sortT_snoc]
theorem insT_len : ∀ (us : List Tm) (t : Tm), (insT us t).length ≤ us.length + 1
  | [], t => by simp [insT]
  | u :: us, t => by
    rw [insT]
    split
    · have := insT_len us t; simp; omega
    · split <;> simp
theorem sortT_len (l : List Tm) : (sortT l).length ≤ l.length := by
  have : ∀ r : List Tm, (sortT r.reverse).length ≤ r.length := fun r => by
    induction r with
    | nil => exact Nat.le_refl _
    | cons t r ih => rw [List.reverse_cons, sortT_snoc]; have := insT_len (sortT r.reverse) t; simp; omega
  have h := this l.reverse
  rwa [List.reverse_reverse, List.length_reverse] at h
theorem insT_sub : ∀ {us : List Tm} {t x : Tm}, x ∈ insT us t → x ∈ us ∨ x = t
  | [], t, x, h => by simp [insT] at h; exact .inr h
  | u :: us, t, x, h => by
    rw [insT] at h
    split at h
    · rcases List.mem_cons.1 h with rfl | h
      · exact .inl (by simp)
      · rcases insT_sub h with h | h
        · exact .inl (by simp [h])
        · exact .inr h
    · split at h
      · exact .inl h
      · rcases List.mem_cons.1 h with rfl | h
        · exact .inr rfl
        · exact .inl h
theorem sortT_in {l : List Tm} {x : Tm} (h : x ∈ sortT l) : x ∈ l := by
  have : ∀ (r : List Tm) (x : Tm), x ∈ sortT r.reverse → x ∈ r := fun r => by
    induction r with
    | nil => intro x h; exact h
    | cons t r ih =>
      intro x h
      rw [List.reverse_cons, sortT_snoc] at h
      rcases insT_sub h with h | rfl
      · exact List.mem_cons_of_mem _ (ih x h)
      · simp
  have h' := this l.reverse x (by rwa [List.reverse_reverse])
  simpa using h'
end Go.Proofs.Ytnkfjomnpnbidaa
