/-
  The law OrderSorts: its walk.
-/
import Derived.Test.YtcicggpcmmnohaaSrtO
import Derived.Test.YtcicggpcmmnohaaOrdE
import Derived.Test.YtcicggpcmmnohaaOwnT
import Derived.Test.YtcicggpcmmnohaaLists
import Derived.Deep.Cut
import Derived.Deep.DeepCutAuto
namespace Go.Proofs.Ytcicggpcmmnohaa
open Go.RowKit Go.Shelf
open Classical
set_option linter.unusedVariables false
set_option linter.unusedSimpArgs false

/-- What was sorted is sorted as it is. -/
theorem sortT_idem (l : List Tm) : sortT (sortT l) = sortT l := by
  refine (sortT_eq (sortT_ss l) fun x => ?_).symm
  constructor
  · intro hx
    obtain ⟨i, hi, e⟩ := List.getElem_of_mem hx
    refine ⟨i, by rw [List.getElem?_eq_getElem hi, e], fun j y hj hy he => ?_⟩
    have hjl := (List.getElem?_eq_some_iff.1 hy).1
    have hye : (sortT l)[j] = y := (List.getElem?_eq_some_iff.1 hy).2
    have := List.pairwise_iff_getElem.1 (sortT_ss l) j i hjl hi hj
    rw [hye, e] at this
    omega
  · rintro ⟨i, hi, _⟩
    exact List.mem_of_getElem? hi
/-- Two lists that rise, whose terms are alike one by one: each of the one has its like in the other. -/
theorem ss_alike : ∀ {l m : List Tm}, SS l → SS m → (∀ x ∈ l, ∃ y ∈ m, tc x y = 0) → (∀ y ∈ m, ∃ x ∈ l, tc x y = 0) → l.length = m.length ∧ ∀ i (hi : i < l.length) (hj : i < m.length), tc l[i] m[i] = 0
  | [], [], _, _, _, _ => ⟨rfl, fun i hi => absurd hi (Nat.not_lt_zero _)⟩
  | [], y :: m, _, _, _, h => by obtain ⟨x, hx, _⟩ := h y (by simp); simp at hx
  | x :: l, [], _, _, h, _ => by obtain ⟨y, hy, _⟩ := h x (by simp); simp at hy
  | x :: l, y :: m, hl, hm, h1, h2 => by
    have hl' := List.pairwise_cons.1 hl
    have hm' := List.pairwise_cons.1 hm
    have e : tc x y = 0 := by
      obtain ⟨y', hy', e1⟩ := h1 x (by simp)
      obtain ⟨x', hx', e2⟩ := h2 y (by simp)
      rcases List.mem_cons.1 hy' with rfl | hy'
      · exact e1
      · rcases List.mem_cons.1 hx' with rfl | hx'
        · exact e2
        · exfalso
          have a := hm'.1 y' hy'
          have b := hl'.1 x' hx'
          rw [← tc_zero' (x := y) (y := y') (z := y') (tc_self y')] at a
          have c1 : tc x y' = 0 := e1
          have d1 := tc_neg x y'
          -- y < y' ~ x < x' ~ y
          have f1 : tc y x < 0 := by
            have := tc_zero' (x := y) (y := y') (z := x) (by omega)
            rw [this]; exact a
          have f2 : tc y x' < 0 := tc_lt f1 b
          have := tc_neg x' y
          omega
    have r := ss_alike hl'.2 hm'.2 (fun u hu => by
      obtain ⟨v, hv, e1⟩ := h1 u (by simp [hu])
      rcases List.mem_cons.1 hv with rfl | hv
      · exfalso
        have a := hl'.1 u hu
        have := tc_zero' (x := x) (y := u) (z := v) e1
        omega
      · exact ⟨v, hv, e1⟩) (fun v hv => by
      obtain ⟨u, hu, e1⟩ := h2 v (by simp [hv])
      rcases List.mem_cons.1 hu with rfl | hu
      · exfalso
        have a := hm'.1 v hv
        have := tc_zero (x := u) (y := y) (z := v) e
        omega
      · exact ⟨u, hu, e1⟩)
    refine ⟨by simp [r.1], fun i hi hj => ?_⟩
    cases i with
    | zero => exact e
    | succ i => simpa using r.2 i (by simpa using hi) (by simpa using hj)
theorem sortT_sub {l : List Tm} {x : Tm} (h : x ∈ sortT l) : x ∈ l := by
  obtain ⟨i, hi, _⟩ := (sortT_mem l x).1 h
  exact List.mem_of_getElem? hi
theorem sortT_rep {l : List Tm} {y : Tm} (h : y ∈ l) : ∃ x ∈ sortT l, tc x y = 0 := by
  obtain ⟨x, hx, e⟩ := first_rep h
  exact ⟨x, (sortT_mem l x).2 hx, e⟩
theorem sort_turned (l : List Tm) : (sortT l).length = (sortT l.reverse).length ∧ ∀ i (hi : i < (sortT l).length) (hj : i < (sortT l.reverse).length), tc (sortT l)[i] (sortT l.reverse)[i] = 0 :=
  ss_alike (sortT_ss l) (sortT_ss _) (fun x hx => by
    obtain ⟨y, hy, e⟩ := sortT_rep (l := l.reverse) (y := x) (by simpa using sortT_sub hx)
    exact ⟨y, hy, by have := tc_neg y x; omega⟩) (fun y hy => sortT_rep (by simpa using sortT_sub hy))

/-- A slice that owns terms; these lie in blocks that are not its own. -/
def OwnQ (w : World) (base : Nat) (v : Value) (ks : List Tm) : Prop := ∃ qs, w.ownsRow base 24 4 v ks.length (flatQ qs) ∧ QsOk (fun j => j < w.heap.size ∧ v.ownBlock ≠ some j) w qs ks
theorem OwnQ.nil (w : World) (base : Nat) : OwnQ w base (.slice none 0 0) [] := ⟨[], World.ownsRow_nil _ _ _ _, ⟨rfl, fun i q t h => by simp at h⟩⟩
theorem OwnQ.lt {w : World} {base : Nat} {v : Value} {ks : List Tm} (h : OwnQ w base v ks) : ∀ k, v.ownBlock = some k → base ≤ k := fun k hk => by
  obtain ⟨qs, h1, _⟩ := h
  exact (World.ownsRow.lt h1 k hk).1
theorem OwnQ.later {w w' : World} {base : Nat} {v : Value} {ks : List Tm} (h : OwnQ w base v ks) (k : Below w.heap.size w w') : OwnQ w' base v ks := by
  obtain ⟨qs, h1, h2⟩ := h
  refine ⟨qs, ?_, h2.carry (fun b hb => k.block b hb.1) (fun b hb => ⟨Nat.lt_of_lt_of_le hb.1 k.size, hb.2⟩)⟩
  obtain ⟨hl, ⟨h0, h1⟩ | ⟨g, cap, cur, h0, hg, hh, r⟩⟩ := h1
  · exact ⟨hl, Or.inl ⟨h0, h1⟩⟩
  · exact ⟨hl, Or.inr ⟨g, cap, cur, h0, hg, (k.block g (Array.getElem?_eq_some_iff.1 hh).1).trans hh, r⟩⟩
/-- append, run: a list of one's own, whose terms lie in blocks of which q holds. -/
theorem run_append_q {w : World} (ty : TypeId) (base : Nat) (v u : Value) (q : Nat → Prop) (qs : List Quad) (ks ls : List Tm) (hown : w.ownsRow base 24 4 v ks.length (flatQ qs)) (hq : QsOk q w qs ks) (hqv : ∀ j, q j → j < w.heap.size ∧ v.ownBlock ≠ some j) (hsrc : TsIn q w u ls) (hl : ks.length + ls.length ≤ 1000000000000) (hbase : base ≤ w.heap.size) :
    ∃ v' w' qs', (Builtin.append_ #[22, 22] ty #[v, u]).run Try.prog w = .ok v' w' ∧ w'.ownsRow base 24 4 v' (ks ++ ls).length (flatQ qs') ∧ QsOk q w' qs' (ks ++ ls) ∧ w.grownBy w' v.ownBlock ∧ (v'.ownBlock = v.ownBlock ∨ v'.ownBlock = some w.heap.size) := by
  obtain ⟨i0, hi, hz0, hz1, hz2⟩ := info_parts infoTerm
  obtain ⟨a, cap, rs, rfl, h3, h4, h5⟩ := src_quads hsrc
  cases a with
  | none =>
    obtain ⟨rfl, rfl⟩ := h3 rfl
    exact ⟨v, w, qs, run_append_owned_none w base 22 ty 24 i0 4 Try.underlying22 hi v ks.length (flatQ qs) hown, by rw [List.append_nil]; exact hown, by rw [List.append_nil]; exact hq, ⟨rfl, rfl, rfl, Nat.le_refl _, fun _ _ _ => rfl⟩, Or.inl rfl⟩
  | some ad =>
    have hql : qs.length = ks.length := hq.1
    have hrl : rs.length = ls.length := h4.1
    obtain ⟨v', w', hr, ho, hg, _, hat⟩ := run_append_own_at (P := Try.prog) w base 22 ty 24 i0 _ 4 56 Try.underlying22 hi hz0 hz1 hz2 rfl (by decide) v ks.length (flatQ qs) hown ad ls.length cap (flatQ rs) (by rw [flatQ_length, hrl]) (h5 ad rfl) (flatQ_one h4) (by unfold maxLen; omega) (by omega) hbase
    refine ⟨v', w', qs ++ rs, hr, ?_, ?_, hg, hat⟩
    · rw [List.length_append, flatQ_append]; exact ho
    · exact (hq.append h4).carry (fun b hb => hg.block b (hqv b hb).1 (fun e => (hqv b hb).2 e.symm)) (fun b hb => hb)
theorem wpList_append_oq {w : World} {ops : Array Oper} {rest : List Oper} {o : Oper} {a : Act} {Q : Exit → Act → World → Prop} (hgd : o.guard = none) (s x : Operand)
    (ho : o.op = .call { callee := .builtin .append, args := #[s, x], argTypes := #[22, 22] })
    (base : Nat) (v u : Value) (ks ls : List Tm) (hs : a.eval s = v) (hx : a.eval x = u) (hown : OwnQ w base v ks) (hsrc : TsIn (fun j => j < w.heap.size ∧ v.ownBlock ≠ some j) w u ls) (hl : ks.length + ls.length ≤ 1000000000000) (hbase : base ≤ w.heap.size)
    (h : ∀ v' w', OwnQ w' base v' (ks ++ ls) → w.grownBy w' v.ownBlock → wpList Try.prog ops Q rest (a.put o.dst v') w') : wpList Try.prog ops Q (o :: rest) a w := by
  refine wpList_plain hgd fun K hK => ?_
  obtain ⟨qs, h1, h2⟩ := hown
  obtain ⟨v', w', qs', hr, h3, h4, h5, h6⟩ := run_append_q o.type base v u _ qs ks ls h1 h2 (fun j hj => hj) hsrc hl hbase
  unfold Oper.wp execOp
  simp only [ho, resolve, invoke, builtin, Sem.run_bind, Sem.run_pure, Result.andThen_ok, List.map_toArray, List.map_cons, List.map_nil, hs, hx, hr]
  refine hK _ _ (h v' w' ⟨qs', h3, h4.carry (fun _ _ => rfl) (fun b hb => ⟨Nat.lt_of_lt_of_le hb.1 h5.size, fun e => ?_⟩)⟩ h5)
  rcases h6 with h6 | h6
  · exact hb.2 (h6.symm.trans e)
  · rw [h6] at e; injection e with e; have := hb.1; omega
theorem OwnQ.ts {w : World} {base : Nat} {v : Value} {ks : List Tm} (h : OwnQ w base v ks) : HasTs w v ks := by
  obtain ⟨qs, h1, h2⟩ := h
  have ht : OwnTs w base w.heap.size v ks := ⟨qs, by rw [h2.1]; exact h1, h2.carry (fun _ _ => rfl) (fun b hb => ⟨hb.1, hb.2, by have := hb.1; omega⟩)⟩
  exact ht.ts
-- the walk
theorem sizes_le_mul {M : Nat} : ∀ {ks : List Tm}, (∀ t ∈ ks, t.size ≤ M) → Tm.sizes ks ≤ ks.length * M
  | [], _ => by rw [Tm.sizes_nil]; omega
  | t :: ts, h => by
    rw [Tm.sizes_cons, List.length_cons, Nat.add_mul]
    have h1 := h t (by simp)
    have h2 := sizes_le_mul (ks := ts) (fun u hu => h u (by simp [hu]))
    omega
theorem alike_er {A B : Tm} (ha : A.valid 16 = true) (hb : B.valid 16 = true) (h : tc A B = 0) : A.er = B.er := pl_eq (valid_pl A ha) _ (valid_pl B hb) h
/-- A list in memory, at a place. -/
theorem ts_at {W : World} {v : Value} {ks : List Tm} (h : HasTs W v ks) : ∃ a cap, v = .slice a ks.length cap ∧ ks.length ≤ cap ∧ cap ≤ maxLen ∧ ∀ i (hi : i < ks.length), ∃ (b o : Nat) (k' n' : Int) (s' : ByteArray) (a' : Option Addr) (l' c' : Nat), a = some ⟨b, o, none⟩ ∧ b < W.heap.size ∧ W.cell? ⟨b, o + i * 4, none⟩ = some (.int .i64 k') ∧ W.cell? ⟨b, o + i * 4 + 1, none⟩ = some (.int .i64 n') ∧
      W.cell? ⟨b, o + i * 4 + 2, none⟩ = some (.string s') ∧ W.cell? ⟨b, o + i * 4 + 3, none⟩ = some (.slice a' l' c') ∧ Has W (.agg #[.int .i64 k', .int .i64 n', .string s', .slice a' l' c']) ks[i] := by
  obtain ⟨a, cap, e, h1, h2, _, h4⟩ := h
  exact ⟨a, cap, e, h1, h2, h4⟩

set_option maxRecDepth 100000 in
set_option maxHeartbeats 8000000 in
theorem orderSorts_at (v : Value) (ks : List Tm) (w : World) (hv : HasTs w v ks) (hsz : Tm.sizes ks ≤ 1000000000) :
    Calls Try.prog 6 #[v] w fun r w' => r = .returned (.bool true) ∧ Below w.heap.size w w' := by
  obtain ⟨a, cap, rfl, hc, hmx, hx⟩ := ts_at hv
  have HV := Lib.hid hv
  have hlk : ks.length ≤ 1000000000 := Nat.le_trans (Tm.length_le_sizes ks) hsz
  have Hone := Lib.hid (show ∀ t ∈ ks, t.size ≤ 1000000000 from fun t ht => Nat.le_trans (Tm.size_le_sizes ht) hsz)
  have Hsz := Lib.hid hsz
  clear hv hsz
  go_enter Try.func6, Try.ntmps6
  go_wp2_with fail
  refine (oshown_at w).mono ?_
  rintro r w1 ⟨rfl, hb1⟩
  have HB1 := Lib.hid hb1
  clear hb1
  by_cases h30 : 30 < ks.length
  case pos =>
    have h30z : (30 : Int) < (ks.length : Int) := by omega
    go_wp2_with fail
    go_ret
    exact ⟨rfl, HB1.out⟩
  have h30z : ¬ (30 : Int) < (ks.length : Int) := by omega
  go_wp2_with fail
  go_loopw [4, 5] (fun vb i wr => ∃ c : Nat, i = .int .i64 ((c : Int) - 1) ∧ c ≤ ks.length ∧ OwnQ wr w1.heap.size vb (ks.drop c).reverse ∧ Below w1.heap.size w1 wr ∧ Hid (∀ t ∈ ks.drop c, t.check 16 = 0)) (fun _ i _ => (intOf i + 1).toNat)
  case atStart => exact ⟨ks.length, rfl, Nat.le_refl _, by rw [List.drop_length]; exact OwnQ.nil _ _, Below.refl _ _, fun t ht => by rw [List.drop_length] at ht; simp at ht⟩
  case round =>
    obtain ⟨c, rfl, hcl, hown, hbr, HF⟩ := hrel
    have hbw : Below w.heap.size w wr := HB1.out.trans (hbr.mono HB1.out.size)
    by_cases hc0 : 0 < c
    · obtain ⟨cp, rfl⟩ : ∃ cp, c = cp + 1 := ⟨c - 1, by omega⟩
      have hcs : ((cp + 1 : Nat) : Int) - 1 = (cp : Int) := by omega
      have hge : (0 : Int) ≤ (cp : Int) := by omega
      have hlt : cp < ks.length := by omega
      have hltz : (cp : Int) < (ks.length : Int) := by omega
      obtain ⟨b, o, k', n', s', a', l', c', rfl, hbn, c0, c1, c2, c3', htm⟩ := hx cp hlt
      have q0 := (hbw.cell (p := ⟨b, o + cp * 4, none⟩) hbn).trans c0
      have q1 := (hbw.cell (p := ⟨b, o + cp * 4 + 1, none⟩) hbn).trans c1
      have q2 := (hbw.cell (p := ⟨b, o + cp * 4 + 2, none⟩) hbn).trans c2
      have q3 := (hbw.cell (p := ⟨b, o + cp * 4 + 3, none⟩) hbn).trans c3'
      have ht1 : Has wr (.agg #[.int .i64 k', .int .i64 n', .string s', .slice a' l' c']) ks[cp] := Has.below htm hbw
      have hsize : ks[cp].size ≤ 1000000000 := Hone.out _ (List.getElem_mem hlt)
      have hfew := ofew_at _ ks[cp] wr ht1 (by omega)
      have HB := Lib.hid (And.intro hbr hbw)
      have HO := Lib.hid hown
      have HT := Lib.hid ht1
      have HTM := Lib.hid htm
      clear c0 c1 c2 c3' htm ht1 hbr hbw hown
      rw [hcs]
      by_cases hf : ks[cp].size ≤ 500
      case neg =>
        rw [decide_eq_false hf] at hfew
        clear hf
        go_wp2_with (go_at_call 11; refine hfew.mono ?_; clear hfew; rintro r w3 ⟨rfl, hb3⟩)
        (try rw [Exit.noGoto_ret])
        go_ret
        exact ⟨rfl, HB.out.2.trans (hb3.mono HB.out.2.size)⟩
      rw [decide_eq_true hf] at hfew
      clear hf
      obtain ⟨ck, hck⟩ : ∃ ck, ks[cp].check 16 = ck := ⟨_, rfl⟩
      have Hck := Lib.hid hck
      have hch : ∀ w3, Below wr.heap.size wr w3 → Calls Try.prog 17 #[.agg #[.int .i64 k', .int .i64 n', .string s', .slice a' l' c'], .int .i64 16] w3 (Gets w3 (.int .i64 ck)) := fun w3 h3 => by
        rw [← Hck.out]; exact check_at _ ks[cp] 16 w3 (Has.below HT.out h3) (by omega)
      clear hck
      by_cases hz : ck = 0
      case neg =>
        have hz1 : (ck != 0) = true := by simpa using hz
        clear hz
        go_wp2_with (first | (go_at_call 17; refine (hch _ hb3).mono ?_; clear hch; rintro r w4 ⟨rfl, hb4⟩) | (go_at_call 11; refine hfew.mono ?_; clear hfew; rintro r w3 ⟨rfl, hb3⟩; have p0 := (hb3.cell (p := ⟨b, o + cp * 4, none⟩) (Nat.lt_of_lt_of_le hbn HB.out.2.size)).trans q0; have p1 := (hb3.cell (p := ⟨b, o + cp * 4 + 1, none⟩) (Nat.lt_of_lt_of_le hbn HB.out.2.size)).trans q1; have p2 := (hb3.cell (p := ⟨b, o + cp * 4 + 2, none⟩) (Nat.lt_of_lt_of_le hbn HB.out.2.size)).trans q2; have p3 := (hb3.cell (p := ⟨b, o + cp * 4 + 3, none⟩) (Nat.lt_of_lt_of_le hbn HB.out.2.size)).trans q3))
        (try rw [Exit.noGoto_ret])
        go_ret
        exact ⟨rfl, HB.out.2.trans ((hb3.trans (hb4.mono hb3.size)).mono HB.out.2.size)⟩
      subst hz
      go_upto_region 10 with (first | (go_at_call 17; refine (hch _ hb3).mono ?_; clear hch; rintro r w4 ⟨rfl, hb4⟩) | (go_at_call 11; refine hfew.mono ?_; clear hfew; rintro r w3 ⟨rfl, hb3⟩; have p0 := (hb3.cell (p := ⟨b, o + cp * 4, none⟩) (Nat.lt_of_lt_of_le hbn HB.out.2.size)).trans q0; have p1 := (hb3.cell (p := ⟨b, o + cp * 4 + 1, none⟩) (Nat.lt_of_lt_of_le hbn HB.out.2.size)).trans q1; have p2 := (hb3.cell (p := ⟨b, o + cp * 4 + 2, none⟩) (Nat.lt_of_lt_of_le hbn HB.out.2.size)).trans q2; have p3 := (hb3.cell (p := ⟨b, o + cp * 4 + 3, none⟩) (Nat.lt_of_lt_of_le hbn HB.out.2.size)).trans q3))
      have hb34 : Below wr.heap.size wr w4 := hb3.trans (hb4.mono hb3.size)
      have hlw : b < wr.heap.size := Nat.lt_of_lt_of_le hbn HB.out.2.size
      clear p0 p1 p2 p3
      have p0 := (hb34.cell (p := ⟨b, o + cp * 4, none⟩) hlw).trans q0
      have p1 := (hb34.cell (p := ⟨b, o + cp * 4 + 1, none⟩) hlw).trans q1
      have p2 := (hb34.cell (p := ⟨b, o + cp * 4 + 2, none⟩) hlw).trans q2
      have p3 := (hb34.cell (p := ⟨b, o + cp * 4 + 3, none⟩) hlw).trans q3
      have HO4 := Lib.hid (HO.out.later hb34)
      have HB4 := Lib.hid (show Below w1.heap.size w1 w4 from HB.out.1.trans (hb34.mono HB.out.1.size))
      have HT4 := Lib.hid (Has.below HT.out hb34)
      clear q0 q1 q2 q3 hb3 hb4 hb34 HO HT HB
      have HLIT : Hid (∀ (v : Value), v.ownBlock ≠ some w4.heap.size → (∀ j, v.ownBlock = some j → w1.heap.size ≤ j) → TsIn (fun j => j < (w4.alloc (.cells #[.int .i64 k', .int .i64 n', .string s', .slice a' l' c'] 24)).heap.size ∧ v.ownBlock ≠ some j) (w4.alloc (.cells #[.int .i64 k', .int .i64 n', .string s', .slice a' l' c'] 24)) (.slice (some ⟨w4.heap.size, 0, none⟩) 1 1) [ks[cp]]) := fun v hv1 hv2 => by
        refine ⟨some ⟨w4.heap.size, 0, none⟩, 1, rfl, by simp, by unfold maxLen; omega, (fun h => by cases h), fun i hi => ?_⟩
        have hi' : i = 0 := by simp at hi; omega
        subst hi'
        have hb45 : Below w.heap.size w (w4.alloc (.cells #[.int .i64 k', .int .i64 n', .string s', .slice a' l' c'] 24)) := (HB1.out.trans (HB4.out.mono HB1.out.size)).alloc (HB1.out.trans (HB4.out.mono HB1.out.size)).size _
        refine ⟨w4.heap.size, 0, k', n', s', a', l', c', rfl, ⟨by simp, hv1⟩, (World.cell?_alloc_new w4 _ _ _).trans rfl, (World.cell?_alloc_new w4 _ _ _).trans rfl, (World.cell?_alloc_new w4 _ _ _).trans rfl, (World.cell?_alloc_new w4 _ _ _).trans rfl, ?_⟩
        exact HTM.out.carry (fun b hb => hb45.block b hb) (fun b hb => ⟨Nat.lt_of_lt_of_le hb hb45.size, fun e => by have h1 := hv2 b e; have h2 := HB1.out.size; have h3 : b < w.heap.size := hb; omega⟩)
      have HOA := Lib.hid (HO4.out.later ((Below.refl _ w4).alloc (Nat.le_refl _) (.cells #[.int .i64 k', .int .i64 n', .string s', .slice a' l' c'] 24)))
      have hlen : (ks.drop (cp + 1)).reverse.length ≤ 1000000000 := by simp; omega
      go_wp2_with (at_builtin; refine wpList_append_oq rfl (.tmp 36) (.tmp 41) rfl w1.heap.size _ _ _ [ks[cp]] rfl rfl HOA.out (HLIT.out _ ?o1 ?o2) ?o3 ?o4 ?_)
      case o1 => exact fun e => by obtain ⟨qs, hq1, _⟩ := HO4.out; have := (World.ownsRow.lt hq1 _ e).2; omega
      case o2 => exact HO4.out.lt
      case o3 => simp at hlen ⊢; omega
      case o4 => have := HB4.out.size; simp; omega
      intro v' w6 hown' hgrow
      have HO6 : Hid (OwnQ w6 w1.heap.size v' (ks.drop cp).reverse) := by
        have e : (ks.drop cp).reverse = (ks.drop (cp + 1)).reverse ++ [ks[cp]] := by rw [List.drop_eq_getElem_cons hlt, List.reverse_cons]
        rw [show Hid (OwnQ w6 w1.heap.size v' (ks.drop cp).reverse) = OwnQ w6 w1.heap.size v' (ks.drop cp).reverse from rfl, e]; exact hown'
      have HB6 : Hid (Below w1.heap.size w1 w6) := (HB4.out.alloc HB4.out.size _).grown hgrow (by simp; have := HB4.out.size; omega) HO4.out.lt
      clear hown' hgrow
      go_wp2
      go_roundw
      case rel => exact ⟨cp, by first | rfl | go_num | (congr 1; omega), by omega, HO6.out, HB6.out, fun t ht => by
        rw [List.drop_eq_getElem_cons hlt] at ht
        rcases List.mem_cons.1 ht with rfl | ht
        · exact Hck.out
        · exact HF.out t ht⟩
      case measure => simp [intOf] <;> omega
    · have hc00 : c = 0 := by omega
      subst hc00
      have hge : ¬ (0 : Int) ≤ ((0 : Nat) : Int) - 1 := by omega
      have hown0 := hown
      rw [List.drop_zero] at hown0
      have HF0 := Lib.hid (show ∀ t ∈ ks, t.check 16 = 0 from fun t ht => HF.out t (by simpa using ht))
      obtain ⟨ab, cb, e, _⟩ := id hown0.ts
      have evb := e.trans (show Value.slice ab ks.reverse.length cb = Value.slice ab ks.length cb by rw [List.length_reverse])
      clear e
      subst evb
      have hkl : ks.length < 40 := by omega
      have hS1 := sort39_at _ ks wr (HasTs.below HV.out hbw) hkl (fun t ht => by have := Hone.out t ht; omega)
      have HO := Lib.hid hown0
      have HB := Lib.hid hbw
      have HS2 : Hid (∀ w2, Below wr.heap.size wr w2 → Calls Try.prog 15 #[.slice ab ks.length cb] w2 (NewTs w2 (sortT ks.reverse))) := fun w2 h2 =>
        sort39_at _ ks.reverse w2 (HasTs.below HO.out.ts h2) (by simpa using hkl) (fun t ht => by have := Hone.out t (by simpa using ht); omega)
      obtain ⟨S1, eS1⟩ : ∃ S, S = sortT ks := ⟨_, rfl⟩
      obtain ⟨S2, eS2⟩ : ∃ S, S = sortT ks.reverse := ⟨_, rfl⟩
      have turned := sort_turned ks
      rw [← eS1, ← eS2] at turned
      obtain ⟨m, em⟩ : ∃ m, m = S1.length := ⟨_, rfl⟩
      have em2 : S2.length = m := by rw [em, turned.1]
      have hml : m ≤ ks.length := by rw [em, eS1]; exact sortT_length ks
      have HP : Hid (sortT S1 = S1 ∧ SS S1 ∧ (∀ t ∈ S1, t ∈ ks) ∧ (∀ t ∈ S2, t ∈ ks) ∧ ∀ i (hi : i < S1.length) (hj : i < S2.length), tc S1[i] S2[i] = 0) :=
        ⟨by rw [eS1]; exact sortT_idem ks, by rw [eS1]; exact sortT_ss ks, fun t ht => sortT_sub (by rw [← eS1]; exact ht), fun t ht => by have := sortT_sub (l := ks.reverse) (x := t) (by rw [← eS2]; exact ht); simpa using this, turned.2⟩
      rw [← eS1] at hS1
      have HS2' : Hid (∀ w2, Below wr.heap.size wr w2 → Calls Try.prog 15 #[.slice ab ks.length cb] w2 (NewTs w2 S2)) := fun w2 h2 => by rw [eS2]; exact HS2.out w2 h2
      have HE := Lib.hid (And.intro em em2)
      have hmlz : ¬ (ks.length : Int) < (m : Int) := by omega
      clear hown hown0 HF hbr hbw turned eS1 eS2 em em2 HS2 hx
      go_upto_region 13 with (first
        | (go_at_call 15; (have hq := b2; clear hq); (with_reducible refine Calls.mono (HS2'.out _ b2) ?_); rintro e w3 ⟨rb, rfl, hr3, b3⟩; obtain ⟨aB, capB, rfl, hB1, hB2, hB3, hxB⟩ := hr3)
        | (go_at_call 15; (with_reducible refine Calls.mono hS1 ?_); clear hS1; rintro e w2 ⟨ra, rfl, hr2, b2⟩; obtain ⟨aA, capA, rfl, hA1, hA2, hA3, hxA⟩ := hr2))
      have HA3 := Lib.hid (show HasTs w3 (.slice aA S1.length capA) S1 from HasTs.below (TsIn.carry (fun _ _ => rfl) (fun b hb => hb.2) ⟨aA, capA, rfl, hA1, hA2, hA3, hxA⟩) b3)
      have HBt := Lib.hid (show HasTs w3 (.slice aB S2.length capB) S2 from TsIn.carry (fun _ _ => rfl) (fun b hb => hb.2) ⟨aB, capB, rfl, hB1, hB2, hB3, hxB⟩)
      have HB3 := Lib.hid (show Below w.heap.size w w3 from HB.out.trans ((b2.trans (b3.mono b2.size)).mono HB.out.size))
      clear hxA hxB b2 b3 hA1 hA2 hA3 hB1 hB2 hB3 HO HB HS2'
      rw [← HE.out.1] at HA3 ⊢
      rw [HE.out.2] at HBt ⊢
      have hm40 : m < 40 := by omega
      go_wp2_with fail
      clear hmlz
      generalize hgb : decide (ks.length < m) = gb
      clear hgb
      go_loopw [8] (fun i wr => ∃ c : Nat, i = .int .i64 c ∧ c ≤ m ∧ Below w3.heap.size w3 wr) (fun i _ => m - (intOf i).toNat)
      case atStart => exact ⟨0, rfl, Nat.zero_le _, Below.refl _ _⟩
      case round =>
        obtain ⟨c, rfl, hcm, hbr2⟩ := hrel
        by_cases hlt : c < m
        · have hltz : (c : Int) < (m : Int) := by omega
          have hl1 : c < S1.length := by rw [← HE.out.1]; exact hlt
          have hl2 : c < S2.length := by rw [HE.out.2]; exact hlt
          obtain ⟨aA', capA', eA, hcA, _, hxA⟩ := ts_at HA3.out
          obtain ⟨aB', capB', eB, hcB, _, hxB⟩ := ts_at HBt.out
          injection eA with eA1 eA2 eA3
          injection eB with eB1 eB2 eB3
          subst eA1 eA3 eB1 eB3
          clear eA2 eB2
          obtain ⟨bA, oA, k1, n1, s1, a1, l1, c1, rfl, hbA, x0, x1, x2, x3, tA⟩ := hxA c hl1
          obtain ⟨bB, oB, k2, n2, s2, a2, l2, c2, rfl, hbB, y0, y1, y2, y3, tB⟩ := hxB c hl2
          have e0 := (hbr2.cell (p := ⟨bA, oA + c * 4, none⟩) hbA).trans x0
          have e1 := (hbr2.cell (p := ⟨bA, oA + c * 4 + 1, none⟩) hbA).trans x1
          have e2 := (hbr2.cell (p := ⟨bA, oA + c * 4 + 2, none⟩) hbA).trans x2
          have e3 := (hbr2.cell (p := ⟨bA, oA + c * 4 + 3, none⟩) hbA).trans x3
          have f0 := (hbr2.cell (p := ⟨bB, oB + c * 4, none⟩) hbB).trans y0
          have f1 := (hbr2.cell (p := ⟨bB, oB + c * 4 + 1, none⟩) hbB).trans y1
          have f2 := (hbr2.cell (p := ⟨bB, oB + c * 4 + 2, none⟩) hbB).trans y2
          have f3 := (hbr2.cell (p := ⟨bB, oB + c * 4 + 3, none⟩) hbB).trans y3
          have tA' := Has.below tA hbr2
          have tB' := Has.below tB hbr2
          have szA : S1[c].size ≤ 1000000000000 := by have := Hone.out _ (HP.out.2.2.1 _ (List.getElem_mem hl1)); omega
          have szB : S2[c].size ≤ 1000000000000 := by have := Hone.out _ (HP.out.2.2.2.1 _ (List.getElem_mem hl2)); omega
          have same : S1[c].er = S2[c].er := alike_er (check_zero (HF0.out _ (HP.out.2.2.1 _ (List.getElem_mem hl1)))).2.2 (check_zero (HF0.out _ (HP.out.2.2.2.1 _ (List.getElem_mem hl2)))).2.2 (HP.out.2.2.2.2 c hl1 hl2)
          have HSM := Lib.hid (And.intro szA (And.intro szB same))
          have HBB := Lib.hid (HB3.out.trans (hbr2.mono HB3.out.size))
          have HBR := Lib.hid hbr2
          have hcapA : (m : Int) ≤ (capA : Int) := by rw [HE.out.1]; omega
          have hcapB : (m : Int) ≤ (capB : Int) := by rw [← HE.out.2]; omega
          obtain ⟨TA, eTA⟩ : ∃ T, T = S1[c] := ⟨_, rfl⟩
          obtain ⟨TB, eTB⟩ : ∃ T, T = S2[c] := ⟨_, rfl⟩
          rw [← eTA] at tA' szA same HSM
          rw [← eTB] at tB' szB same HSM
          have HTA := Lib.hid eTA
          clear x0 x1 x2 x3 y0 y1 y2 y3 tA tB szA szB same eTB hxB
          by_cases hc0 : c = 0
          · subst hc0
            have lA : bA < wr.heap.size := Nat.lt_of_lt_of_le hbA hbr2.size
            have lB : bB < wr.heap.size := Nat.lt_of_lt_of_le hbB hbr2.size
            have HS : ∀ w', Below wr.heap.size wr w' → (w'.cell? ⟨bA, oA, none⟩ = some (.int .i64 k1) ∧ w'.cell? ⟨bA, oA + 1, none⟩ = some (.int .i64 n1) ∧ w'.cell? ⟨bA, oA + 2, none⟩ = some (.string s1) ∧ w'.cell? ⟨bA, oA + 3, none⟩ = some (.slice a1 l1 c1) ∧ w'.cell? ⟨bB, oB, none⟩ = some (.int .i64 k2) ∧ w'.cell? ⟨bB, oB + 1, none⟩ = some (.int .i64 n2) ∧ w'.cell? ⟨bB, oB + 2, none⟩ = some (.string s2) ∧ w'.cell? ⟨bB, oB + 3, none⟩ = some (.slice a2 l2 c2) ∧ Below wr.heap.size wr w') := fun w' hb =>
              ⟨(hb.cell (p := ⟨_, _, none⟩) lA).trans e0, (hb.cell (p := ⟨_, _, none⟩) lA).trans e1, (hb.cell (p := ⟨_, _, none⟩) lA).trans e2, (hb.cell (p := ⟨_, _, none⟩) lA).trans e3, (hb.cell (p := ⟨_, _, none⟩) lB).trans f0, (hb.cell (p := ⟨_, _, none⟩) lB).trans f1, (hb.cell (p := ⟨_, _, none⟩) lB).trans f2, (hb.cell (p := ⟨_, _, none⟩) lB).trans f3, hb⟩
            clear hxA eTA hbr2
            have hc00 : ¬ (0 : Int) < (0 : Int) := by decide
            have m0 : (0 : Int) < (m : Int) := by omega
            go_upto_region 18 with fail
            clear e0 e1 e2 e3 f0 f1 f2 f3
            refine wp_region_held_drew (S := (fun w' => w'.cell? ⟨bA, oA, none⟩ = some (.int .i64 k1) ∧ w'.cell? ⟨bA, oA + 1, none⟩ = some (.int .i64 n1) ∧ w'.cell? ⟨bA, oA + 2, none⟩ = some (.string s1) ∧ w'.cell? ⟨bA, oA + 3, none⟩ = some (.slice a1 l1 c1) ∧ w'.cell? ⟨bB, oB, none⟩ = some (.int .i64 k2) ∧ w'.cell? ⟨bB, oB + 1, none⟩ = some (.int .i64 n2) ∧ w'.cell? ⟨bB, oB + 2, none⟩ = some (.string s2) ∧ w'.cell? ⟨bB, oB + 3, none⟩ = some (.slice a2 l2 c2) ∧ Below wr.heap.size wr w')) (by kernel_rfl) (HS _ (by (repeat (first | with_reducible exact Below.refl _ _ | with_reducible apply below_al | with_reducible apply below_dr | ((with_reducible apply below_tr); (with_reducible assumption)))))) (fun hHeld => ?_)
            refine wpAnyH_take (i := 0) (v := ?v_0) rfl (by kernel_rfl) (by kernel_rfl) (by kernel_rfl) (fun _ _ _ h => h) (Or.inl ⟨by kernel_rfl, ?hy_0⟩) hHeld ?r_0
            case hy_0 =>
              intro w0 hSw
              (try dsimp only at hSw)
              go_simp
              try (with_reducible rfl)
            try simp only [Act.put, List.setIfInBounds_toArray, List.set_cons_zero, List.set_cons_succ]
            refine wpAnyH_take (i := 1) (v := ?v_1) rfl (by kernel_rfl) (by kernel_rfl) (by kernel_rfl) (fun _ _ _ h => h) (Or.inl ⟨by kernel_rfl, ?hy_1⟩) hHeld ?r_1
            case hy_1 =>
              intro w0 hSw
              (try dsimp only at hSw)
              go_simp
              try (with_reducible rfl)
            try simp only [Act.put, List.setIfInBounds_toArray, List.set_cons_zero, List.set_cons_succ]
            refine wpAnyH_take (i := 2) (v := ?v_2) rfl (by kernel_rfl) (by kernel_rfl) (by kernel_rfl) (fun _ _ _ h => h) (Or.inl ⟨by kernel_rfl, ?hy_2⟩) hHeld ?r_2
            case hy_2 =>
              intro w0 hSw
              (try dsimp only at hSw)
              go_simp
              try (with_reducible rfl)
            try simp only [Act.put, List.setIfInBounds_toArray, List.set_cons_zero, List.set_cons_succ]
            refine wpAnyH_take (i := 3) (v := undef) rfl (by kernel_rfl) (by kernel_rfl) (by kernel_rfl) (fun _ _ _ h => h) (Or.inr ⟨by kernel_rfl, rfl⟩) hHeld ?_
            try simp only [Act.put, List.setIfInBounds_toArray, List.set_cons_zero, List.set_cons_succ]
            refine wpAnyH_take (i := 4) (v := undef) rfl (by kernel_rfl) (by kernel_rfl) (by kernel_rfl) (fun _ _ _ h => h) (Or.inr ⟨by kernel_rfl, rfl⟩) hHeld ?_
            try simp only [Act.put, List.setIfInBounds_toArray, List.set_cons_zero, List.set_cons_succ]
            refine wpAnyH_take (i := 5) (v := undef) rfl (by kernel_rfl) (by kernel_rfl) (by kernel_rfl) (fun _ _ _ h => h) (Or.inr ⟨by kernel_rfl, rfl⟩) hHeld ?_
            try simp only [Act.put, List.setIfInBounds_toArray, List.set_cons_zero, List.set_cons_succ]
            refine wpAnyH_take (i := 6) (v := undef) rfl (by kernel_rfl) (by kernel_rfl) (by kernel_rfl) (fun _ _ _ h => h) (Or.inr ⟨by kernel_rfl, rfl⟩) hHeld ?_
            try simp only [Act.put, List.setIfInBounds_toArray, List.set_cons_zero, List.set_cons_succ]
            refine wpAnyH_take (i := 7) (v := undef) rfl (by kernel_rfl) (by kernel_rfl) (by kernel_rfl) (fun _ _ _ h => h) (Or.inr ⟨by kernel_rfl, rfl⟩) hHeld ?_
            try simp only [Act.put, List.setIfInBounds_toArray, List.set_cons_zero, List.set_cons_succ]
            refine wpAnyH_take (i := 8) (v := undef) rfl (by kernel_rfl) (by kernel_rfl) (by kernel_rfl) (fun _ _ _ h => h) (Or.inr ⟨by kernel_rfl, rfl⟩) hHeld ?_
            try simp only [Act.put, List.setIfInBounds_toArray, List.set_cons_zero, List.set_cons_succ]
            refine wpAnyH_take (i := 9) (v := undef) rfl (by kernel_rfl) (by kernel_rfl) (by kernel_rfl) (fun _ _ _ h => h) (Or.inr ⟨by kernel_rfl, rfl⟩) hHeld ?_
            try simp only [Act.put, List.setIfInBounds_toArray, List.set_cons_zero, List.set_cons_succ]
            refine wpAnyH_take (i := 10) (v := undef) rfl (by kernel_rfl) (by kernel_rfl) (by kernel_rfl) (fun _ _ _ h => h) (Or.inr ⟨by kernel_rfl, rfl⟩) hHeld ?_
            try simp only [Act.put, List.setIfInBounds_toArray, List.set_cons_zero, List.set_cons_succ]
            refine wpAnyH_take (i := 11) (v := undef) rfl (by kernel_rfl) (by kernel_rfl) (by kernel_rfl) (fun _ _ _ h => h) (Or.inr ⟨by kernel_rfl, rfl⟩) hHeld ?_
            try simp only [Act.put, List.setIfInBounds_toArray, List.set_cons_zero, List.set_cons_succ]
            refine wpAnyH_take (i := 12) (v := undef) rfl (by kernel_rfl) (by kernel_rfl) (by kernel_rfl) (fun _ _ _ h => h) (Or.inr ⟨by kernel_rfl, rfl⟩) hHeld ?_
            try simp only [Act.put, List.setIfInBounds_toArray, List.set_cons_zero, List.set_cons_succ]
            refine wpAnyH_take (i := 13) (v := undef) rfl (by kernel_rfl) (by kernel_rfl) (by kernel_rfl) (fun _ _ _ h => h) (Or.inr ⟨by kernel_rfl, rfl⟩) hHeld ?_
            try simp only [Act.put, List.setIfInBounds_toArray, List.set_cons_zero, List.set_cons_succ]
            refine wpAnyH_take (i := 14) (v := ?v_14) rfl (by kernel_rfl) (by kernel_rfl) (by kernel_rfl) (fun _ _ _ h => h) (Or.inl ⟨by kernel_rfl, ?hy_14⟩) hHeld ?r_14
            case hy_14 =>
              intro w0 hSw
              (try dsimp only at hSw)
              go_simp
              try (with_reducible rfl)
            try simp only [Act.put, List.setIfInBounds_toArray, List.set_cons_zero, List.set_cons_succ]
            refine wpAnyH_take (i := 15) (v := ?v_15) rfl (by kernel_rfl) (by kernel_rfl) (by kernel_rfl) (fun _ _ _ h => h) (Or.inl ⟨by kernel_rfl, ?hy_15⟩) hHeld ?r_15
            case hy_15 =>
              intro w0 hSw
              (try dsimp only at hSw)
              go_simp
              try (with_reducible rfl)
            try simp only [Act.put, List.setIfInBounds_toArray, List.set_cons_zero, List.set_cons_succ]
            refine wpAnyH_take (i := 16) (v := ?v_16) rfl (by kernel_rfl) (by kernel_rfl) (by kernel_rfl) (fun _ _ _ h => h) (Or.inl ⟨by kernel_rfl, ?hy_16⟩) hHeld ?r_16
            case hy_16 =>
              intro w0 hSw
              (try dsimp only at hSw)
              go_simp
              try (with_reducible rfl)
            try simp only [Act.put, List.setIfInBounds_toArray, List.set_cons_zero, List.set_cons_succ]
            refine wpAnyH_take (i := 17) (v := ?v_17) rfl (by kernel_rfl) (by kernel_rfl) (by kernel_rfl) (fun _ _ _ h => h) (Or.inl ⟨by kernel_rfl, ?hy_17⟩) hHeld ?r_17
            case hy_17 =>
              intro w0 hSw
              (try dsimp only at hSw)
              go_simp
              try (with_reducible rfl)
            try simp only [Act.put, List.setIfInBounds_toArray, List.set_cons_zero, List.set_cons_succ]
            refine wpAnyH_take (i := 18) (v := ?v_18) rfl (by kernel_rfl) (by kernel_rfl) (by kernel_rfl) (fun _ _ _ h => h) (Or.inl ⟨by kernel_rfl, ?hy_18⟩) hHeld ?r_18
            case hy_18 =>
              intro w0 hSw
              (try dsimp only at hSw)
              go_simp
              try (with_reducible rfl)
            try simp only [Act.put, List.setIfInBounds_toArray, List.set_cons_zero, List.set_cons_succ]
            refine wpAnyH_take (i := 19) (v := ?v_19) rfl (by kernel_rfl) (by kernel_rfl) (by kernel_rfl) (fun _ _ _ h => h) (Or.inl ⟨by kernel_rfl, ?hy_19⟩) hHeld ?r_19
            case hy_19 =>
              intro w0 hSw
              (try dsimp only at hSw)
              go_simp
              try (with_reducible rfl)
            try simp only [Act.put, List.setIfInBounds_toArray, List.set_cons_zero, List.set_cons_succ]
            refine wpAnyH_take (i := 21) (v := ?v_21) rfl (by kernel_rfl) (by kernel_rfl) (by kernel_rfl) (fun _ _ _ h => h) (Or.inl ⟨by kernel_rfl, ?hy_21⟩) hHeld ?r_21
            case hy_21 =>
              intro w0 hSw
              (try dsimp only at hSw)
              go_simp
              try (with_reducible rfl)
            try simp only [Act.put, List.setIfInBounds_toArray, List.set_cons_zero, List.set_cons_succ]
            refine wpAnyH_take (i := 22) (v := ?v_22) rfl (by kernel_rfl) (by kernel_rfl) (by kernel_rfl) (fun _ _ _ h => h) (Or.inl ⟨by kernel_rfl, ?hy_22⟩) hHeld ?r_22
            case hy_22 =>
              intro w0 hSw
              (try dsimp only at hSw)
              go_simp
              try (with_reducible rfl)
            try simp only [Act.put, List.setIfInBounds_toArray, List.set_cons_zero, List.set_cons_succ]
            refine wpAnyH_take (i := 23) (v := ?v_23) rfl (by kernel_rfl) (by kernel_rfl) (by kernel_rfl) (fun _ _ _ h => h) (Or.inl ⟨by kernel_rfl, ?hy_23⟩) hHeld ?r_23
            case hy_23 =>
              intro w0 hSw
              (try dsimp only at hSw)
              go_simp
              try (with_reducible rfl)
            try simp only [Act.put, List.setIfInBounds_toArray, List.set_cons_zero, List.set_cons_succ]
            refine wpAnyH_take (i := 24) (v := ?v_24) rfl (by kernel_rfl) (by kernel_rfl) (by kernel_rfl) (fun _ _ _ h => h) (Or.inl ⟨by kernel_rfl, ?hy_24⟩) hHeld ?r_24
            case hy_24 =>
              intro w0 hSw
              (try dsimp only at hSw)
              go_simp
              try (with_reducible rfl)
            try simp only [Act.put, List.setIfInBounds_toArray, List.set_cons_zero, List.set_cons_succ]
            refine wpAnyH_ready (rs := [20]) (by kernel_rfl) (by simp) ?_
            refine AllReadyH.cons rfl (fun K hK => ?_) AllReadyH.nil
            · go_simp
              go_at_call 19; (with_reducible refine Calls.mono (erase_at _ TA _ ?_ HSM.out.1) ?_); ((with_reducible refine Has.below tA' ?_); (repeat (first | with_reducible exact Below.refl _ _ | with_reducible apply below_al | with_reducible apply below_dr | ((with_reducible apply below_tr); (with_reducible assumption))))); intro r w11 h11; obtain ⟨k11, n11, s11, a11, l11, c11, rfl, h11, b11⟩ := h11.has
              go_wp2_with fail
              refine hK.out _ _ (HS _ (by (repeat (first | with_reducible exact Below.refl _ _ | with_reducible apply below_al | with_reducible apply below_dr | ((with_reducible apply below_tr); (with_reducible assumption)))))) (fun hH1 => ?_)
              clear hK K
              try simp only [Act.put, List.setIfInBounds_toArray, List.set_cons_zero, List.set_cons_succ]
              refine wpAnyH_ready (rs := [25]) (by kernel_rfl) (by simp) ?_
              refine AllReadyH.cons rfl (fun K hK => ?_) AllReadyH.nil
              go_simp
              go_at_call 19; (with_reducible refine Calls.mono (erase_at _ TB _ ?_ HSM.out.2.1) ?_); ((with_reducible refine Has.below tB' ?_); (repeat (first | with_reducible exact Below.refl _ _ | with_reducible apply below_al | with_reducible apply below_dr | ((with_reducible apply below_tr); (with_reducible assumption))))); intro r w12 h12; obtain ⟨k12, n12, s12, a12, l12, c12, rfl, h12, b12⟩ := h12.has
              go_wp2_with fail
              refine hK.out _ _ (HS _ (by (repeat (first | with_reducible exact Below.refl _ _ | with_reducible apply below_al | with_reducible apply below_dr | ((with_reducible apply below_tr); (with_reducible assumption)))))) (fun hH2 => ?_)
              clear hK K
              try simp only [Act.put, List.setIfInBounds_toArray, List.set_cons_zero, List.set_cons_succ]
              refine wpAnyH_ready (rs := [26]) (by kernel_rfl) (by simp) ?_
              refine AllReadyH.cons rfl (fun K hK => ?_) AllReadyH.nil
              go_simp
              go_at_call 18; (with_reducible refine Calls.mono (same_yes HSM.out.2.2 _ _ _ ?_ ?_ (Nat.le_trans TA.er_size HSM.out.1)) ?_); ((with_reducible refine Has.below h11 ?_); (repeat (first | with_reducible exact Below.refl _ _ | with_reducible apply below_al | with_reducible apply below_dr | ((with_reducible apply below_tr); (with_reducible assumption))))); ((with_reducible refine Has.below h12 ?_); (repeat (first | with_reducible exact Below.refl _ _ | with_reducible apply below_al | with_reducible apply below_dr | ((with_reducible apply below_tr); (with_reducible assumption))))); rintro r w13 ⟨rfl, b13⟩
              go_wp2_with fail
              refine hK.out _ _ (HS _ (by (repeat (first | with_reducible exact Below.refl _ _ | with_reducible apply below_al | with_reducible apply below_dr | ((with_reducible apply below_tr); (with_reducible assumption)))))) (fun hH3 => ?_)
              clear hK K
              try simp only [Act.put, List.setIfInBounds_toArray, List.set_cons_zero, List.set_cons_succ]
              refine wpAnyH_take (i := 27) (v := ?v_27) rfl (by kernel_rfl) (by kernel_rfl) (by kernel_rfl) (fun _ _ _ h => h) (Or.inl ⟨by kernel_rfl, ?hy_27⟩) hH3 ?r_27
              case hy_27 =>
                intro w0 hSw
                (try dsimp only at hSw)
                go_simp
                try (with_reducible rfl)
              try simp only [Act.put, List.setIfInBounds_toArray, List.set_cons_zero, List.set_cons_succ]
              refine wpAnyH_take (i := 28) (v := ?v_28) rfl (by kernel_rfl) (by kernel_rfl) (by kernel_rfl) (fun _ _ _ h => h) (Or.inl ⟨by kernel_rfl, ?hy_28⟩) hH3 ?r_28
              case hy_28 =>
                intro w0 hSw
                (try dsimp only at hSw)
                go_simp
                try (with_reducible rfl)
              try simp only [Act.put, List.setIfInBounds_toArray, List.set_cons_zero, List.set_cons_succ]
              refine wpAnyH_done (by kernel_rfl) ?_ _
              go_wp2_with fail
              go_roundw
              case rel => exact ⟨1, by first | rfl | simp | go_num, by omega, below_tr (by (repeat (first | with_reducible exact Below.refl _ _ | with_reducible apply below_al | with_reducible apply below_dr | ((with_reducible apply below_tr); (with_reducible assumption))))) HBR.out⟩
              case measure => simp [intOf] <;> omega
          · obtain ⟨cp, rfl⟩ : ∃ cp, c = cp + 1 := ⟨c - 1, by omega⟩
            have hlp : cp < S1.length := by omega
            obtain ⟨b', o', k3, n3, s3, a3, l3, c3, eb, hbP, x0, x1, x2, x3, tP⟩ := hxA cp hlp
            injection eb with eb
            injection eb with eb1 eb2
            subst eb1 eb2
            have g0 := (hbr2.cell (p := ⟨bA, oA + cp * 4, none⟩) hbA).trans x0
            have g1 := (hbr2.cell (p := ⟨bA, oA + cp * 4 + 1, none⟩) hbA).trans x1
            have g2 := (hbr2.cell (p := ⟨bA, oA + cp * 4 + 2, none⟩) hbA).trans x2
            have g3 := (hbr2.cell (p := ⟨bA, oA + cp * 4 + 3, none⟩) hbA).trans x3
            have tP' := Has.below tP hbr2
            obtain ⟨TP, eTP⟩ : ∃ T, T = S1[cp] := ⟨_, rfl⟩
            have szP : S1[cp].size ≤ 1000000000000 := by have := Hone.out _ (HP.out.2.2.1 _ (List.getElem_mem hlp)); omega
            have hneg : tc S1[cp] S1[cp + 1] = -1 := by
              have h := List.pairwise_iff_getElem.1 HP.out.2.1 cp (cp + 1) hlp hl1 (by omega)
              have := tc_rng S1[cp] S1[cp + 1]
              omega
            rw [← eTP] at tP' szP hneg
            rw [← eTA] at hneg
            have HNP := Lib.hid (And.intro szP hneg)
            have hcp : ∀ (u v : Value) (w' : World), Has w' u TP → Has w' v TA → Calls Try.prog 12 #[u, v] w' (Gets w' (.int .i64 (-1))) := fun u v w' h1 h2 => by
              have h := compare_at u v TP TA w' h1 h2 HNP.out.1 HSM.out.1
              rwa [show TP.er.cmp TA.er = -1 from HNP.out.2] at h
            have lA : bA < wr.heap.size := Nat.lt_of_lt_of_le hbA hbr2.size
            have lB : bB < wr.heap.size := Nat.lt_of_lt_of_le hbB hbr2.size
            have HS : ∀ w', Below wr.heap.size wr w' → (w'.cell? ⟨bA, oA + cp * 4, none⟩ = some (.int .i64 k3) ∧ w'.cell? ⟨bA, oA + cp * 4 + 1, none⟩ = some (.int .i64 n3) ∧ w'.cell? ⟨bA, oA + cp * 4 + 2, none⟩ = some (.string s3) ∧ w'.cell? ⟨bA, oA + cp * 4 + 3, none⟩ = some (.slice a3 l3 c3) ∧ w'.cell? ⟨bA, oA + (cp + 1) * 4, none⟩ = some (.int .i64 k1) ∧ w'.cell? ⟨bA, oA + (cp + 1) * 4 + 1, none⟩ = some (.int .i64 n1) ∧ w'.cell? ⟨bA, oA + (cp + 1) * 4 + 2, none⟩ = some (.string s1) ∧ w'.cell? ⟨bA, oA + (cp + 1) * 4 + 3, none⟩ = some (.slice a1 l1 c1) ∧ w'.cell? ⟨bB, oB + (cp + 1) * 4, none⟩ = some (.int .i64 k2) ∧ w'.cell? ⟨bB, oB + (cp + 1) * 4 + 1, none⟩ = some (.int .i64 n2) ∧ w'.cell? ⟨bB, oB + (cp + 1) * 4 + 2, none⟩ = some (.string s2) ∧ w'.cell? ⟨bB, oB + (cp + 1) * 4 + 3, none⟩ = some (.slice a2 l2 c2) ∧ Below wr.heap.size wr w') := fun w' hb =>
              ⟨(hb.cell (p := ⟨_, _, none⟩) lA).trans g0, (hb.cell (p := ⟨_, _, none⟩) lA).trans g1, (hb.cell (p := ⟨_, _, none⟩) lA).trans g2, (hb.cell (p := ⟨_, _, none⟩) lA).trans g3, (hb.cell (p := ⟨_, _, none⟩) lA).trans e0, (hb.cell (p := ⟨_, _, none⟩) lA).trans e1, (hb.cell (p := ⟨_, _, none⟩) lA).trans e2, (hb.cell (p := ⟨_, _, none⟩) lA).trans e3, (hb.cell (p := ⟨_, _, none⟩) lB).trans f0, (hb.cell (p := ⟨_, _, none⟩) lB).trans f1, (hb.cell (p := ⟨_, _, none⟩) lB).trans f2, (hb.cell (p := ⟨_, _, none⟩) lB).trans f3, hb⟩
            have jz : (cp : Int) + 1 < (m : Int) := by omega
            have jz1 : (cp : Int) < (m : Int) := by omega
            have hwp : IntKind.i64.wrap (cp : Int) = (cp : Int) := by rw [IntKind.wrap_i64]; omega
            have p0 : (0 : Int) ≤ (cp : Int) + 1 := by omega
            have p1 : (0 : Int) < (cp : Int) + 1 := by omega
            have ep0 : ((cp : Int) + 1).toNat = cp + 1 := by omega
            clear x0 x1 x2 x3 tP szP hneg hxA eTA eTP hc0 hbr2
            go_upto_region 18 with fail
            clear e0 e1 e2 e3 f0 f1 f2 f3 g0 g1 g2 g3
            go_region_held3 (fun w' => w'.cell? ⟨bA, oA + cp * 4, none⟩ = some (.int .i64 k3) ∧ w'.cell? ⟨bA, oA + cp * 4 + 1, none⟩ = some (.int .i64 n3) ∧ w'.cell? ⟨bA, oA + cp * 4 + 2, none⟩ = some (.string s3) ∧ w'.cell? ⟨bA, oA + cp * 4 + 3, none⟩ = some (.slice a3 l3 c3) ∧ w'.cell? ⟨bA, oA + (cp + 1) * 4, none⟩ = some (.int .i64 k1) ∧ w'.cell? ⟨bA, oA + (cp + 1) * 4 + 1, none⟩ = some (.int .i64 n1) ∧ w'.cell? ⟨bA, oA + (cp + 1) * 4 + 2, none⟩ = some (.string s1) ∧ w'.cell? ⟨bA, oA + (cp + 1) * 4 + 3, none⟩ = some (.slice a1 l1 c1) ∧ w'.cell? ⟨bB, oB + (cp + 1) * 4, none⟩ = some (.int .i64 k2) ∧ w'.cell? ⟨bB, oB + (cp + 1) * 4 + 1, none⟩ = some (.int .i64 n2) ∧ w'.cell? ⟨bB, oB + (cp + 1) * 4 + 2, none⟩ = some (.string s2) ∧ w'.cell? ⟨bB, oB + (cp + 1) * 4 + 3, none⟩ = some (.slice a2 l2 c2) ∧ Below wr.heap.size wr w')
              (exact HS _ (by (repeat (first | with_reducible exact Below.refl _ _ | with_reducible apply below_al | with_reducible apply below_dr | ((with_reducible apply below_tr); (with_reducible assumption))))))
              (first
              | (go_at_call 18; (have hq := h12; clear hq); (with_reducible refine Calls.mono (same_yes HSM.out.2.2 _ _ _ ?_ ?_ (Nat.le_trans TA.er_size HSM.out.1)) ?_); ((with_reducible refine Has.below h11 ?_); (repeat (first | with_reducible exact Below.refl _ _ | with_reducible apply below_al | with_reducible apply below_dr | ((with_reducible apply below_tr); (with_reducible assumption))))); ((with_reducible refine Has.below h12 ?_); (repeat (first | with_reducible exact Below.refl _ _ | with_reducible apply below_al | with_reducible apply below_dr | ((with_reducible apply below_tr); (with_reducible assumption))))); rintro r w13 ⟨rfl, b13⟩)
              | (go_at_call 19; (have hq := b11; clear hq); (with_reducible refine Calls.mono (erase_at _ TB _ ?_ HSM.out.2.1) ?_); ((with_reducible refine Has.below tB' ?_); (repeat (first | with_reducible exact Below.refl _ _ | with_reducible apply below_al | with_reducible apply below_dr | ((with_reducible apply below_tr); (with_reducible assumption))))); intro r w12 h12; obtain ⟨k12, n12, s12, a12, l12, c12, rfl, h12, b12⟩ := h12.has)
              | (go_at_call 19; (with_reducible refine Calls.mono (erase_at _ TA _ ?_ HSM.out.1) ?_); ((with_reducible refine Has.below tA' ?_); (repeat (first | with_reducible exact Below.refl _ _ | with_reducible apply below_al | with_reducible apply below_dr | ((with_reducible apply below_tr); (with_reducible assumption))))); intro r w11 h11; obtain ⟨k11, n11, s11, a11, l11, c11, rfl, h11, b11⟩ := h11.has)
              | (go_at_call 12; (with_reducible refine Calls.mono (hcp _ _ _ ?_ ?_) ?_); ((with_reducible refine Has.below tP' ?_); (repeat (first | with_reducible exact Below.refl _ _ | with_reducible apply below_al | with_reducible apply below_dr | ((with_reducible apply below_tr); (with_reducible assumption))))); ((with_reducible refine Has.below tA' ?_); (repeat (first | with_reducible exact Below.refl _ _ | with_reducible apply below_al | with_reducible apply below_dr | ((with_reducible apply below_tr); (with_reducible assumption))))); rintro r w10 ⟨rfl, b10⟩))
            all_goals
              go_wp2_with fail
              go_roundw
              case rel => exact ⟨cp + 1 + 1, by first | rfl | simp | go_num, by omega, below_tr (by (repeat (first | with_reducible exact Below.refl _ _ | with_reducible apply below_al | with_reducible apply below_dr | ((with_reducible apply below_tr); (with_reducible assumption))))) HBR.out⟩
              case measure => simp [intOf] <;> omega
        · have hce : c = m := by omega
          subst hce
          have hltz : ¬ (c : Int) < (c : Int) := by omega
          have hS3 := sort39_at _ S1 wr (HasTs.below HA3.out hbr2) (by rw [← HE.out.1]; exact hm40) (fun t ht => by have := Hone.out t (HP.out.2.2.1 t ht); omega)
          rw [HP.out.1] at hS3
          have hsum : Tm.sizes S1 ≤ 1000000000000 := by
            have h := sizes_le_mul (M := 1000000000) (ks := S1) (fun t ht => Hone.out t (HP.out.2.2.1 t ht))
            have e := HE.out.1
            have : S1.length * 1000000000 ≤ 40 * 1000000000 := Nat.mul_le_mul_right _ (by omega)
            omega
          have HBB := Lib.hid (HB3.out.trans (hbr2.mono HB3.out.size))
          have HSum := Lib.hid hsum
          have HL : Hid (∀ (u : Value) (w5 : World), Below wr.heap.size wr w5 → HasTs w5 u S1 → Calls Try.prog 14 #[u, .slice aA c capA] w5 (Gets w5 (.bool true))) := fun u w5 h5 hu => by
            have h := lists_at S1 S1 u (.slice aA c capA) w5 hu (HasTs.below (HasTs.below HA3.out hbr2) h5) HSum.out HSum.out
            rwa [decide_eq_true rfl] at h
          clear hsum hbr2
          go_wp2_with (first
            | (go_at_call 14; (with_reducible refine Calls.mono (HL.out _ _ b5 hr5) ?_); rintro r w6 ⟨rfl, b6⟩)
            | (go_at_call 15; (with_reducible refine Calls.mono hS3 ?_); clear hS3; rintro e w5 ⟨rc, rfl, hr5', b5⟩; have hr5 := HasTs.below (TsIn.carry (fun _ _ => rfl) (fun b hb => hb.2) hr5') (Below.refl _ _)))
          go_ret
          exact ⟨rfl, HBB.out.trans ((b5.trans (b6.mono b5.size)).mono HBB.out.size)⟩
end Go.Proofs.Ytcicggpcmmnohaa
