/-
  arguments: terms that are separated by commas.
-/
import Derived.Test.YtfencolokfghfaaGreatDoorReadF
namespace Go.Proofs.YtfencolokfghfaaGreatDoor
open Go.RowKit Go.Maps
set_option linter.unusedVariables false
set_option linter.unusedSectionVars false

/-- append, run: a list of one's own, whose terms lie in blocks of which q holds. -/
theorem run_append_q {w : World} (ty : TypeId) (base : Nat) (v u : Value) (q : Nat → Prop) (qs : List Quad) (ks ls : List Tm) (hown : w.ownsRow base 24 4 v ks.length (flatQ qs)) (hq : QsOk q w qs ks) (hqv : ∀ j, q j → j < w.heap.size ∧ v.ownBlock ≠ some j) (hsrc : TsIn q w u ls) (hl : ks.length + ls.length ≤ 1000000000000) (hbase : base ≤ w.heap.size) :
    ∃ v' w' qs', (Builtin.append_ #[22, 22] ty #[v, u]).run Tryz.prog w = .ok v' w' ∧ w'.ownsRow base 24 4 v' (ks ++ ls).length (flatQ qs') ∧ QsOk q w' qs' (ks ++ ls) ∧ w.grownBy w' v.ownBlock ∧ (v'.ownBlock = v.ownBlock ∨ v'.ownBlock = some w.heap.size) := by
  obtain ⟨i0, hi, hz0, hz1, hz2⟩ := info_parts infoTerm
  obtain ⟨a, cap, rs, rfl, h3, h4, h5⟩ := src_quads hsrc
  cases a with
  | none =>
    obtain ⟨rfl, rfl⟩ := h3 rfl
    exact ⟨v, w, qs, run_append_owned_none w base 22 ty 24 i0 4 Tryz.underlying22 hi v ks.length (flatQ qs) hown, by rw [List.append_nil]; exact hown, by rw [List.append_nil]; exact hq, ⟨rfl, rfl, rfl, Nat.le_refl _, fun _ _ _ => rfl⟩, Or.inl rfl⟩
  | some ad =>
    have hql : qs.length = ks.length := hq.1
    have hrl : rs.length = ls.length := h4.1
    obtain ⟨v', w', hr, ho, hg, _, hat⟩ := run_append_own_at (P := Tryz.prog) w base 22 ty 24 i0 _ 4 56 Tryz.underlying22 hi hz0 hz1 hz2 rfl (by decide) v ks.length (flatQ qs) hown ad ls.length cap (flatQ rs) (by rw [flatQ_length, hrl]) (h5 ad rfl) (flatQ_one h4) (by unfold maxLen; omega) (by omega) hbase
    refine ⟨v', w', qs ++ rs, hr, ?_, ?_, hg, hat⟩
    · rw [List.length_append, flatQ_append]; exact ho
    · exact (hq.append h4).carry (fun b hb => hg.block b (hqv b hb).1 (fun e => (hqv b hb).2 e.symm)) (fun b hb => hb)
theorem wpList_append_q {w : World} {ops : Array Oper} {rest : List Oper} {o : Oper} {a : Act} {Q : Exit → Act → World → Prop} (hgd : o.guard = none) (s x : Operand)
    (ho : o.op = .call { callee := .builtin .append, args := #[s, x], argTypes := #[22, 22] })
    (base : Nat) (v u : Value) (q : Nat → Prop) (qs : List Quad) (ks ls : List Tm) (hs : a.eval s = v) (hx : a.eval x = u) (hown : w.ownsRow base 24 4 v ks.length (flatQ qs)) (hq : QsOk q w qs ks) (hqv : ∀ j, q j → j < w.heap.size ∧ v.ownBlock ≠ some j) (hsrc : TsIn q w u ls) (hl : ks.length + ls.length ≤ 1000000000000) (hbase : base ≤ w.heap.size)
    (h : ∀ v' w' qs', w'.ownsRow base 24 4 v' (ks ++ ls).length (flatQ qs') → QsOk q w' qs' (ks ++ ls) → w.grownBy w' v.ownBlock → (v'.ownBlock = v.ownBlock ∨ v'.ownBlock = some w.heap.size) → wpList Tryz.prog ops Q rest (a.put o.dst v') w') : wpList Tryz.prog ops Q (o :: rest) a w := by
  refine wpList_plain hgd fun K hK => ?_
  obtain ⟨v', w', qs', hr, h2, h3, h4, h5⟩ := run_append_q o.type base v u q qs ks ls hown hq hqv hsrc hl hbase
  unfold Oper.wp execOp
  simp only [ho, resolve, invoke, builtin, Sem.run_bind, Sem.run_pure, Result.andThen_ok, List.map_toArray, List.map_cons, List.map_nil, hs, hx, hr]
  exact hK _ _ (h v' w' qs' h2 h3 h4 h5)

/-- A list of terms that reading makes: it lies in a new block g, its terms in others. -/
structure OwnA (c : Cx) (W W' : World) (na : Option Addr) (v : Value) (ks : List Tm) : Prop where
  ex : ∃ qs g cap, v = .slice (some ⟨g, 0, none⟩) ks.length cap ∧ W'.ownsRow W.heap.size 24 4 v ks.length (flatQ qs) ∧ Nw c W W' na g ∧ QsOk (fun j => Nw c W W' na j ∧ j ≠ g) W' qs ks
theorem OwnA.ts {c : Cx} {W W' : World} {na : Option Addr} {v : Value} {ks : List Tm} (h : OwnA c W W' na v ks) : TsIn (Nw c W W' na) W' v ks := by
  obtain ⟨qs, g, cap, rfl, h1, h2, h3⟩ := h.ex
  have hql := h3.1
  obtain ⟨_, ⟨e, h0⟩ | ⟨g', cap', cur, e, hg, hh, hc1, hc2, hc3, hc4⟩⟩ := h1
  · cases e
  · injection e with e1 e2 e3
    injection e1 with e1
    injection e1 with e1
    subst e1 e3
    refine ⟨some ⟨g, 0, none⟩, cap, rfl, by omega, hc2, (fun h => by cases h), fun i hi => ?_⟩
    have hq : i < qs.length := by omega
    obtain ⟨⟨a, l, c', e⟩, hT⟩ := h3.2 i qs[i] ks[i] (List.getElem?_eq_getElem hq) (List.getElem?_eq_getElem hi)
    obtain ⟨g0, g1, g2, g3⟩ := flatQ_get qs i qs[i] (List.getElem?_eq_getElem hq)
    have cell : ∀ j, j < ks.length * 4 → W'.cell? ⟨g, j, none⟩ = (flatQ qs)[j]? := fun j hj => by
      rw [← hc4, List.getElem?_take_of_lt hj]
      simp [World.cell?, hh]
    refine ⟨g, 0, qs[i].1, qs[i].2.1, qs[i].2.2.1, a, l, c', rfl, h2, ?_, ?_, ?_, ?_, ?_⟩
    · rw [Nat.zero_add, cell _ (by omega)]; exact g0
    · rw [Nat.zero_add, cell _ (by omega)]; exact g1
    · rw [Nat.zero_add, cell _ (by omega)]; exact g2
    · rw [Nat.zero_add, cell _ (by omega), g3, e]
    · have hT' := hT.carry (q := Nw c W W' na) (B := W') (fun _ _ => rfl) (fun b hb => hb.1)
      unfold qval at hT'
      rw [e] at hT'
      exact hT'
theorem OwnA.fr {c : Cx} {W W' W'' : World} {na na' : Option Addr} {v : Value} {ks : List Tm} (h : OwnA c W W' na v ks) (f : Fr c W' na W'' na') : OwnA c W W'' na' v ks := by
  obtain ⟨qs, g, cap, rfl, h1, h2, h3⟩ := h.ex
  have kw : ∀ j, Nw c W W' na j → Nw c W W'' na' j := fun j hj => ⟨(f.keep j hj.1).2, hj.2⟩
  refine ⟨qs, g, cap, rfl, ?_, kw g h2, h3.carry (fun j hj => (f.keep j hj.1.1).1) (fun j hj => ⟨kw j hj.1, hj.2⟩)⟩
  obtain ⟨hl, ⟨e, h0⟩ | ⟨g', cap', cur, e, hg, hh, r⟩⟩ := h1
  · cases e
  · refine ⟨hl, .inr ⟨g', cap', cur, e, hg, ?_, r⟩⟩
    injection e with e1
    injection e1 with e1
    injection e1 with e1
    subst e1
    exact (f.keep g h2.1).1.trans hh
theorem OwnA.lt {c : Cx} {W W' : World} {na : Option Addr} {g l cap : Nat} {ks : List Tm} (h : OwnA c W W' na (.slice (some ⟨g, 0, none⟩) l cap) ks) : g < W'.heap.size := by
  obtain ⟨qs, g', cap', e, -, h2, -⟩ := h.ex
  injection e with e1
  injection e1 with e1
  injection e1 with e1
  subst e1
  exact h2.1.1
/-- One term in a block of its own. -/
theorem OwnA.one {c : Cx} {W W' : World} {na : Option Addr} {g : Nat} {k n : Int} {s : ByteArray} {a : Option Addr} {l cp : Nat} {x : Tm} (hx : W'.heap[g]? = some (.cells #[.int .i64 k, .int .i64 n, .string s, .slice a l cp] 24 (0, 0))) (hg : Nw c W W' na g) (ht : TmIn (fun j => Nw c W W' na j ∧ j ≠ g) W' (.agg #[.int .i64 k, .int .i64 n, .string s, .slice a l cp]) x) : OwnA c W W' na (.slice (some ⟨g, 0, none⟩) 1 1) [x] :=
  ⟨[(k, n, s, .slice a l cp)], g, 1, rfl, ⟨rfl, .inr ⟨g, 1, _, rfl, hg.2, hx, Nat.le_refl _, by unfold maxLen; omega, rfl, rfl⟩⟩, hg, rfl, fun i q t h1 h2 => by
    have e : i = 0 := by have := (List.getElem?_eq_some_iff.1 h1).1; simpa using this
    subst e
    simp at h1 h2
    subst h1 h2
    exact ⟨⟨a, l, cp, rfl⟩, ht⟩⟩

/-- A block of one's own written, or a new one. -/
theorem PAt.grown {c : Cx} (hc : c.Ok) {W0 W W' : World} {na0 na : Option Addr} {nc i d : Nat} {ns : Nms} (h : PAt c W na nc i d ns) (f : Fr c W0 na0 W na) {g : Nat} (hg : Nw c W0 W na g) (h0 : c.w0.heap.size ≤ W0.heap.size) (k : W.grownBy W' (some g)) : PAt c W' na nc i d ns ∧ Fr c W0 na0 W' na := by
  obtain ⟨g1, g2, g3⟩ := h.form hc
  have key : ∀ j, j < W.heap.size → j ≠ g → W'.heap[j]? = W.heap[j]? := fun j hj hne => k.block j hj (fun e => hne (by injection e))
  refine ⟨h.carry hc (key _ g2 (Ne.symm hg.1.2.1)) (key _ g3 (Ne.symm hg.1.2.2.1)) (fun a ha => key _ (g1 a ha).2.2.2 (hg.1.2.2.2 a ha)) ?_, Nat.le_trans f.size k.size, fun j hj => ?_⟩
  · have hb := h.bel
    exact ⟨k.os.trans hb.os, k.tape.trans hb.tape, k.output.trans hb.output, Nat.le_trans hb.size k.size, fun j hj => (key j (Nat.lt_of_lt_of_le hj hb.size) (by have := hg.2; omega)).trans (hb.block j hj)⟩
  · obtain ⟨e, hs⟩ := f.keep j hj
    refine ⟨(key j hs.1 (by have := hg.2; have := hj.1; omega)).trans e, Nat.lt_of_lt_of_le hs.1 k.size, hs.2⟩
theorem OwnA.grown {c : Cx} (hc : c.Ok) {W0 W W' : World} {na : Option Addr} {nc i d : Nat} {ns : Nms} (h : PAt c W na nc i d ns) {g : Nat} {v' : Value} {qs : List Quad} {ks : List Tm} (hk : ks ≠ []) (hg : Nw c W0 W na g) (hle : W0.heap.size ≤ W.heap.size) (hq : QsOk (fun j => Nw c W0 W na j ∧ j ≠ g) W' qs ks) (how : W'.ownsRow W0.heap.size 24 4 v' ks.length (flatQ qs)) (k : W.grownBy W' (some g)) (hloc : v'.ownBlock = some g ∨ v'.ownBlock = some W.heap.size) : OwnA c W0 W' na v' ks := by
  have kw : ∀ j, Nw c W0 W na j → Nw c W0 W' na j := fun j hj => ⟨⟨Nat.lt_of_lt_of_le hj.1.1 k.size, hj.1.2⟩, hj.2⟩
  obtain ⟨hl, ⟨e, h0⟩ | ⟨g', cap', cur, e, hg', hh, r⟩⟩ := id how
  · exact absurd (List.eq_nil_of_length_eq_zero h0) hk
  · have hN : Nw c W0 W' na g' := by
      rw [e] at hloc
      rcases hloc with hloc | hloc
      · simp [Value.ownBlock] at hloc; rw [hloc]; exact kw g hg
      · simp [Value.ownBlock] at hloc
        rw [hloc]
        exact ⟨h.new hc k.size (Nat.le_refl _) (by rw [← hloc]; exact (Array.getElem?_eq_some_iff.1 hh).1), hle⟩
    refine ⟨qs, g', cap', e, how, hN, hq.carry (fun _ _ => rfl) (fun j hj => ⟨kw j hj.1, ?_⟩)⟩
    rw [e] at hloc
    rcases hloc with hloc | hloc
    · simp [Value.ownBlock] at hloc; rw [hloc]; exact hj.2
    · simp [Value.ownBlock] at hloc
      have := hj.1.1.1; omega

/-- term reads as r, at so many terms and primaries within. -/
def RAt (c : Cx) (d : Nat) (r : Rdr) : Prop := ∀ W na nc i ns (most : Nat), PAt c W na nc i d ns → most ≤ 1200 → Calls Tryz.prog 66 #[.pointer (some ⟨c.b, 0, none⟩), .int .i64 most] W (OPost c W na d (r most i ns))
/-- What arguments answers. -/
def APost (c : Cx) (W : World) (na : Option Addr) (d : Nat) : Out (List Tm) → Ending → World → Prop
  | .ok ts i' ns', e, W' => ∃ na' nc' a cap, e = .returned (.slice a ts.length cap) ∧ PAt c W' na' nc' i' d ns' ∧ Fr c W na W' na' ∧ TsIn (Nw c W W' na') W' (.slice a ts.length cap) ts
  | .bad i' code, e, W' => e = faultE i' code ∧ Kp c W na W'

section
variable (c : Cx) (hc : c.Ok) {W : World} {na : Option Addr} {nc i d : Nat} {ns : Nms} (h : PAt c W na nc i d ns) {r : Rdr} (hr : RAt c d r) (h7 : Reads7 c.L r)
include hc h hr h7
set_option maxRecDepth 100000 in
set_option maxHeartbeats 4000000 in
theorem arguments_at : Calls Tryz.prog 124 #[.pointer (some ⟨c.b, 0, none⟩)] W (APost c W na d (argsG c.L r i ns)) := by
  have h0 := hr W na nc i ns 999 h (by omega)
  unfold argsG
  cases hr0 : r 999 i ns with
  | bad i' code =>
    rw [hr0] at h0
    unfold OPost at h0
    go_enter Tryz.func124, Tryz.ntmps124
    go_wp2_with (go_at_call 66; refine h0.mono ?_; rintro e W4 ⟨he, hK⟩; unfold faultE at he; subst he)
    exact ⟨rfl, rfl, hK⟩
  | ok T0 i0 ns0 =>
    rw [hr0] at h0
    unfold OPost at h0
    dsimp only [Out.bind]
    have hs0 := (h7 _ _ _ _ _ _ hr0)
    go_enter Tryz.func124, Tryz.ntmps124
    go_wp2_with (first | (go_at_call 66; refine h0.mono ?_; rintro e W1 ⟨na1, nc1, k, n, s, a, l, cp, rfl, h1, f1, hT1⟩))
    obtain ⟨h2, s2, x2, f2⟩ := h1.fresh hc #[.int .i64 k, .int .i64 n, .string s, .slice a l cp] 24
    have hW1 := f1.size
    have hA2 : OwnA c W (W1.alloc (.cells #[.int .i64 k, .int .i64 n, .string s, .slice a l cp] 24)) na1 (.slice (some ⟨W1.heap.size, 0, none⟩) 1 1) [T0] :=
      OwnA.one x2 ⟨s2, hW1⟩ (hT1.carry (fun j hj => (f2.keep j hj.1).1) (fun j hj => ⟨⟨(f2.keep j hj.1).2, hj.2⟩, by have := hj.1.1; omega⟩))
    have f12 := f1.trans f2
    have hle2 := hs0.1.size
    have hpos := T0.size_pos
    have hi0 := h2.le
    rw [Tm.sizes_cons, Tm.sizes_nil] at hle2
    generalize W1.alloc (.cells #[.int .i64 k, .int .i64 n, .string s, .slice a l cp] 24) = W2 at *
    generalize W1.heap.size = G2 at *
    clear h0 hT1 f1 f2 s2 x2 h1 hW1
    have hlen := hc.len
    go_loopg [3] (c.L.length + 1 - i0) (fun g x wr => ∃ na3 nc3 i3 ns3 acc, PAt c wr na3 nc3 i3 d ns3 ∧ Fr c W na wr na3 ∧ OwnA c W wr na3 x acc ∧ moreG c.L r (c.L.length + 1 - i0) [T0] i0 ns0 = moreG c.L r g acc i3 ns3 ∧ c.L.length + 1 ≤ i3 + g ∧ acc.length ≤ i3)
    case atStart => exact ⟨na1, nc1, i0, ns0, [T0], h2, f12, hA2, rfl, by omega, by simp; omega⟩
    case round =>
      obtain ⟨na3, nc3, i3, ns3, acc, h3, f3, hA3, hgh, hfu, hal⟩ := hrel
      clear h2 hA2 f12
      have hle3 := h3.le
      obtain ⟨m, rfl⟩ : ∃ m, gk = m + 1 := ⟨gk - 1, by omega⟩
      have A := Lib.hid hgh
      clear hgh
      obtain ⟨g3, cap3, rfl⟩ : ∃ g3 cap3, u3 = .slice (some ⟨g3, 0, none⟩) acc.length cap3 := by
        obtain ⟨qs', g', cap', e, -⟩ := hA3.ex
        exact ⟨g', cap', e⟩
      cases hp : isP (ahd c.L i3) [44] with
      | false =>
        have hno := take_no c hc h3 (ByteArray.mk #[44]) [44] rfl hp
        have hgo : moreG c.L r (c.L.length + 1 - i0) [T0] i0 ns0 = .ok acc i3 ns3 := by rw [A.out]; unfold moreG; rw [hp]; rfl
        go_wp2_with (go_at_call 121; refine hno.mono ?_; rintro e W4 ⟨rfl, h4, f4⟩)
        go_ret
        rw [hgo]
        have hA4 := hA3.fr f4
        exact ⟨na3, nc3, _, cap3, rfl, h4, f3.trans f4, hA4.ts⟩
      | true =>
        have hyes := take_yes c hc h3 (ByteArray.mk #[44]) [44] rfl hp
        have hgo : moreG c.L r (c.L.length + 1 - i0) [T0] i0 ns0 = (r 999 (i3 + 1) ns3).bind fun t i ns => moreG c.L r m (acc ++ [t]) i ns := by
          have e9 : moreG c.L r (m + 1) acc i3 ns3 = if isP (ahd c.L i3) [44] then (r 999 (i3 + 1) ns3).bind fun t i ns => moreG c.L r m (acc ++ [t]) i ns else .ok acc i3 ns3 := rfl
          rw [A.out, e9, hp, if_pos rfl]
        have ht := fun W' (h' : PAt c W' na3 nc3 (i3 + 1) d ns3) => hr W' na3 nc3 (i3 + 1) ns3 999 h' (by omega)
        cases hr3 : r 999 (i3 + 1) ns3 with
        | bad i' code =>
          rw [hr3] at ht hgo
          unfold OPost at ht
          have HG := Lib.hid hgo
          clear hgo
          go_wp2_with (first | (go_at_call 121; refine hyes.mono ?_; rintro e W4 ⟨rfl, h4, f4⟩) | (go_at_call 66; refine (ht _ h4).mono ?_; rintro e W5 ⟨he, hK⟩; unfold faultE at he; subst he))
          rw [HG.out]
          exact ⟨rfl, rfl, (f3.trans f4).kpt hK⟩
        | ok T3 i4 ns4 =>
          rw [hr3] at ht hgo
          unfold OPost at ht
          dsimp only [Out.bind] at hgo
          have HG := Lib.hid hgo
          clear hgo
          have hs3 := h7 _ _ _ _ _ _ hr3
          have hle4 := hs3.1.len
          go_wp2_with (first
            | (go_at_call 121; refine hyes.mono ?_; rintro e W4 ⟨rfl, h4, f4⟩)
            | (go_at_call 66; refine (ht _ h4).mono ?_; rintro e W5 ⟨na5, nc5, k, n, s, a, l, cp, rfl, h5, f5, hT5⟩; have hA5 := hA3.fr (f4.trans f5); obtain ⟨h6, s6, x6, f6⟩ := h5.fresh hc #[.int .i64 k, .int .i64 n, .string s, .slice a l cp] 24; have hA6 := hA5.fr f6; obtain ⟨qs6, g6, cap6, e6, how6, hg6, hq6⟩ := hA6.ex; injection e6 with e61 e62 e63; injection e61 with e61; injection e61 with e61; subst e61 e63; have hW5 : W.heap.size ≤ W5.heap.size := (f3.trans (f4.trans f5)).size; have hgl : g3 < W5.heap.size := (hA5.fr (Fr.refl _ _ _)).lt)
            | (at_builtin; refine wpList_append_q rfl _ _ rfl W.heap.size (.slice (some ⟨g3, 0, none⟩) acc.length cap3) (.slice (some ⟨W5.heap.size, 0, none⟩) 1 1) (fun j => Nw c W (W5.alloc (.cells #[.int .i64 k, .int .i64 n, .string s, .slice a l cp] 24)) na5 j ∧ j ≠ g3) qs6 acc [T3] rfl rfl how6 hq6 (fun j hj => ⟨hj.1.1.1, by simp [Value.ownBlock]; exact fun e => hj.2 e.symm⟩) (one_ts x6 ⟨⟨s6, hW5⟩, by omega⟩ (hT5.carry (fun j hj => (f6.keep j hj.1).1) (fun j hj => ⟨⟨(f6.keep j hj.1).2, Nat.le_trans (f3.trans f4).size hj.2⟩, by have h91 := hj.2; have h92 := (hA3.fr f4).lt; omega⟩))) (by simp; omega) (by simp; omega) ?_; intro v7 W7 qs7 how7 hq7 hg7 hloc7))
          have f16 := (f3.trans (f4.trans f5)).trans f6
          obtain ⟨h8, f8⟩ := h6.grown hc f16 hg6 h.bel.size hg7
          have hA8 := OwnA.grown hc h6 (by simp) hg6 f16.size hq7 how7 hg7 hloc7
          go_roundg m
          case measure => omega
          case rel => exact ⟨na5, nc5, i4, ns4, acc ++ [T3], h8, f8, hA8, HG.out, by have := hs3.2; omega, by have := hs3.2; simp; omega⟩
end
end Go.Proofs.YtfencolokfghfaaGreatDoor
