/-
  unify.Match.
-/
import Derived.Test.YtfjnajngelemkaaZUniG
namespace Go.Proofs.Ytfjnajngelemkaa
open Go.RowKit Go.Shelf
open Classical
set_option linter.unusedVariables false
set_option linter.unusedSimpArgs false

/-- What Match answers. -/
def MatchP (n₀ : Nat) (w : World) (b : Nat) (V L : Value) (R : Out) (e : Ending) (w' : World) : Prop :=
  e = .returned (.tuple #[.bool R.is, .int .i64 (R.lv : Int), .int .i64 R.err]) ∧ ∃ L', StAt (Oth w' b V L') n₀ w' b V L' R.σ ∧ Mut w b V L w' V L'
/-- What holds while Match goes. -/
def MInv (n₀ N : Nat) (w : World) (b : Nat) (V L : Value) (R : Out) (v : Value) (Ls : List LL) (l c : Nat) (wr : World) : Prop := (c ≤ 2000 ∧ Ls.length ≤ c + 1) ∧ l < N ∧ ∃ σ' L', run N (2000 - c) σ' (pend Ls) l = R ∧ StAt (Oth wr b V L') n₀ wr b V L' σ' ∧ σ'.Gv N ∧ Mut w b V L wr V L' ∧ RestAt (Oth wr b V L') wr w.heap.size v Ls ∧ ∀ x ∈ Ls, OkL N x
theorem MInv.row {n₀ N : Nat} {w : World} {b : Nat} {V L : Value} {R : Out} {v : Value} {Ls : List LL} {l c : Nat} {wr : World} (h : MInv n₀ N w b V L R v Ls l c wr) : ∃ g cap cur, v = .slice (some ⟨g, 0, none⟩) Ls.length cap ∧ w.heap.size ≤ g ∧ wr.heap[g]? = some (.cells cur 91 (0, 0)) ∧ Ls.length ≤ cap ∧ cap ≤ maxLen ∧ cur.size = cap * 2 ∧ ∀ u ∈ cur.toList, IsSl u := by
  obtain ⟨_, _, _, _, _, _, _, _, ⟨ps, hr, hl, _⟩, _⟩ := h
  obtain ⟨g, cap, cur, rfl, h1, h2, h3, h4, h5, _, _, h8⟩ := hr
  exact ⟨g, cap, cur, by rw [hl], h1, h2, by omega, h4, h5, h8⟩
/-- The last lists' cells. -/
theorem RestAt.top {q : Nat → Prop} {W : World} {base g m cap : Nat} {Ls : List LL} {x : LL} (h : RestAt q W base (.slice (some ⟨g, 0, none⟩) m cap) (Ls ++ [x])) : ∃ va vb, W.cell? ⟨g, Ls.length * 2, none⟩ = some va ∧ W.cell? ⟨g, Ls.length * 2 + 1, none⟩ = some vb ∧ TsIn q W va x.1 ∧ TsIn q W vb x.2 := by
  obtain ⟨ps, ⟨g', cap', cur, e, h1, h2, h3, h4, h5, h6, h7, h8⟩, hl, hx⟩ := h
  simp only [Value.slice.injEq, Option.some.injEq, Addr.mk.injEq, and_true, true_and] at e
  obtain ⟨rfl, rfl, rfl⟩ := e
  have hpl : ps.length = Ls.length + 1 := by rw [hl, List.length_append]; rfl
  obtain ⟨ps0, p, rfl⟩ : ∃ ps0 p, ps = ps0 ++ [p] := by
    rcases List.eq_nil_or_concat ps with rfl | ⟨a, b, rfl⟩
    · simp at hpl
    · exact ⟨a, b, by simp⟩
  have hp0 : ps0.length = Ls.length := by rw [List.length_append] at hpl; simpa using hpl
  obtain ⟨t1, t2⟩ := hx Ls.length p x (by rw [← hp0]; simp) (by simp)
  have cell : ∀ j, j < (ps0 ++ [p]).length * 2 → W.cell? ⟨g, j, none⟩ = (flatP (ps0 ++ [p]))[j]? := fun j hj => by
    rw [← h6, List.getElem?_take_of_lt hj]
    simp [World.cell?, h2]
  refine ⟨p.1, p.2, ?_, ?_, t1, t2⟩
  · rw [cell _ (by rw [List.length_append, hp0]; simp), flatP_append, List.getElem?_append_right (by rw [flatP_len, hp0]; omega), flatP_len, hp0, Nat.sub_self]; rfl
  · rw [cell _ (by rw [List.length_append, hp0]; simp; omega), flatP_append, List.getElem?_append_right (by rw [flatP_len, hp0]; omega), flatP_len, hp0, show Ls.length * 2 + 1 - Ls.length * 2 = 1 by omega]; rfl
/-- The last lists are done. -/
theorem RestAt.pop {q : Nat → Prop} {W : World} {base g m cap k : Nat} {Ls : List LL} {x : LL} (h : RestAt q W base (.slice (some ⟨g, 0, none⟩) m cap) (Ls ++ [x])) (hk : k = Ls.length) : RestAt q W base (.slice (some ⟨g, 0, none⟩) k cap) Ls := by
  obtain ⟨ps, ⟨g', cap', cur, e, h1, h2, h3, h4, h5, h6, h7, h8⟩, hl, hx⟩ := h
  simp only [Value.slice.injEq, Option.some.injEq, Addr.mk.injEq, and_true, true_and] at e
  obtain ⟨rfl, rfl, rfl⟩ := e
  have hpl : ps.length = Ls.length + 1 := by rw [hl, List.length_append]; rfl
  obtain ⟨ps0, p, rfl⟩ : ∃ ps0 p, ps = ps0 ++ [p] := by
    rcases List.eq_nil_or_concat ps with rfl | ⟨a, b, rfl⟩
    · simp at hpl
    · exact ⟨a, b, by simp⟩
  have hp0 : ps0.length = Ls.length := by rw [List.length_append] at hpl; simpa using hpl
  subst hk
  refine ⟨ps0, ⟨g, cap, cur, by rw [hp0], h1, h2, by omega, h4, h5, ?_, flatP_len _, h8⟩, hp0, fun i p' l e1 e2 => ?_⟩
  · have h6' := congrArg (List.take (ps0.length * 2)) h6
    rw [List.take_take, flatP_append, List.take_left' (by rw [flatP_len])] at h6'
    rw [← h6']
    congr 1
    rw [List.length_append]
    simp <;> omega
  · have hi : i < ps0.length := (List.getElem?_eq_some_iff.1 e1).1
    exact hx i p' l (by rw [List.getElem?_append_left hi]; exact e1) (by rw [List.getElem?_append_left (by omega)]; exact e2)
theorem StAt.oth_row {p : Nat → Prop} {n₀ : Nat} {W : World} {b g : Nat} {V L : Value} {σ : St} {cur : Array Value} (h : StAt p n₀ W b V L σ) (hg : W.heap[g]? = some (.cells cur 91 (0, 0))) : Oth W b V L g := by
  refine ⟨(Array.getElem?_eq_some_iff.1 hg).1, fun e => ?_, fun e => ?_, fun e => ?_⟩
  · subst e
    have := h.box
    rw [hg] at this
    cases this
  · obtain ⟨xs, hr, _⟩ := h.rV
    obtain ⟨h1, ⟨rfl, h0⟩ | ⟨g1, cap, cur', rfl, _, hh, _⟩⟩ := hr
    · cases e
    · cases e; rw [hg] at hh; cases hh
  · obtain ⟨rfl, -⟩ | ⟨g2, cap2, cur2, rfl, _, hh2, _⟩ := h.rL
    · cases e
    · cases e; rw [hg] at hh2; cases hh2
theorem RestAt.noInts {q : Nat → Prop} {W : World} {base g m cap : Nat} {Ls : List LL} (h : RestAt q W base (.slice (some ⟨g, 0, none⟩) m cap) Ls) : ∀ j x, W.cell? ⟨g, j, none⟩ ≠ some (.int .i64 x) := by
  obtain ⟨ps, hr, _⟩ := h
  exact RowP.noInts (a := none) hr
/-- The last lists give way to others. -/
theorem RestAt.turn {q q' : Nat → Prop} {W W' : World} {base g m cap : Nat} {Ls : List LL} {x y : LL} {cur : Array Value} {va vb : Value} (h : RestAt q W base (.slice (some ⟨g, 0, none⟩) m cap) (Ls ++ [x])) (hg : W.heap[g]? = some (.cells cur 91 (0, 0)))
    (hq : ∀ c, q c → c < W.heap.size) (hqq : ∀ c, q c → q' c) (hB : ButN g W W') (hg' : W'.heap[g]? = some (.cells ((cur.setIfInBounds (Ls.length * 2) va).setIfInBounds (Ls.length * 2 + 1) vb) 91 (0, 0))) (ha : TsIn q' W' va y.1) (hb : TsIn q' W' vb y.2) : RestAt q' W' base (.slice (some ⟨g, 0, none⟩) m cap) (Ls ++ [y]) := by
  have hno := h.noInts
  obtain ⟨ps, ⟨g', cap', cur', e, h1, h2, h3, h4, h5, h6, h7, h8⟩, hl, hx⟩ := h
  simp only [Value.slice.injEq, Option.some.injEq, Addr.mk.injEq, and_true, true_and] at e
  obtain ⟨rfl, rfl, rfl⟩ := e
  rw [hg] at h2
  cases h2
  have hpl : ps.length = Ls.length + 1 := by rw [hl, List.length_append]; rfl
  obtain ⟨ps0, p, rfl⟩ : ∃ ps0 p, ps = ps0 ++ [p] := by
    rcases List.eq_nil_or_concat ps with rfl | ⟨a, b, rfl⟩
    · simp at hpl
    · exact ⟨a, b, by simp⟩
  have hp0 : ps0.length = Ls.length := by rw [List.length_append] at hpl; simpa using hpl
  rw [← hp0] at hg'
  have e1 : (ps0 ++ [(va, vb)]).length = (ps0 ++ [p]).length := by rw [List.length_append, List.length_append]; rfl
  refine ⟨ps0 ++ [(va, vb)], ⟨g, cap, _, by rw [e1], h1, hg', by rw [e1]; exact h3, h4, by simpa using h5, ?_, by rw [flatP_len], ?_⟩, by rw [List.length_append, List.length_append, hp0]; rfl, ?_⟩
  · rw [e1]
    refine List.ext_getElem? fun j => ?_
    have h6j := congrArg (fun l : List Value => l[j]?) h6
    simp only [List.getElem?_take, flatP_append] at h6j
    rw [List.getElem?_take, flatP_append]
    have hn2 : (ps0 ++ [p]).length = ps0.length + 1 := by rw [List.length_append]; rfl
    by_cases hj : j < (ps0 ++ [p]).length * 2
    · rw [if_pos hj] at h6j ⊢
      rw [Array.getElem?_toList, Array.getElem?_setIfInBounds, Array.getElem?_setIfInBounds]
      rw [Array.size_setIfInBounds]
      by_cases hj1 : j < ps0.length * 2
      · rw [if_neg (by omega), if_neg (by omega)]
        rw [List.getElem?_append_left (by rw [flatP_len]; exact hj1)] at h6j ⊢
        rw [← h6j, Array.getElem?_toList]
      · rw [List.getElem?_append_right (by rw [flatP_len]; omega), flatP_len]
        by_cases hj2 : j = ps0.length * 2
        · subst hj2
          rw [if_neg (by omega), if_pos rfl, if_pos (by omega), Nat.sub_self]; rfl
        · have hj3 : j = ps0.length * 2 + 1 := by omega
          subst hj3
          rw [if_pos rfl, if_pos (by omega), show ps0.length * 2 + 1 - ps0.length * 2 = 1 by omega]; rfl
    · rw [if_neg hj, List.getElem?_append_right (by rw [flatP_len]; omega), flatP_len, List.getElem?_eq_none]
      show 2 ≤ j - ps0.length * 2
      omega
  · intro u hu
    rw [Array.toList_setIfInBounds, Array.toList_setIfInBounds] at hu
    rcases List.mem_or_eq_of_mem_set hu with hu | rfl
    · rcases List.mem_or_eq_of_mem_set hu with hu | rfl
      · exact h8 u hu
      · exact ha.sl
    · exact hb.sl
  · intro i p' l e2 e3
    by_cases hi : i < ps0.length
    · rw [List.getElem?_append_left hi] at e2
      rw [List.getElem?_append_left (by omega)] at e3
      obtain ⟨t1, t2⟩ := hx i p' l (by rw [List.getElem?_append_left hi]; exact e2) (by rw [List.getElem?_append_left (by omega)]; exact e3)
      exact ⟨(ts_avoid hno t1).carry (fun c hc => hB.same c (hq c hc.1) hc.2) (fun c hc => hqq c hc.1), (ts_avoid hno t2).carry (fun c hc => hB.same c (hq c hc.1) hc.2) (fun c hc => hqq c hc.1)⟩
    · rw [List.getElem?_append_right (by omega)] at e2
      rw [List.getElem?_append_right (by omega), ← hp0] at e3
      obtain ⟨j, hj⟩ : ∃ j, j = i - ps0.length := ⟨_, rfl⟩
      rw [← hj] at e2 e3
      cases j with
      | zero => simp at e2 e3; subst e2 e3; exact ⟨ha, hb⟩
      | succ j => simp at e2
/-- The row stays where its block does. -/
theorem RestAt.keep {q q' : Nat → Prop} {W W' : World} {base g m cap : Nat} {Ls : List LL} (h : RestAt q W base (.slice (some ⟨g, 0, none⟩) m cap) Ls) (hg : W'.heap[g]? = W.heap[g]?) (hk : ∀ c, q c → W'.heap[c]? = W.heap[c]?) (hqq : ∀ c, q c → q' c) : RestAt q' W' base (.slice (some ⟨g, 0, none⟩) m cap) Ls := by
  obtain ⟨ps, hr, hl, hx⟩ := h
  refine ⟨ps, hr.later (fun b hb => by cases hb; exact hg), hl, fun i p l e1 e2 => ?_⟩
  obtain ⟨t1, t2⟩ := hx i p l e1 e2
  exact ⟨t1.carry hk hqq, t2.carry hk hqq⟩
theorem grown_but {W W' : World} {g : Nat} (h : W.grownBy W' (some g)) : ButN g W W' := ⟨h.os, h.tape, h.output, h.size, fun k hk hne => h.block k hk (fun e => hne (Option.some.inj e))⟩
/-- Lists more. -/
theorem RestAt.push {q : Nat → Prop} {W : World} {base g m cap B : Nat} {Ls : List LL} {y : LL} {va vb : Value} (ty : TypeId) (h : RestAt q W base (.slice (some ⟨g, 0, none⟩) m cap) Ls) (hB : W.heap[B]? = some (.cells #[va, vb] 91 (0, 0))) (ha : TsIn q W va y.1) (hb : TsIn q W vb y.2) (hl : m + 1 ≤ 1000000000000) (hbase : base ≤ W.heap.size)
    (hq : ∀ c, q c → c < W.heap.size) :
    ∃ g' cap' W', (Builtin.append_ #[92, 92] ty #[.slice (some ⟨g, 0, none⟩) m cap, .slice (some ⟨B, 0, none⟩) 1 1]).run Try.prog W = .ok (.slice (some ⟨g', 0, none⟩) (m + 1) cap') W' ∧ ButN g W W' ∧ (∀ q' : Nat → Prop, (∀ c, q c → q' c) → RestAt q' W' base (.slice (some ⟨g', 0, none⟩) (m + 1) cap') (Ls ++ [y])) := by
  have hno := h.noInts
  obtain ⟨ps, hr, hlen, hx⟩ := h
  have hm : m = ps.length := by obtain ⟨g', cap', cur', e, _⟩ := hr; injection e
  subst hm
  obtain ⟨v', W', hrun, hrow, hg, hat⟩ := run_append_pairs W ty base _ ps.length (flatP ps) hr B va vb ha.sl hb.sl hB hl hbase
  obtain ⟨g', cap', cur', rfl, r⟩ := id hrow
  have hbt : ButN g W W' := grown_but hg
  refine ⟨g', cap', W', hrun, hbt, fun q' hqq => ⟨ps ++ [(va, vb)], ?_, by rw [List.length_append, List.length_append, hlen]; rfl, fun i p l e1 e2 => ?_⟩⟩
  · rw [List.length_append, flatP_append]
    exact hrow
  · have car : ∀ {v : Value} {us : List Tm}, TsIn q W v us → TsIn q' W' v us := fun ht => (ts_avoid hno ht).carry (fun c hc => hbt.same c (hq c hc.1) hc.2) (fun c hc => hqq c hc.1)
    by_cases hi : i < ps.length
    · rw [List.getElem?_append_left hi] at e1
      rw [List.getElem?_append_left (by omega)] at e2
      obtain ⟨t1, t2⟩ := hx i p l e1 e2
      exact ⟨car t1, car t2⟩
    · rw [List.getElem?_append_right (by omega)] at e1
      rw [List.getElem?_append_right (by omega), ← hlen] at e2
      obtain ⟨j, hj⟩ : ∃ j, j = i - ps.length := ⟨_, rfl⟩
      rw [← hj] at e1 e2
      cases j with
      | zero => simp at e1 e2; subst e1 e2; exact ⟨car ha, car hb⟩
      | succ j => simp at e1
def lenV : Value → Nat
  | .slice _ l _ => l
  | _ => 0

set_option maxRecDepth 100000 in
set_option maxHeartbeats 16000000 in
theorem match_at {n₀ N : Nat} {w : World} {b lb : Nat} {V L : Value} {σ : St} (h : StAt (Oth w b V L) n₀ w b V L σ) (hn₀ : n₀ ≤ w.heap.size) (hL : ChainAt w lb N) (hLo : Oth w b V L lb) (hgs : σ.Gv N) (va vb : Value) (As Bs : List Tm)
    (hA : TsIn (Oth w b V L) w va As) (hB : TsIn (Oth w b V L) w vb Bs) (hok : OkL N (As, Bs)) :
    Calls Try.prog 25 #[.pointer (some ⟨b, 0, none⟩), .pointer (some ⟨lb, 0, none⟩), va, vb] w (MatchP n₀ w b V L (run N 2000 σ (As.zip Bs) 0)) := by
  have hlen := hok.1
  obtain ⟨sa, ca, rfl, -⟩ := id hA
  obtain ⟨sb, cb, rfl, -⟩ := id hB
  obtain ⟨la, hla⟩ : ∃ la, la = As.length := ⟨_, rfl⟩
  have hlb : la = Bs.length := hla.trans hlen
  rw [← hla] at hA
  rw [← hlb] at hB
  have eA : As.length = la := hla.symm
  have eB : Bs.length = la := hlb.symm
  rw [eA, eB]
  obtain ⟨R, hR⟩ : ∃ R, run N 2000 σ (As.zip Bs) 0 = R := ⟨_, rfl⟩
  rw [hR]
  have hNpos := hL.pos
  have hbot := (ch_bottom hL).mono (R' := fun e w' => e = .returned (.int .i64 0) ∧ Below w.heap.size w w') (fun e w' h7 => h7.below)
  have HG := Lib.hid (And.intro h (And.intro hn₀ (And.intro hL (And.intro hLo (And.intro hgs (And.intro hA (And.intro hB (And.intro hok (And.intro hR hNpos)))))))))
  clear h hn₀ hL hLo hgs hA hB hok hR hlen hla hlb eA eB hNpos
  go_enter Try.func25, Try.ntmps25
  go_wp2_with fail
  go_step3
  go_wp2_with (go_at_call 19; refine hbot.mono ?_; clear hbot; rintro e w1 ⟨rfl, hb1⟩)
  go_step3
  go_wp2_with fail
  have hinit : Hid (MInv n₀ N w b V L R (.slice (some ⟨w1.heap.size, 0, none⟩) 1 1) [(As, Bs)] 0 0 (w1.alloc (.cells #[.slice sa la ca, .slice sb la cb] 91))) := by
    obtain ⟨h, hn₀, hL, hLo, hgs, hA, hB, hok, hR, hNpos⟩ := HG.out
    have hB1 : Below w.heap.size w (w1.alloc (.cells #[.slice sa la ca, .slice sb la cb] 91)) := hb1.alloc hb1.size _
    refine ⟨⟨by omega, Nat.le_refl _⟩, hNpos, σ, L, by rw [← hR, show pend [(As, Bs)] = As.zip Bs from by simp [pend]], h.step hB1, hgs, Mut.of_below hB1, ⟨[(.slice sa la ca, .slice sb la cb)], ⟨w1.heap.size, 1, _, rfl, hb1.size, World.alloc_heap_new _ _, Nat.le_refl _, by unfold maxLen; omega, rfl, rfl, rfl, ?_⟩, rfl, ?_⟩, fun x hx => ?_⟩
    · intro u hu
      simp at hu
      rcases hu with rfl | rfl <;> exact ⟨_, _, _, rfl⟩
    · intro i p l h1 h2
      match i, h1, h2 with
      | 0, h1, h2 =>
        simp at h1 h2
        subst h1 h2
        exact ⟨hA.carry (fun c hc => hB1.block c hc.1) (fun c hc => hc.below hB1), hB.carry (fun c hc => hB1.block c hc.1) (fun c hc => hc.below hB1)⟩
      | i + 1, h1, h2 => simp at h1
    · rw [List.mem_singleton.1 hx]; exact hok
  clear hb1
  go_loopw [11, 12, 13] (fun lvv ctv rsv wr => ∃ (l c g m cap : Nat) (Ls : List LL), lvv = .int .i64 (l : Int) ∧ ctv = .int .i64 (c : Int) ∧ rsv = .slice (some ⟨g, 0, none⟩) m cap ∧ m = Ls.length ∧ Hid (MInv n₀ N w b V L R (.slice (some ⟨g, 0, none⟩) m cap) Ls l c wr)) (fun _ ctv rsv _ => 2 * (2000 - (intOf ctv).toNat) + lenV rsv)
  case atStart => exact ⟨0, 0, w1.heap.size, 1, 1, [(As, Bs)], rfl, rfl, rfl, rfl, hinit⟩
  case round =>
    obtain ⟨l, c, g, m, cap, Ls, rfl, rfl, rfl, hm, HI⟩ := hrel
    clear hinit
    by_cases h0 : m = 0
    · subst h0
      have hLs : Ls = [] := List.eq_nil_of_length_eq_zero hm.symm
      subst hLs
      clear hm
      go_wp2_with fail
      rw [Exit.noGoto_ret]
      refine bodyPost_ret (v := .tuple #[.bool true, .int .i64 (l : Int), .int .i64 0]) (by simp [results, Try.f25, go_sem]) rfl ?_
      obtain ⟨_, _, σ', L', hr, hS, _, hM, _, _⟩ := HI.out
      rw [show pend [] = [] from rfl, run_nil] at hr
      subst hr
      exact ⟨rfl, L', hS, hM⟩
    · obtain ⟨Ls0, x, rfl⟩ : ∃ Ls0 x, Ls = Ls0 ++ [x] := by
        rcases List.eq_nil_or_concat Ls with rfl | ⟨a, y, rfl⟩
        · exact absurd hm h0
        · exact ⟨a, y, by simp⟩
      obtain ⟨k, hk⟩ : ∃ k, k = Ls0.length := ⟨_, rfl⟩
      have hmk : m = k + 1 := by rw [hm, hk, List.length_append]; rfl
      have hmx : m ≤ maxLen := by
        obtain ⟨g', cap', cur', e, _, _, h3, h4, _⟩ := HI.out.row
        omega
      have hm63 : (m : Int) ≤ 9223372036854775807 := by unfold maxLen at hmx; omega
      have hw1 : IntKind.i64.wrap ((m : Int) - 1) = (k : Int) := by rw [IntKind.wrap_i64]; omega
      have hk0 : (0 : Int) ≤ (k : Int) := by omega
      have hkm : (k : Int) < (m : Int) := by omega
      have hkm' : k < m := by omega
      have hm0 : (m : Int) > 0 := by omega
      have HK := Lib.hid (And.intro hk (And.intro hmk hm))
      clear hk hmk hm hmx h0
      go_wp2_with fail
      obtain ⟨Wo, rfl⟩ : ∃ Wo, Wo = wr := ⟨_, rfl⟩
      rw [show decide (0 < m) = true from decide_eq_true (by omega)]
      go_loopw [11, 12, 13] (fun lvv ctv rsv wi => ∃ (l' c' : Nat) (y : LL), lvv = .int .i64 (l' : Int) ∧ ctv = .int .i64 (c' : Int) ∧ rsv = .slice (some ⟨g, 0, none⟩) m cap ∧ c ≤ c' ∧ Hid (MInv n₀ N w b V L R (.slice (some ⟨g, 0, none⟩) m cap) (Ls0 ++ [y]) l' c' wi)) (fun _ ctv _ _ => 2000 - (intOf ctv).toNat)
      case atStart => exact ⟨l, c, x, rfl, rfl, rfl, Nat.le_refl _, HI⟩
      case round =>
        obtain ⟨l', c', ⟨xs, ys⟩, rfl, rfl, rfl, hcc, HJ⟩ := hrel
        clear HI
        obtain ⟨hc, hl, σ', L', hr, hS, hgv, hM, hRst, hOk⟩ := id HJ.out
        obtain ⟨va, vb, q0, q1, tA, tB⟩ := hRst.top
        have hoky := hOk (xs, ys) (by simp)
        rw [← HK.out.1] at q0 q1
        match xs, ys, hoky with
        | [], ys, hoky =>
          obtain ⟨ya, yc, rfl, -, -⟩ := id tA
          have q0' : wr.cell? ⟨g, k * 2, none⟩ = some (.slice ya 0 yc) := q0
          have hcap : m ≤ cap := by obtain ⟨g', cap', cur, e, _, _, h3, _⟩ := HJ.out.row; simp only [Value.slice.injEq, Option.some.injEq, Addr.mk.injEq, and_true, true_and] at e; have := e.2.1; have := e.2.2; omega
          have hkc : (k : Int) ≤ (cap : Int) := by omega
          have hkc' : k ≤ cap := by omega
          clear q0 q1 tA tB hc hl hr hS hgv hM hRst hOk hoky hcap
          have hpop : Hid (MInv n₀ N w b V L R (.slice (some ⟨g, 0, none⟩) k cap) Ls0 l' c' wr) := by
            obtain ⟨hc, hl, σ', L', hr, hS, hgv, hM, hRst, hOk⟩ := HJ.out
            refine ⟨⟨hc.1, by have := hc.2; rw [List.length_append] at this; simp at this; omega⟩, hl, σ', L', ?_, hS, hgv, hM, hRst.pop HK.out.1, fun x hx => hOk x (List.mem_append_left _ hx)⟩
            rw [pend_snoc] at hr
            exact hr
          have hk2 := HK.out.1
          have HH2 := Lib.hid hk2
          clear HJ hk2
          go_wp2_with fail
          exact ⟨⟨l', c', g, k, cap, Ls0, rfl, rfl, rfl, HH2.out, hpop⟩, by simp [intOf, lenV]; omega⟩
        | a :: xs1, [], hoky => exact absurd hoky.1 (by simp)
        | a :: xs1, d :: ys1, hoky =>
          /- MAIN -/
          obtain ⟨ya, yc, rfl, hyl, -⟩ := id tA
          obtain ⟨lx, hlx⟩ : ∃ lx, lx = (a :: xs1).length := ⟨_, rfl⟩
          have hlx1 : lx = xs1.length + 1 := hlx
          rw [← hlx] at q0
          have hlx0 : (lx : Int) > 0 := by omega
          have hlx2 : 0 < lx := by omega
          by_cases hc2 : c' = 2000
          · subst hc2
            have hfin : Hid (R = ⟨false, l', 3, σ'⟩ ∧ StAt (Oth wr b V L') n₀ wr b V L' σ' ∧ Mut w b V L wr V L') := by
              refine ⟨?_, hS, hM⟩
              rw [pend_snoc] at hr
              rw [← hr]
              rfl
            clear tA tB q1 hc hl hr hS hgv hM hRst hOk hoky hyl hlx hlx1 HJ
            go_wp2_with fail
            rw [Exit.noGoto_ret]
            refine bodyPost_ret (v := .tuple #[.bool false, .int .i64 (l' : Int), .int .i64 3]) (by simp [results, Try.f25, go_sem]) rfl ?_
            obtain ⟨rfl, hS, hM⟩ := hfin.out
            exact ⟨rfl, L', hS, hM⟩
          · have hc3 : ((c' : Int) == 2000) = false := by simp; omega
            have hw2 : IntKind.i64.wrap ((c' : Int) + 1) = (c' : Int) + 1 := by rw [IntKind.wrap_i64]; omega
            obtain ⟨g', cap', cur, e, hwg, hgb, hmc, hcm, hcs, hsl⟩ := HJ.out.row
            simp only [Value.slice.injEq, Option.some.injEq, Addr.mk.injEq, and_true, true_and] at e
            obtain ⟨rfl, hml, rfl⟩ := e
            have hgo := hS.oth_row hgb
            have hno := hRst.noInts
            have htake := take_at (q := fun x => Oth wr b V L' x ∧ x ≠ g) (fun x hx => ⟨hx.1.1, hx.2⟩) hgb q0 q1 (by rw [hlx]; exact ts_avoid hno tA) (ts_avoid hno tB)
            have HT := Lib.hid (And.intro hc (And.intro hl (And.intro hr (And.intro hS (And.intro hgv (And.intro hM (And.intro hRst (And.intro hOk (And.intro hoky (And.intro hwg (And.intro hgb (And.intro hgo (And.intro hno (And.intro hml (And.intro hmc (And.intro hcm hc2))))))))))))))))
            clear tA tB q1 hc hl hr hS hgv hM hRst hOk hoky hyl hlx hlx1 HJ hwg hgb hgo hno hml hmc hcm hcs hsl hc2
            unfold TakeP at htake
            go_upto_region 13 with (go_at_call 59; refine htake.mono ?_; clear htake; rintro e W1 ⟨k1, n1, s1, a1, l1, c1, k2, n2, s2, a2, l2, c2, rfl, tA1, tB1, sa', la', ca', sb', lb', cb', hbt, hg1, tAs, tBs⟩)
            clear q0
            obtain ⟨hc, hl, hr, hS, hgv, hM, hRst, hOk, hoky, hwg, hgb, hgo, hno, hml, hmc, hcm, hc2⟩ := id HT.out
            obtain ⟨W2, hW2⟩ : ∃ W2, W2 = (W1.alloc (.cells #[.int .i64 k1, .int .i64 n1, .string s1, .slice a1 l1 c1] 24)).alloc (.cells #[.int .i64 k2, .int .i64 n2, .string s2, .slice a2 l2 c2] 24) := ⟨_, rfl⟩
            have hb12 : Below W1.heap.size W1 W2 := by rw [hW2]; exact ((Below.refl _ W1).alloc (Nat.le_refl _) _).alloc (by simp) _
            have hS1 := hS.but hgo hno hbt
            have hM1 := hM.but hwg hbt
            have hq1 : ∀ x, (Oth wr b V L' x ∧ x ≠ g) → Oth W1 b V L' x := fun x hx => ⟨Nat.lt_of_lt_of_le hx.1.1 hbt.size, hx.1.2⟩
            have hR1 : RestAt (Oth W1 b V L') W1 w.heap.size (.slice (some ⟨g, 0, none⟩) m cap) (Ls0 ++ [(xs1, ys1)]) :=
              hRst.turn hgb (fun x hx => hx.1) (fun x hx => ⟨Nat.lt_of_lt_of_le hx.1 hbt.size, hx.2⟩) hbt (by rw [← HK.out.1]; exact hg1) (tAs.carry (fun _ _ => rfl) hq1) (tBs.carry (fun _ _ => rfl) hq1)
            have hS2 := hS1.step hb12
            have hM2 := hM1.trans (Mut.of_below hb12)
            have hg1lt := (Array.getElem?_eq_some_iff.1 hg1).1
            have hR2 := hR1.keep (q' := Oth W2 b V L') (hb12.block g hg1lt) (fun x hx => hb12.block x hx.1) (fun x hx => hx.below hb12)
            have tA2 : TmIn (Oth W2 b V L') W2 (.agg #[.int .i64 k1, .int .i64 n1, .string s1, .slice a1 l1 c1]) a := tA1.carry (fun x hx => hb12.block x (hq1 x hx).1) (fun x hx => (hq1 x hx).below hb12)
            have tB2 : TmIn (Oth W2 b V L') W2 (.agg #[.int .i64 k2, .int .i64 n2, .string s2, .slice a2 l2 c2]) d := tB1.carry (fun x hx => hb12.block x (hq1 x hx).1) (fun x hx => (hq1 x hx).below hb12)
            have hgx2 : W2.heap[g]? = W1.heap[g]? := hb12.block g hg1lt
            have x1 : W2.heap[W1.heap.size]? = some (.cells #[.int .i64 k1, .int .i64 n1, .string s1, .slice a1 l1 c1] 24 (0, 0)) := by rw [hW2]; exact (Below.heap_alloc _ _ _ (by simp)).trans (World.alloc_heap_new _ _)
            have x2 : W2.heap[W1.heap.size + 1]? = some (.cells #[.int .i64 k2, .int .i64 n2, .string s2, .slice a2 l2 c2] 24 (0, 0)) := by rw [hW2]; simpa using World.alloc_heap_new (W1.alloc (.cells #[.int .i64 k1, .int .i64 n1, .string s1, .slice a1 l1 c1] 24)) (.cells #[.int .i64 k2, .int .i64 n2, .string s2, .slice a2 l2 c2] 24)
            obtain ⟨z0, z1, z2, z3⟩ := tbox_cells x1
            obtain ⟨y0, y1, y2, y3⟩ := tbox_cells x2
            have hga := hoky.2.1 a (by simp)
            have hgd := hoky.2.2 d (by simp)
            have hw0 : w.heap.size ≤ W2.heap.size := hM2.size
            have hL2 : ChainAt W2 lb N := HG.out.2.2.1.same (hM2.keep lb HG.out.2.2.2.1).1 hM2.size
            have hstep := ustep_at hS2 (Nat.le_trans HG.out.2.1 hw0) hL2 (hM2.keep lb HG.out.2.2.2.1).2 _ _ a d tA2 tB2 hga.1 hgd.1 hgv hga.2 hgd.2
            obtain ⟨q1g, q2l, q3o⟩ := stp_ok HG.out.2.2.2.2.2.2.2.2.2 hS.ok hgv hga.1 hgd.1 hga.2 hgd.2
            have hrs : R = if (σ'.stp N (σ'.fin a) (σ'.fin d)).ok = true then run N (2000 - (c' + 1)) (σ'.stp N (σ'.fin a) (σ'.fin d)).σ ((σ'.stp N (σ'.fin a) (σ'.fin d)).ks ++ (xs1.zip ys1 ++ pend Ls0)) (max l' (σ'.stp N (σ'.fin a) (σ'.fin d)).lv)
                else ⟨false, max l' (σ'.stp N (σ'.fin a) (σ'.fin d)).lv, 0, (σ'.stp N (σ'.fin a) (σ'.fin d)).σ⟩ := by
              rw [pend_snoc] at hr
              rw [← hr, show 2000 - c' = (2000 - (c' + 1)) + 1 by omega]
              exact run_succ N _ σ' (a, d) _ l'
            generalize σ'.stp N (σ'.fin a) (σ'.fin d) = S at *
            obtain ⟨ks, slv, sok, τ⟩ := S
            simp only at hstep q1g q2l q3o hrs
            have hokt : OkL N (xs1, ys1) := ⟨by have := hoky.1; simpa using this, fun t ht => hoky.2.1 t (by simp [ht]), fun t ht => hoky.2.2 t (by simp [ht])⟩
            have HU := Lib.hid (And.intro hl (And.intro hM2 (And.intro hR2 (And.intro hw0 (And.intro hwg (And.intro q1g (And.intro q2l (And.intro q3o (And.intro hrs (And.intro hokt (And.intro hOk (And.intro (show g < W2.heap.size from Nat.lt_of_lt_of_le hg1lt hb12.size) (And.intro hS2 (And.intro hml (And.intro hmc (And.intro hcm (And.intro hc2 hc)))))))))))))))))
            rw [← hW2]
            clear hc hl hr hS hgv hM hRst hOk hoky hwg hgb hgo hno hml hmc hcm hc2 hb12 hS1 hM1 hq1 hR1 hS2 hM2 hg1lt hR2 tA2 tB2 hgx2 x1 x2 hga hgd hw0 hL2 q1g q2l q3o hrs hokt tA1 tB1 hbt hg1 tAs tBs hW2 HT
            unfold StepP at hstep
            simp only at hstep
            go_upto_region 14 with (go_at_call 60; refine hstep.mono ?_; clear hstep; rintro e W3 ⟨qa, ql, qc, ra, rl, rc, rfl, L3, hS3, hM3, tK1, tK2⟩)
            clear y0 y1 y2 y3 z0 z1 z2 z3
            obtain ⟨W4, hW4⟩ : ∃ W4, W4 = W3.alloc (.cells #[.slice qa ql qc, .slice ra rl rc] 91) := ⟨_, rfl⟩
            have hb34 : Below W3.heap.size W3 W4 := by rw [hW4]; exact (Below.refl _ _).alloc (Nat.le_refl _) _
            have x4 : W4.heap[W3.heap.size]? = some (.cells #[.slice qa ql qc, .slice ra rl rc] 91 (0, 0)) := by rw [hW4]; exact World.alloc_heap_new _ _
            obtain ⟨hl, hM2, hR2, hw0, hwg, q1g, q2l, q3o, hrs, hokt, hOk, hg2, hS2, hml, hmc, hcm, hc2, hc⟩ := id HU.out
            have hgO : Oth W2 b V L' g := by
              obtain ⟨ps, ⟨g', cap', cur', e, h1, h2, _⟩, _⟩ := hR2
              simp only [Value.slice.injEq, Option.some.injEq, Addr.mk.injEq, and_true, true_and] at e
              obtain ⟨rfl, _, _⟩ := e
              exact hS2.oth_row h2
            have hM3' := hM2.trans hM3
            have hR3 := hR2.keep (q' := Oth W3 b V L3) (hM3.keep g hgO).1 (fun x hx => (hM3.keep x hx).1) (fun x hx => (hM3.keep x hx).2)
            have hgO3 := (hM3.keep g hgO).2
            have hR4 := hR3.keep (q' := Oth W4 b V L3) (hb34.block g hgO3.1) (fun x hx => hb34.block x hx.1) (fun x hx => hx.below hb34)
            have hS4 := hS3.step hb34
            have hM4 := hM3'.trans (Mut.of_below hb34)
            have tK1' : TsIn (Oth W4 b V L3) W4 (.slice qa ql qc) (ks.map Prod.fst) := tK1.carry (fun x hx => hb34.block x hx.1) (fun x hx => hx.below hb34)
            have tK2' : TsIn (Oth W4 b V L3) W4 (.slice ra rl rc) (ks.map Prod.snd) := tK2.carry (fun x hx => hb34.block x hx.1) (fun x hx => hx.below hb34)
            have hL4 : ChainAt W4 lb N := HG.out.2.2.1.same (hM4.keep lb HG.out.2.2.2.1).1 hM4.size
            have hjoin := (ch_join hL4 (x := l') (y := slv) hl q2l).mono (R' := fun e w' => e = .returned (.int .i64 (max l' slv : Nat)) ∧ Below W4.heap.size W4 w') (fun e w' h7 => h7.below)
            have HV := Lib.hid (And.intro hR4 (And.intro hS4 (And.intro hM4 (And.intro tK1' (And.intro tK2' (And.intro x4 (hgO3.below hb34)))))))
            rw [← hW4]
            clear hW4 hb34 x4 hl hM2 hR2 hw0 hwg q1g q2l q3o hrs hokt hOk hg2 hS2 hml hmc hcm hc2 hc hgO hM3' hR3 hgO3 hR4 hS4 hM4 tK1' tK2' hL4 hS3 hM3 tK1 tK2
            go_upto_region 15 with (go_at_call 61; refine hjoin.mono ?_; clear hjoin; rintro e W5 ⟨rfl, hb45⟩)
            obtain ⟨hR4, hS4, hM4, tK1, tK2, x4, hgO4⟩ := id HV.out
            have hg5 := hb45.block g hgO4.1
            have hR5 := hR4.keep (q' := Oth W5 b V L3) hg5 (fun x hx => hb45.block x hx.1) (fun x hx => hx.below hb45)
            have hS5 := hS4.step hb45
            have hM5 := hM4.trans (Mut.of_below hb45)
            have tK1' : TsIn (Oth W5 b V L3) W5 (.slice qa ql qc) (ks.map Prod.fst) := tK1.carry (fun x hx => hb45.block x hx.1) (fun x hx => hx.below hb45)
            have tK2' : TsIn (Oth W5 b V L3) W5 (.slice ra rl rc) (ks.map Prod.snd) := tK2.carry (fun x hx => hb45.block x hx.1) (fun x hx => hx.below hb45)
            have x5 := tbox_below x4 hb45
            have hgO5 : Oth W5 b V L3 g := hgO4.below hb45
            have hqlen : ql = ks.length := by
              obtain ⟨_, _, e, _⟩ := tK1'
              simp only [Value.slice.injEq, List.length_map] at e
              exact e.2.1
            have HX := Lib.hid (And.intro hR5 (And.intro hS5 (And.intro hM5 (And.intro tK1' (And.intro tK2' (And.intro x5 (And.intro hgO5 hqlen)))))))
            clear hR4 hS4 hM4 tK1 tK2 x4 hgO4 hg5 hR5 hS5 hM5 tK1' tK2' hgO5 hqlen hb45 HV
            cases sok with
            | false =>
              clear x5
              go_wp2_with fail
              rw [Exit.noGoto_ret]
              refine bodyPost_ret (v := .tuple #[.bool false, .int .i64 (max l' slv : Nat), .int .i64 0]) (by simp [results, Try.f25, go_sem]) rfl ?_
              obtain ⟨hl, hM2, hR2, hw0, hwg, q1g, q2l, q3o, hrs, -⟩ := HU.out
              obtain ⟨hR5, hS5, hM5, -⟩ := HX.out
              rw [if_neg (by decide)] at hrs
              subst hrs
              exact ⟨rfl, L3, hS5, hM5⟩
            | true =>
              by_cases hk0 : ql = 0
              · subst hk0
                obtain ⟨e0_, e1_⟩ := two_cells x5
                clear x5
                have hnext : Hid (MInv n₀ N w b V L R (.slice (some ⟨g, 0, none⟩) m cap) (Ls0 ++ [(xs1, ys1)]) (max l' slv) (c' + 1) W5) := by
                  obtain ⟨hl, hM2, hR2, hw0, hwg, q1g, q2l, q3o, hrs, hokt, hOk, hg2, hS2, hml, hmc, hcm, hc2, hc⟩ := HU.out
                  obtain ⟨hR5, hS5, hM5, tK1, tK2, x5, hgO5, hql⟩ := HX.out
                  rw [if_pos rfl] at hrs
                  have hks : ks = [] := List.eq_nil_of_length_eq_zero hql.symm
                  subst hks
                  refine ⟨⟨by have := hc.1; omega, by have := hc.2; rw [List.length_append] at this ⊢; simp at this ⊢; omega⟩, by omega, τ, L3, ?_, hS5, q1g, hM5, hR5, fun x hx => ?_⟩
                  · rw [pend_snoc, hrs]; rfl
                  · rcases List.mem_append.1 hx with hx | hx
                    · exact hOk x (List.mem_append_left _ hx)
                    · rw [List.mem_singleton.1 hx]; exact hokt
                have hc2' := HU.out.2.2.2.2.2.2.2.2.2.2.2.2.2.2.2.2.1
                have hcc' := HU.out.2.2.2.2.2.2.2.2.2.2.2.2.2.2.2.2.2
                have HC2 := Lib.hid (And.intro hc2' hcc')
                clear HU HX hc2' hcc'
                go_wp2_with fail
                go_roundw
                case rel => exact ⟨max l' slv, c' + 1, (xs1, ys1), by first | rfl | simp, by first | rfl | simp, by first | rfl | simp, by omega, hnext⟩
                case measure => have := HC2.out; simp [intOf]; omega
              · have hk1 : (ql : Int) > 0 := by omega
                have hk2 : 0 < ql := by omega
                obtain ⟨e0_, e1_⟩ := two_cells x5
                clear x5 hk0
                obtain ⟨W6, hW6⟩ : ∃ W6, W6 = W5.alloc (.cells #[.slice qa ql qc, .slice ra rl rc] 91) := ⟨_, rfl⟩
                obtain ⟨hl, hM2, hR2, hw0, hwg, q1g, q2l, q3o, hrs, hokt, hOk, hg2, hS2, hml, hmc, hcm, hc2, hc⟩ := id HU.out
                obtain ⟨hR5, hS5, hM5, tK1, tK2, x5, hgO5, hql⟩ := id HX.out
                have hb56 : Below W5.heap.size W5 W6 := by rw [hW6]; exact (Below.refl _ _).alloc (Nat.le_refl _) _
                have hx6 : W6.heap[W5.heap.size]? = some (.cells #[.slice qa ql qc, .slice ra rl rc] 91 (0, 0)) := by rw [hW6]; exact World.alloc_heap_new _ _
                have hR6 := hR5.keep (q' := Oth W6 b V L3) (hb56.block g hgO5.1) (fun x hx => hb56.block x hx.1) (fun x hx => hx.below hb56)
                have hS6 := hS5.step hb56
                have hM6 := hM5.trans (Mut.of_below hb56)
                have tK1' : TsIn (Oth W6 b V L3) W6 (.slice qa ql qc) (ks.map Prod.fst) := tK1.carry (fun x hx => hb56.block x hx.1) (fun x hx => hx.below hb56)
                have tK2' : TsIn (Oth W6 b V L3) W6 (.slice ra rl rc) (ks.map Prod.snd) := tK2.carry (fun x hx => hb56.block x hx.1) (fun x hx => hx.below hb56)
                have hgO6 : Oth W6 b V L3 g := hgO5.below hb56
                have hmb : m + 1 ≤ 1000000000000 := by
                  have h1 := hc.1
                  have h2 := hc.2
                  rw [List.length_append] at h2
                  have h3 := HK.out.1
                  have h4 := HK.out.2.1
                  simp at h2
                  omega
                obtain ⟨g', cap', W7, hrun, hbt, hR7⟩ := RestAt.push (y := (ks.map Prod.fst, ks.map Prod.snd)) 92 hR6 hx6 tK1' tK2' hmb hM6.size (fun x hx => hx.1)
                have hnext : Hid (MInv n₀ N w b V L R (.slice (some ⟨g', 0, none⟩) (m + 1) cap') (Ls0 ++ [(xs1, ys1)] ++ [(ks.map Prod.fst, ks.map Prod.snd)]) (max l' slv) (c' + 1) W7) := by
                  rw [if_pos rfl] at hrs
                  refine ⟨⟨by have := hc.1; omega, by have := hc.2; rw [List.length_append] at this; rw [List.length_append, List.length_append]; simp at this ⊢; omega⟩, by omega, τ, L3, ?_, hS6.but hgO6 hR6.noInts hbt, q1g, hM6.but hwg hbt, hR7 _ (fun x hx => ⟨Nat.lt_of_lt_of_le hx.1 hbt.size, hx.2⟩), fun x hx => ?_⟩
                  · rw [pend_snoc, pend_snoc, hrs, zip_unzip]
                  · rcases List.mem_append.1 hx with hx | hx
                    · rcases List.mem_append.1 hx with hx | hx
                      · exact hOk x (List.mem_append_left _ hx)
                      · rw [List.mem_singleton.1 hx]; exact hokt
                    · rw [List.mem_singleton.1 hx]; exact q3o
                have hlenm : Hid (m + 1 = (Ls0 ++ [(xs1, ys1)] ++ [(ks.map Prod.fst, ks.map Prod.snd)]).length) := by
                  show m + 1 = _
                  rw [List.length_append, hml, List.length_append, List.length_append]; simp
                have HC2 := Lib.hid (And.intro hc2 hc.1)
                have HW6 := Lib.hid hW6
                clear hl hM2 hR2 hw0 hwg q1g q2l q3o hrs hokt hOk hg2 hS2 hml hmc hcm hc2 hc hR5 hS5 hM5 tK1 tK2 x5 hgO5 hql hb56 hx6 hR6 hS6 hM6 tK1' tK2' hgO6 hmb hbt hR7 hW6 HU HX
                go_upto_region 18 with fail
                go_wp2_with (at_builtin; rw [← HW6.out]; refine Lib.wpList_append_run _ rfl _ _ _ _ rfl _ _ rfl rfl _ _ hrun ?_)
                exact ⟨⟨max l' slv, c' + 1, g', m + 1, cap', _, by first | rfl | simp, by first | rfl | simp, rfl, hlenm.out, hnext⟩, by have := HC2.out; simp [intOf, lenV]; omega⟩
end Go.Proofs.Ytfjnajngelemkaa
