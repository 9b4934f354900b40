/-
  store: New, Mark, Fresh.
-/
import Derived.Test.YtlnggaepmclbkaaZStoDn2
import Derived.Test.YtlnggaepmclbkaaZStoFn2
namespace Go.Proofs.Ytlnggaepmclbkaa
open Go.RowKit Go.Shelf
set_option linter.unusedVariables false

/-- A step that writes in the store's own blocks and in new memory. -/
structure Mut (w : World) (b : Nat) (V L : Value) (w' : World) (V' L' : Value) : Prop where
  os : w'.os = w.os
  tape : w'.tape = w.tape
  output : w'.output = w.output
  size : w.heap.size ≤ w'.heap.size
  keep : ∀ k, Oth w b V L k → w'.heap[k]? = w.heap[k]? ∧ Oth w' b V' L' k

theorem Mut.refl (w : World) (b : Nat) (V L : Value) : Mut w b V L w V L := ⟨rfl, rfl, rfl, Nat.le_refl _, fun k h => ⟨rfl, h⟩⟩
theorem Mut.trans {w w1 w2 : World} {b : Nat} {V L V1 L1 V2 L2 : Value} (h : Mut w b V L w1 V1 L1) (g : Mut w1 b V1 L1 w2 V2 L2) : Mut w b V L w2 V2 L2 :=
  ⟨g.os.trans h.os, g.tape.trans h.tape, g.output.trans h.output, Nat.le_trans h.size g.size, fun k hk => ⟨(g.keep k (h.keep k hk).2).1.trans (h.keep k hk).1, (g.keep k (h.keep k hk).2).2⟩⟩
theorem Mut.below {p : Nat → Prop} {n₀ : Nat} {w : World} {b : Nat} {V L : Value} {σ : St} (h : StAt p n₀ w b V L σ) {w' : World} {V' L' : Value} (m : Mut w b V L w' V' L') (hn : n₀ ≤ w.heap.size) : Below n₀ w w' := by
  obtain ⟨xs, h1, h2⟩ := h.rV
  refine ⟨m.os, m.tape, m.output, m.size, fun k hk => (m.keep k ⟨Nat.lt_of_lt_of_le hk hn, fun e => ?_, fun e => ?_, fun e => ?_⟩).1⟩
  · have := h.lo; omega
  · have := (h1.lt k e).1; omega
  · have := (h.rL.lt k e).1; omega
theorem Mut.of_below {w w' : World} {b : Nat} {V L : Value} (h : Below w.heap.size w w') : Mut w b V L w' V L :=
  ⟨h.os, h.tape, h.output, h.size, fun k hk => ⟨h.block k hk.1, hk.below h⟩⟩
theorem Mut.term {w w' : World} {b : Nat} {V L V' L' : Value} (m : Mut w b V L w' V' L') {v : Value} {T : Tm} (h : TmIn (Oth w b V L) w v T) : TmIn (Oth w' b V' L') w' v T :=
  h.carry (fun k hk => (m.keep k hk).1) fun k hk => (m.keep k hk).2
theorem Mut.lo {p : Nat → Prop} {n₀ : Nat} {w : World} {b : Nat} {V L : Value} {σ : St} (h : StAt p n₀ w b V L σ) (hn : n₀ ≤ w.heap.size) {k : Nat} (hk : k < n₀) : Oth w b V L k := by
  obtain ⟨xs, h1, h2⟩ := h.rV
  refine ⟨Nat.lt_of_lt_of_le hk hn, fun e => ?_, fun e => ?_, fun e => ?_⟩
  · have := h.lo; omega
  · have := (h1.lt k e).1; omega
  · have := (h.rL.lt k e).1; omega

theorem rows_ne {w : World} {n₀ : Nat} {V L : Value} {xs : List V5} {l : List Nat} (h : RowV w n₀ V xs) (g : RowL w n₀ L l) : ∀ k, V.ownBlock = some k → L.ownBlock ≠ some k := by
  intro k hk e
  obtain ⟨h1, ⟨rfl, h0⟩ | ⟨g1, cap, cur, rfl, hg, hh, r⟩⟩ := h
  · cases hk
  · cases hk
    obtain ⟨rfl, rfl⟩ | ⟨g2, cap2, cur2, rfl, hg2, hh2, r2⟩ := g
    · cases e
    · cases e; rw [hh] at hh2; cases hh2
theorem RowV.ne_box {w : World} {n₀ : Nat} {V : Value} {xs : List V5} (h : RowV w n₀ V xs) {b : Nat} {c : Array Value} (hb : w.heap[b]? = some (.cells c 70 (0, 0))) : V.ownBlock ≠ some b := by
  intro e
  obtain ⟨h1, ⟨rfl, h0⟩ | ⟨g1, cap, cur, rfl, hg, hh, r⟩⟩ := h
  · cases e
  · cases e; rw [hh] at hb; cases hb
theorem RowL.ne_box {w : World} {n₀ : Nat} {L : Value} {l : List Nat} (h : RowL w n₀ L l) {b : Nat} {c : Array Value} (hb : w.heap[b]? = some (.cells c 70 (0, 0))) : L.ownBlock ≠ some b := by
  intro e
  obtain ⟨rfl, rfl⟩ | ⟨g2, cap2, cur2, rfl, hg2, hh2, r2⟩ := h
  · cases e
  · cases e; rw [hh2] at hb; cases hb

set_option maxRecDepth 100000 in
theorem new_at10 (w : World) (n₀ : Nat) (hn : n₀ ≤ w.heap.size) : Calls Try.prog 17 #[] w fun e w' => e = .returned (.pointer (some ⟨w.heap.size, 0, none⟩)) ∧ Below w.heap.size w w' ∧ w.heap.size < w'.heap.size ∧
    StAt (Oth w' w.heap.size (.slice none 0 0) (.slice none 0 0)) n₀ w' w.heap.size (.slice none 0 0) (.slice none 0 0) ⟨[], []⟩ := by
  have hz := zeroStore
  go_enter Try.func17, Try.ntmps17
  go_wp2_with fail
  go_ret
  refine ⟨rfl, (Below.refl _ w).alloc (Nat.le_refl _) _, by simp, World.alloc_heap_new w _, hn, fun k hk => hk, ⟨[], World.ownsRow_nil _ _ _ _, ⟨rfl, fun i x o h => by simp at h⟩⟩, .inl ⟨rfl, rfl⟩, ?_⟩
  exact ⟨⟨fun _ => 0, fun x T h => by simp at h⟩, by simp, fun o ho => by simp at ho, List.nodup_nil, fun v => by simp⟩


/-- Fresh, refused. -/
def St.freshBad (σ : St) (n : Int) : Int := if n < 0 then 1 else if 4096 - (σ.vs.length : Int) < n then 3 else 0
set_option maxRecDepth 100000 in
theorem fresh_bad {p : Nat → Prop} {n₀ : Nat} {w : World} {b : Nat} {V L : Value} {σ : St} (h : StAt p n₀ w b V L σ) (n : Int) (hbad : σ.freshBad n ≠ 0) : Calls Try.prog 19 #[.pointer (some ⟨b, 0, none⟩), .int .i64 n] w fun e w' => e = .returned (.tuple #[.int .i64 0, .int .i64 (σ.freshBad n)]) ∧ w' = w := by
  obtain ⟨c0, c1⟩ := two_cells h.box
  obtain ⟨xs, hr, hok⟩ := h.rV
  obtain ⟨a, c, rfl⟩ := hr.form
  have hl := hok.len
  have hlen := h.ok.len
  unfold St.freshBad at hbad ⊢
  by_cases hn : n < 0
  · rw [if_pos hn]
    clear h hr hok hbad
    go_enter Try.func19, Try.ntmps19
    go_wp2_with fail
    refine bodyPost_ret (v := .tuple #[.int .i64 0, .int .i64 1]) (by simp [results, Try.f19, go_sem]) rfl ?_
    exact ⟨rfl, rfl⟩
  · rw [if_neg hn] at hbad ⊢
    have hf : 4096 - (σ.vs.length : Int) < n := by
      by_cases hf : 4096 - (σ.vs.length : Int) < n
      · exact hf
      · rw [if_neg hf] at hbad; exact absurd rfl hbad
    rw [if_pos hf]
    rw [← hl] at hf hlen
    have hw : IntKind.i64.wrap (4096 - (xs.length : Int)) = 4096 - (xs.length : Int) := by rw [IntKind.wrap_i64]; omega
    have hf' : n > 4096 - (xs.length : Int) := hf
    clear h hr hok hbad hl
    generalize xs.length = m at *
    go_enter Try.func19, Try.ntmps19
    go_wp2_with fail
    refine bodyPost_ret (v := .tuple #[.int .i64 0, .int .i64 3]) (by simp [results, Try.f19, go_sem]) rfl ?_
    exact ⟨rfl, rfl⟩
set_option maxRecDepth 100000 in
theorem fresh_nil (n : Int) (w : World) : Calls Try.prog 19 #[.pointer none, .int .i64 n] w fun e w' => e = .returned (.tuple #[.int .i64 0, .int .i64 5]) ∧ w' = w := by
  go_enter Try.func19, Try.ntmps19
  go_wp2_with fail
  refine bodyPost_ret (v := .tuple #[.int .i64 0, .int .i64 5]) (by simp [results, Try.f19, go_sem]) rfl ?_
  exact ⟨rfl, rfl⟩

theorem infoVar : (Try.prog.info? 72).map (fun i => (i.zero, i.size, i.bytes)) = some (some (.agg #[.bool false, .int .i64 0, .int .i64 0, .string (ByteArray.mk #[]), .slice none 0 0]), 5, 64) := by kernel_rfl
def z5 : V5 := ⟨false, 0, 0, ByteArray.mk #[], none, 0, 0⟩
theorem zeros5 : ∀ n, (Builtin.zeroCells (Value.agg #[.bool false, .int .i64 0, .int .i64 0, .string (ByteArray.mk #[]), .slice none 0 0]).cells n).toList = flat5 (List.replicate n z5) := by
  intro n
  refine List.ext_getElem? fun j => ?_
  have hsz : (Value.agg #[.bool false, .int .i64 0, .int .i64 0, .string (ByteArray.mk #[]), .slice none 0 0]).cells.size = 5 := rfl
  by_cases hj : j < n * 5
  · have h1 := flat5_get (List.replicate n z5) (j / 5) z5 (by rw [List.getElem?_replicate]; rw [if_pos (by omega)]) (j % 5) (Nat.mod_lt _ (by decide))
    rw [show j / 5 * 5 + j % 5 = j by omega] at h1
    rw [h1]
    simp only [Builtin.zeroCells, hsz, Array.toList_map, List.getElem?_map, Array.toList_range, List.getElem?_range hj, Option.map_some]
    have h5 : j % 5 = 0 ∨ j % 5 = 1 ∨ j % 5 = 2 ∨ j % 5 = 3 ∨ j % 5 = 4 := by omega
    rcases h5 with e | e | e | e | e <;> rw [e] <;> rfl
  · rw [List.getElem?_eq_none (by rw [Array.length_toList, size_zeroCells, hsz]; omega), List.getElem?_eq_none (by rw [flat5_length, List.length_replicate]; omega)]

def St.fresh (σ : St) (n : Nat) : St := ⟨σ.vs ++ List.replicate n none, σ.tr⟩
theorem St.Ok.fresh {σ : St} (h : σ.Ok) (n : Nat) (hn : σ.vs.length + n ≤ 4096) : (σ.fresh n).Ok := by
  have hg : ∀ (x : Nat) (T : Tm), (σ.fresh n).vs[x]? = some (some T) → σ.vs[x]? = some (some T) := by
    intro x T hx
    have hx : (σ.vs ++ List.replicate n none)[x]? = some (some T) := hx
    rw [List.getElem?_append] at hx
    split at hx
    · exact hx
    · rw [List.getElem?_replicate] at hx
      split at hx <;> cases hx
  refine ⟨h.ranked.less hg, ?_, fun o ho U hU => ?_, h.nd, fun v => ?_⟩
  · show (σ.vs ++ List.replicate n none).length ≤ 4096
    rw [List.length_append, List.length_replicate]; exact hn
  · have ho : o ∈ σ.vs ++ List.replicate n none := ho
    rcases List.mem_append.1 ho with ho | ho
    · exact h.small o ho U hU
    · rw [List.eq_of_mem_replicate ho] at hU; cases hU
  · show v ∈ σ.tr ↔ _
    rw [h.mem v]
    constructor
    · rintro ⟨U, hU⟩
      refine ⟨U, ?_⟩
      show (σ.vs ++ List.replicate n none)[v]? = _
      rw [List.getElem?_append_left (List.getElem?_eq_some_iff.1 hU).1]; exact hU
    · rintro ⟨U, hU⟩; exact ⟨U, hg v U hU⟩
theorem VOk.fresh {p : Nat → Prop} {w : World} {xs : List V5} {vs : List (Option Tm)} (h : VOk p w xs vs) (n : Nat) : VOk p w (xs ++ List.replicate n z5) (vs ++ List.replicate n none) := by
  refine ⟨by rw [List.length_append, List.length_append, h.len, List.length_replicate, List.length_replicate], fun i x o h1 h2 => ?_⟩
  by_cases hi : i < xs.length
  · rw [List.getElem?_append_left hi] at h1
    rw [List.getElem?_append_left (by rw [← h.len]; exact hi)] at h2
    exact h.at_ i x o h1 h2
  · rw [List.getElem?_append_right (by omega), List.getElem?_replicate] at h1
    rw [List.getElem?_append_right (by rw [← h.len]; omega), List.getElem?_replicate] at h2
    split at h1
    · cases h1
      split at h2
      · cases h2; exact ⟨rfl, fun U hU => by cases hU⟩
      · cases h2
    · cases h1

set_option maxRecDepth 100000 in
set_option maxHeartbeats 1000000 in
theorem fresh_at10 {n₀ : Nat} {w : World} {b : Nat} {V L : Value} {σ : St} (h : StAt (Oth w b V L) n₀ w b V L σ) (hn₀ : n₀ ≤ w.heap.size) (n : Nat) (hn : σ.vs.length + n ≤ 4096) :
    Calls Try.prog 19 #[.pointer (some ⟨b, 0, none⟩), .int .i64 (n : Int)] w fun e w' => e = .returned (.tuple #[.int .i64 (σ.vs.length : Int), .int .i64 0]) ∧ ∃ V', StAt (Oth w' b V' L) n₀ w' b V' L (σ.fresh n) ∧ Mut w b V L w' V' L := by
  obtain ⟨c0, c1⟩ := two_cells h.box
  obtain ⟨xs, hr, hok⟩ := h.rV
  obtain ⟨i0, hi, hz0, hz1, hz2⟩ := info_parts infoVar
  have hl := hok.len
  obtain ⟨v', w1, hrun, ho', hg, hat⟩ := run_append_zeros_own (P := Try.prog) w n₀ 68 3 68 72 i0 _ .i64 5 64 Try.underlying68 Try.underlying3 hi hz0 hz1 hz2 rfl (by decide)
    (by intro u hu; simp [Value.cells] at hu; rcases hu with rfl | rfl | rfl | rfl | rfl <;> rfl) V xs.length (flat5 xs) hr n (by rw [hl]; unfold maxLen; omega) (by rw [hl]; omega) hn₀
  rw [zeros5, ← flat5_append] at ho'
  have hlt := h.lt
  have hVb := hr.ne_box h.box
  have hb1 : w1.heap[b]? = some (.cells #[V, L] 70 (0, 0)) := (hg.block b hlt (fun e => hVb e.symm)).trans h.box
  obtain ⟨d0, d1⟩ := two_cells hb1
  have df : ∀ j, w1.frozen? ⟨b, j, none⟩ = false := fun j => by simp [World.frozen?, hb1]
  have hw : IntKind.i64.wrap (4096 - (σ.vs.length : Int)) = 4096 - (σ.vs.length : Int) := by rw [IntKind.wrap_i64]; omega
  have hnn : ¬ ((n : Int) > 4096 - (σ.vs.length : Int)) := by omega
  have hnd : decide ((n : Int) > 4096 - (σ.vs.length : Int)) = false := decide_eq_false hnn
  have hlk : σ.vs.length ≤ 4096 := by omega
  have post : Hid (∃ w2, w2 = w1.setCell ⟨b, 0, none⟩ v' ∧ StAt (Oth w2 b v' L) n₀ w2 b v' L (σ.fresh n) ∧ Mut w b V L w2 v' L) := by
    refine ⟨_, rfl, ?_⟩
    have hother : ∀ k, k ≠ b → (w1.setCell ⟨b, 0, none⟩ v').heap[k]? = w1.heap[k]? := fun k hk => Below.heap_setCell w1 ⟨b, 0, none⟩ v' k hk
    have hbox : (w1.setCell ⟨b, 0, none⟩ v').heap[b]? = some (.cells #[v', L] 70 (0, 0)) := set_block (o := 0) hb1 v'
    have hsz : (w1.setCell ⟨b, 0, none⟩ v').heap.size = w1.heap.size := by simp
    have hr1 : RowV w1 n₀ v' (xs ++ List.replicate n z5) := by
      unfold RowV; rw [List.length_append, List.length_replicate]; exact ho'
    have hv'b : v'.ownBlock ≠ some b := hr1.ne_box hb1
    have hr2 : RowV (w1.setCell ⟨b, 0, none⟩ v') n₀ v' (xs ++ List.replicate n z5) := hr1.later fun k hk => hother k (fun e => hv'b (by rw [hk, e]))
    have hLk : ∀ k, L.ownBlock = some k → w1.heap[k]? = w.heap[k]? := fun k hk => hg.block k (h.rL.lt k hk).2 (fun e => rows_ne hr h.rL k e.symm hk)
    have hLb := h.rL.ne_box h.box
    have hL2 : RowL (w1.setCell ⟨b, 0, none⟩ v') n₀ L σ.tr := h.rL.later fun k hk => (hother k (fun e => hLb (by rw [hk, e]))).trans (hLk k hk)
    have keep : ∀ k, Oth w b V L k → (w1.setCell ⟨b, 0, none⟩ v').heap[k]? = w.heap[k]? ∧ Oth (w1.setCell ⟨b, 0, none⟩ v') b v' L k := fun k hk => by
      refine ⟨(hother k hk.2.1).trans (hg.block k hk.1 (fun e => hk.2.2.1 e.symm)), by rw [hsz]; exact Nat.lt_of_lt_of_le hk.1 hg.size, hk.2.1, fun e => ?_, hk.2.2.2⟩
      rcases hat with hat | hat
      · exact hk.2.2.1 (hat ▸ e)
      · rw [hat] at e; injection e with e; have := hk.1; omega
    refine ⟨⟨hbox, h.lo, fun k hk => hk, ⟨_, hr2, (hok.fresh n).carry (fun k hk => (keep k hk).1) fun k hk => (keep k hk).2⟩, hL2, h.ok.fresh n hn⟩, ⟨hg.os, hg.tape, hg.output, by rw [hsz]; exact hg.size, keep⟩⟩
  have hv'f : ∃ a' l' c', v' = .slice a' l' c' := by
    obtain ⟨_, ⟨h2, _⟩ | ⟨g, cap, cur, e, _⟩⟩ := ho'
    · exact ⟨none, 0, 0, h2⟩
    · exact ⟨_, _, _, e⟩
  obtain ⟨a', l', c', rfl⟩ := hv'f
  obtain ⟨a, c, rfl⟩ := hr.form
  rw [hl] at c0 hrun d0
  clear h hr hok ho' hg hat hb1 hVb hl
  generalize σ.vs.length = m at *
  go_enter Try.func19, Try.ntmps19
  go_wp2_with (at_builtin; refine Lib.wpList_append_run _ rfl _ _ _ _ rfl _ _ rfl rfl _ _ hrun ?_)
  obtain ⟨w2, hw2, hS, hM⟩ := post.out
  rw [← hw2]
  refine bodyPost_ret (v := .tuple #[.int .i64 (m : Int), .int .i64 0]) (by simp [results, Try.f19, go_sem]) rfl ?_
  exact ⟨rfl, _, hS, hM⟩
end Go.Proofs.Ytlnggaepmclbkaa

namespace Go.Proofs.Ytlnggaepmclbkaa
open Go.RowKit Go.Shelf
set_option linter.unusedVariables false

theorem flat5_set (xs : List V5) (i : Nat) (x : V5) (hi : i < xs.length) (j : Nat) : (flat5 (xs.set i x))[j]? = if i * 5 ≤ j ∧ j < i * 5 + 5 then x.cells[j - i * 5]? else (flat5 xs)[j]? := by
  by_cases hj : j < xs.length * 5
  · have hq : j / 5 < xs.length := by omega
    have e : j / 5 * 5 + j % 5 = j := by omega
    by_cases hc : i * 5 ≤ j ∧ j < i * 5 + 5
    · rw [if_pos hc]
      have h1 := flat5_get (xs.set i x) (j / 5) x (by rw [List.getElem?_set]; rw [if_pos (by omega), if_pos hi]) (j % 5) (Nat.mod_lt _ (by decide))
      rw [e] at h1
      rw [h1]; congr 1; omega
    · rw [if_neg hc]
      have h1 := flat5_get (xs.set i x) (j / 5) xs[j / 5] (by rw [List.getElem?_set]; rw [if_neg (by omega), List.getElem?_eq_getElem hq]) (j % 5) (Nat.mod_lt _ (by decide))
      have h2 := flat5_get xs (j / 5) xs[j / 5] (List.getElem?_eq_getElem hq) (j % 5) (Nat.mod_lt _ (by decide))
      rw [e] at h1 h2
      rw [h1, h2]
  · have hn : ¬ (i * 5 ≤ j ∧ j < i * 5 + 5) := by omega
    rw [if_neg hn, List.getElem?_eq_none (by rw [flat5_length, List.length_set]; omega), List.getElem?_eq_none (by rw [flat5_length]; omega)]

theorem set5_get (cur : Array Value) (a : Nat) (h : a + 4 < cur.size) (c0 c1 c2 c3 c4 : Value) (j : Nat) :
    (((((cur.setIfInBounds a c0).setIfInBounds (a + 1) c1).setIfInBounds (a + 2) c2).setIfInBounds (a + 3) c3).setIfInBounds (a + 4) c4)[j]? = if a ≤ j ∧ j < a + 5 then [c0, c1, c2, c3, c4][j - a]? else cur[j]? := by
  have ne : ∀ (A : Array Value) (i : Nat) (c : Value), i ≠ j → (A.setIfInBounds i c)[j]? = A[j]? := fun A i c hij => by rw [Array.getElem?_setIfInBounds, if_neg hij]
  have eq : ∀ (A : Array Value) (c : Value), j < A.size → (A.setIfInBounds j c)[j]? = some c := fun A c hA => by rw [Array.getElem?_setIfInBounds, if_pos rfl, if_pos hA]
  by_cases hc : a ≤ j ∧ j < a + 5
  · rw [if_pos hc]
    have h5 : j = a ∨ j = a + 1 ∨ j = a + 2 ∨ j = a + 3 ∨ j = a + 4 := by omega
    rcases h5 with e | e | e | e | e
    · rw [ne _ _ _ (by omega), ne _ _ _ (by omega), ne _ _ _ (by omega), ne _ _ _ (by omega), ← e, eq _ _ (by omega), Nat.sub_self]; rfl
    · rw [ne _ _ _ (by omega), ne _ _ _ (by omega), ne _ _ _ (by omega), ← e, eq _ _ (by simp only [Array.size_setIfInBounds]; omega), show j - a = 1 by omega]; rfl
    · rw [ne _ _ _ (by omega), ne _ _ _ (by omega), ← e, eq _ _ (by simp only [Array.size_setIfInBounds]; omega), show j - a = 2 by omega]; rfl
    · rw [ne _ _ _ (by omega), ← e, eq _ _ (by simp only [Array.size_setIfInBounds]; omega), show j - a = 3 by omega]; rfl
    · rw [← e, eq _ _ (by simp only [Array.size_setIfInBounds]; omega), show j - a = 4 by omega]; rfl
  · rw [if_neg hc, ne _ _ _ (by omega), ne _ _ _ (by omega), ne _ _ _ (by omega), ne _ _ _ (by omega), ne _ _ _ (by omega)]
/-- One variable's five cells are written. -/
theorem row_set5 {w : World} {base g cap : Nat} {xs : List V5} (x : V5) (i : Nat) (hi : i < xs.length) (h : RowV w base (.slice (some ⟨g, 0, none⟩) xs.length cap) xs) {m : Nat} (hm : m = xs.length) :
    ∃ w5, w5 = ((((w.setCell ⟨g, i * 5, none⟩ (.bool x.b)).setCell ⟨g, i * 5 + 1, none⟩ (.int .i64 x.k)).setCell ⟨g, i * 5 + 2, none⟩ (.int .i64 x.n)).setCell ⟨g, i * 5 + 3, none⟩ (.string x.s)).setCell ⟨g, i * 5 + 4, none⟩ (.slice x.a x.l x.c) ∧
      RowV w5 base (.slice (some ⟨g, 0, none⟩) m cap) (xs.set i x) ∧ (∀ k, k ≠ g → w5.heap[k]? = w.heap[k]?) ∧ w5.heap.size = w.heap.size ∧ w5.os = w.os ∧ w5.tape = w.tape ∧ w5.output = w.output := by
  subst hm
  have B := ((((((Below.refl 0 w).setCell (p := ⟨g, i * 5, none⟩) (Nat.zero_le _) (.bool x.b)).setCell (p := ⟨g, i * 5 + 1, none⟩) (Nat.zero_le _) (.int .i64 x.k)).setCell (p := ⟨g, i * 5 + 2, none⟩) (Nat.zero_le _) (.int .i64 x.n)).setCell (p := ⟨g, i * 5 + 3, none⟩) (Nat.zero_le _) (.string x.s)).setCell (p := ⟨g, i * 5 + 4, none⟩) (Nat.zero_le _) (.slice x.a x.l x.c))
  refine ⟨_, rfl, ?_, fun k hk => ?_, by simp only [World.size_setCell], B.os, B.tape, B.output⟩
  · obtain ⟨h1, ⟨h2, h0⟩ | ⟨g', cap', cur, e, hg, hh, hn, hcap, hsz, htake⟩⟩ := h
    · cases h2
    · simp only [Value.slice.injEq, Option.some.injEq, Addr.mk.injEq, true_and, and_true] at e
      obtain ⟨rfl, rfl⟩ := e
      refine ⟨by rw [flat5_length, List.length_set], .inr ⟨g, cap, _, by rw [List.length_set], hg, set_block (set_block (set_block (set_block (set_block hh _) _) _) _) _, by rw [List.length_set]; exact hn, hcap, by simpa using hsz, ?_⟩⟩
      refine List.ext_getElem? fun j => ?_
      rw [flat5_set xs i x hi j, List.length_set, List.getElem?_take]
      by_cases hj : j < xs.length * 5
      · rw [if_pos hj]
        have hcs : j < cur.size := by rw [hsz]; have : xs.length * 5 ≤ cap * 5 := Nat.mul_le_mul_right _ hn; omega
        have h2 : (flat5 xs)[j]? = cur[j]? := by rw [← htake, List.getElem?_take, if_pos hj, Array.getElem?_toList]
        rw [h2, Array.getElem?_toList, set5_get cur (i * 5) (by rw [hsz]; have : xs.length * 5 ≤ cap * 5 := Nat.mul_le_mul_right _ hn; omega)]
        rfl
      · rw [if_neg hj, if_neg (by omega), List.getElem?_eq_none (by rw [flat5_length]; omega)]
  · rw [Below.heap_setCell _ _ _ _ (by simpa using hk), Below.heap_setCell _ _ _ _ (by simpa using hk), Below.heap_setCell _ _ _ _ (by simpa using hk), Below.heap_setCell _ _ _ _ (by simpa using hk), Below.heap_setCell _ _ _ _ (by simpa using hk)]

theorem St.Ok.bind {σ : St} (h : σ.Ok) {v : Nat} {T : Tm} (hv : σ.vs[v]? = some none) (hT : ¬ Met σ (v : Int) T) (hs : T.size ≤ 2000000) : (σ.bind v T).Ok := by
  have hlt := (List.getElem?_eq_some_iff.1 hv).1
  refine ⟨h.ranked.bind (by rw [hv]; rfl) hT, ?_, fun o ho U hU => ?_, ?_, fun x => ?_⟩
  · show (σ.vs.set v (some T)).length ≤ 4096
    rw [List.length_set]; exact h.len
  · have ho : o ∈ σ.vs.set v (some T) := ho
    rcases List.mem_or_eq_of_mem_set ho with ho | rfl
    · exact h.small o ho U hU
    · cases hU; exact hs
  · show (σ.tr ++ [v]).Nodup
    rw [List.nodup_append]
    refine ⟨h.nd, by simp, fun a ha b hb e => ?_⟩
    rw [List.mem_singleton.1 hb] at e
    subst e
    obtain ⟨U, hU⟩ := (h.mem a).1 ha
    rw [hv] at hU; cases hU
  · show x ∈ σ.tr ++ [v] ↔ ∃ U, (σ.vs.set v (some T))[x]? = some (some U)
    rw [List.mem_append, h.mem x, List.mem_singleton, List.getElem?_set]
    by_cases e : v = x
    · subst e
      rw [if_pos rfl, if_pos hlt]
      simp
    · rw [if_neg e]
      constructor
      · rintro (h | h)
        · exact h
        · exact absurd h.symm e
      · exact fun h => .inl h
theorem VOk.set {p : Nat → Prop} {w : World} {xs : List V5} {vs : List (Option Tm)} (h : VOk p w xs vs) (i : Nat) (x : V5) (o : Option Tm) (hb : x.b = o.isSome) (hT : ∀ U, o = some U → TmIn p w x.val U) : VOk p w (xs.set i x) (vs.set i o) := by
  refine ⟨by rw [List.length_set, List.length_set, h.len], fun j y o' h1 h2 => ?_⟩
  rw [List.getElem?_set] at h1 h2
  by_cases e : i = j
  · subst e
    rw [if_pos rfl] at h1 h2
    split at h1
    · cases h1
      split at h2
      · cases h2; exact ⟨hb, hT⟩
      · cases h2
    · cases h1
  · rw [if_neg e] at h1 h2
    exact h.at_ j y o' h1 h2

set_option maxRecDepth 100000 in
theorem bind_nil (v : Int) (k n : Int) (s : ByteArray) (a : Option Addr) (len cap : Nat) (w : World) : Calls Try.prog 20 #[.pointer none, .int .i64 v, .agg #[.int .i64 k, .int .i64 n, .string s, .slice a len cap]] w (Gets w (.int .i64 5)) := by
  have HB : Hid (Below w.heap.size w (w.alloc (.cells #[.int .i64 k, .int .i64 n, .string s, .slice a len cap] 24))) := (Below.refl _ w).alloc (Nat.le_refl _) _
  go_enter Try.func20, Try.ntmps20
  go_wp2_with fail
  go_ret
  exact ⟨rfl, HB.out⟩

open Classical in
/-- What Bind answers. -/
noncomputable def St.bindE (σ : St) (v : Int) (T : Tm) : Int := if ¬ (0 ≤ v ∧ v < (σ.vs.length : Int)) then 5 else if (∃ U, σ.look v = some U) then 6 else if Met σ v T then 4 else 0

set_option maxRecDepth 100000 in
set_option maxHeartbeats 4000000 in
open Classical in
theorem bind_bad {p : Nat → Prop} {n₀ : Nat} {w : World} {b : Nat} {V L : Value} {σ : St} (h : StAt p n₀ w b V L σ) (v : Int) (t : Value) (T : Tm) (ht : Has w t T) (hs : T.size ≤ 1000000000) (hbad : σ.bindE v T ≠ 0) :
    Calls Try.prog 20 #[.pointer (some ⟨b, 0, none⟩), .int .i64 v, t] w (Gets w (.int .i64 (σ.bindE v T))) := by
  obtain ⟨k, n, s, a, len, cap, ks, rfl, eT, -⟩ := ht.form
  have HB : Hid (Below w.heap.size w (w.alloc (.cells #[.int .i64 k, .int .i64 n, .string s, .slice a len cap] 24))) := (Below.refl _ w).alloc (Nat.le_refl _) _
  obtain ⟨xs, hr, hok⟩ := h.rV
  have h1 := h.below HB.out
  obtain ⟨c0, c1⟩ := two_cells h1.box
  obtain ⟨va, vc, rfl⟩ := hr.form
  have hl := hok.len
  have hlen := h.ok.len
  unfold St.bindE at hbad ⊢
  by_cases hv : ¬ (0 ≤ v ∧ v < (σ.vs.length : Int))
  · rw [if_pos hv]
    by_cases hv0 : v < 0
    · clear hbad h h1 hr hok hs ht eT hv
      go_enter Try.func20, Try.ntmps20
      go_wp2_with fail
      go_ret
      exact ⟨rfl, HB.out⟩
    · have hge : v ≥ (xs.length : Int) := by omega
      clear hbad h h1 hr hok hs ht eT hv hl
      generalize xs.length = m at *
      go_enter Try.func20, Try.ntmps20
      go_wp2_with fail
      go_ret
      exact ⟨rfl, HB.out⟩
  rw [if_neg hv] at hbad ⊢
  obtain ⟨hv0, hv1⟩ : 0 ≤ v ∧ v < (σ.vs.length : Int) := Classical.not_not.1 hv
  obtain ⟨x, rfl⟩ : ∃ x : Nat, v = (x : Int) := ⟨v.toNat, by omega⟩
  have hxs : x < xs.length := by omega
  obtain ⟨q, hq⟩ : ∃ q, xs[x]? = some q := ⟨_, List.getElem?_eq_getElem hxs⟩
  obtain ⟨o, ho⟩ : ∃ o, σ.vs[x]? = some o := ⟨_, List.getElem?_eq_getElem (by omega)⟩
  obtain ⟨hqb, -⟩ := hok.at_ x q o hq ho
  obtain ⟨h1_, ⟨_, h0⟩ | ⟨g, cp, cur, e, hg, hh, hn, hcap, hsz, htake⟩⟩ := id hr
  · rw [h0] at hxs; exact absurd hxs (Nat.not_lt_zero _)
  injection e with e1 e2 e3
  subst e1 e3
  have hcell : (w.alloc (.cells #[.int .i64 k, .int .i64 n, .string s, .slice a len cap] 24)).cell? ⟨g, x * 5, none⟩ = some (.bool q.b) := by
    refine cell_al ?_ _
    have h3 := flat5_get xs x q hq 0 (by decide)
    rw [← htake, List.getElem?_take_of_lt (by omega)] at h3
    simp only [World.cell?, hh]
    simpa [V5.cells] using h3
  rw [hqb] at hcell
  have hlook : σ.look (x : Int) = o := by rw [St.look_nat, ho]; rfl
  have hhas := has_at10 h1 (.agg #[.int .i64 k, .int .i64 n, .string s, .slice a len cap]) T (Has.below ht HB.out) (x : Int) hs
  rw [hlook] at hbad ⊢
  have hn1 : decide ((x : Int) < 0) = false := by simp
  have hxl : (x : Int) < (xs.length : Int) := by omega
  have hge1 : decide ((x : Int) ≥ (xs.length : Int)) = false := by simp; omega
  clear h h1 hr hok hs ht eT hv hl hq ho hqb h1_ hh hn htake hcap hsz hg hlook hv0
  generalize xs.length = m at *
  obtain ⟨x0, x1, x2, x3⟩ := tbox_cells (World.alloc_heap_new w (.cells #[.int .i64 k, .int .i64 n, .string s, .slice a len cap] 24))
  cases o with
  | some U =>
    rw [if_pos ⟨U, rfl⟩]
    simp only [Option.isSome_some] at hcell
    clear hbad hhas
    go_enter Try.func20, Try.ntmps20
    go_wp2_with fail
    go_ret
    exact ⟨rfl, HB.out⟩
  | none =>
    have hno : ¬ ∃ U : Tm, (none : Option Tm) = some U := by rintro ⟨U, hU⟩; cases hU
    rw [if_neg hno] at hbad ⊢
    simp only [Option.isSome_none] at hcell
    by_cases hM : Met σ (x : Int) T
    · rw [if_pos hM]
      rw [decide_eq_true hM] at hhas
      clear hbad hM hno
      go_enter Try.func20, Try.ntmps20
      go_wp2_with (go_at_call 36; refine hhas.mono ?_; clear hhas; rintro e w5 ⟨rfl, hb5⟩)
      go_ret
      exact ⟨rfl, HB.out.trans (hb5.mono HB.out.size)⟩
    · rw [if_neg hM] at hbad
      exact absurd rfl hbad
end Go.Proofs.Ytlnggaepmclbkaa
