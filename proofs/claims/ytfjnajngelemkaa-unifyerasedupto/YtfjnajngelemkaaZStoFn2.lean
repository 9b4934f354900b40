/-
  Rows of one's own that grow by zero values; rows of numbers of which what lies behind may be cut off.
-/
import Derived.Test.YtfjnajngelemkaaZOwnTn2
import Derived.Lib.AppendZerosOnto
import Derived.Test.YtfjnajngelemkaaZStoDn2
import Derived.Test.YtfjnajngelemkaaZLastn2
namespace Go.Proofs.Ytfjnajngelemkaa
open Go.RowKit Go.Shelf
set_option linter.unusedVariables false

theorem run_append_zeros_own {P : Program} (w : World) (base : Nat) (t tn ty e : TypeId) (i : TypeInfo) (z : Value) (kn : IntKind) (size bytes : Nat) (ht : P.underlying t = some (.slice e)) (htn : P.underlying tn = some (.int kn)) (hi : P.info? e = some i) (hz : i.zero = some z)
    (hsize : i.size = size) (hby : i.bytes = bytes) (hzs : z.cells.size = size) (hsz : 0 < size) (hone : ∀ u ∈ z.cells.toList, u.oneCell' = true)
    (v : Value) (n : Nat) (xs : List Value) (hown : w.ownsRow base e size v n xs) (k : Nat)
    (h63 : n + k ≤ maxLen) (hbytes : (n + k) * bytes ≤ 140737488355328) (hbase : base ≤ w.heap.size) :
    ∃ v' w', (Builtin.append_ #[t, tn] ty #[v, .int .i64 k]).run P w = .ok v' w' ∧ w'.ownsRow base e size v' (n + k) (xs ++ (Builtin.zeroCells z.cells k).toList) ∧ w.grownBy w' v.ownBlock ∧ (v'.ownBlock = v.ownBlock ∨ v'.ownBlock = some w.heap.size) := by
  subst hsize
  subst hby
  have hk63 : (k : Int) ≤ 9223372036854775807 := by simp only [maxLen] at h63; omega
  have hw : IntKind.i64.wrap (k : Int) = k := by rw [IntKind.wrap_i64]; omega
  have hk48 : k * i.bytes ≤ 281474976710656 := by
    have : k * i.bytes ≤ (n + k) * i.bytes := Nat.mul_le_mul_right _ (by omega)
    omega
  have h48i : ¬ (281474976710656 < (k : Int) * (i.bytes : Int)) := by
    rw [← Int.natCast_mul]
    omega
  have hneg : ¬ ((k : Int) < 0) := by omega
  have hzl : (Builtin.zeroCells z.cells k).toList.length = k * i.size := by rw [Array.length_toList, size_zeroCells, hzs]
  have hlen : (xs ++ (Builtin.zeroCells z.cells k).toList).length = (n + k) * i.size := by rw [List.length_append, hown.1, hzl, Nat.add_mul]
  have grown : ∀ (old : Nat), old < n + k → ∀ (row : Option Nat),
      (w.drew.alloc (.cells (xs.toArray ++ Builtin.zeroCells z.cells k ++ Builtin.zeroCells z.cells (grownCap w (n + k) old e - (n + k))) e)).ownsRow base e i.size
        (.slice (some ⟨w.heap.size, 0, none⟩) (n + k) (grownCap w (n + k) old e)) (n + k) (xs ++ (Builtin.zeroCells z.cells k).toList) ∧
      w.grownBy (w.drew.alloc (.cells (xs.toArray ++ Builtin.zeroCells z.cells k ++ Builtin.zeroCells z.cells (grownCap w (n + k) old e - (n + k))) e)) row := by
    intro old ho row
    have hge := grownCap_ge w (n + k) old e
    have hcm : grownCap w (n + k) old e ≤ maxLen := grownCap_le_maxLen w (n + k) old e h63
    refine ⟨⟨hlen, .inr ⟨w.heap.size, _, _, rfl, hbase, heap_alloc_new w.drew _, hge, hcm, ?_, ?_⟩⟩, ⟨rfl, rfl, rfl, by simp, fun k hk _ => heap_alloc_old w.drew _ k hk⟩⟩
    · simp only [Array.size_append, List.size_toArray, size_zeroCells, hzs, hown.1, ← Nat.add_mul]
      congr 1
      omega
    · simp only [Array.toList_append, List.append_assoc]
      rw [← List.append_assoc, ← hlen]
      exact List.take_left
  have hzero : ∀ m : Nat, Builtin.zeroCells z.cells 0 = #[] := fun _ => by simp [Builtin.zeroCells]
  have happ : ∀ W : World, (if k * i.size = 0 then (pure #[] : Sem (Array Value)) else do pure (Builtin.zeroCells (← zeroValue e).cells k)).run P W = .ok (Builtin.zeroCells z.cells k) W := by
    intro W
    by_cases h0 : k = 0
    · subst h0; simp [hzero 0]
    · rw [if_neg (Nat.mul_ne_zero h0 (by omega))]
      simp [zeroValue, typeInfo, hi, hz]
  rcases hown.2 with ⟨rfl, rfl⟩ | ⟨g, cap, cur, rfl, hbg, hg, hnc, hcm, hcs, htake⟩
  · have hx : xs = [] := List.eq_nil_of_length_eq_zero (by simpa using hown.1)
    subst hx
    by_cases hm : k = 0
    · subst hm
      refine ⟨.slice none 0 0, w, ?_, by simpa [hzero 0] using World.ownsRow_nil w base e i.size, ⟨rfl, rfl, rfl, Nat.le_refl _, fun _ _ _ => rfl⟩, Or.inl rfl⟩
      simp [Builtin.append_, run_underlying ht, run_underlying htn, sizeOf, typeInfo, hi, asInt, asIntOf, IntKind.wrap_i64]
    · have hr := Lib.run_append_nil_zeros (P := P) w t tn ty e i z .i64 kn ht htn hi hz k (by omega) hsz hk63 hk48
      have hgr := grown 0 (by omega) (Value.ownBlock (.slice none 0 0))
      simp only [Nat.zero_add, List.nil_append, Array.empty_append] at hgr ⊢
      exact ⟨_, _, hr, hgr.1, hgr.2, Or.inr rfl⟩
  · by_cases hroom : n + k ≤ cap
    · have hfit : n * i.size + (Builtin.zeroCells z.cells k).toList.length ≤ cur.size := by rw [hzl, hcs, ← Nat.add_mul]; exact Nat.mul_le_mul_right _ hroom
      have hzone : ∀ u ∈ (Builtin.zeroCells z.cells k).toList, u.oneCell' = true := by
        intro u hu
        simp only [Builtin.zeroCells, Array.toList_map, List.mem_map] at hu
        obtain ⟨j, _, rfl⟩ := hu
        have hj : j % z.cells.size < z.cells.size := Nat.mod_lt _ (by rw [hzs]; exact hsz)
        rw [getElem!_pos z.cells _ hj]
        exact hone _ (by simp)
      have hst := run_storeCells_at P g (n * i.size) e (Builtin.zeroCells z.cells k).toList 0 cur w hg (by simpa using hfit) hzone
      simp only [Nat.add_zero] at hst
      refine ⟨.slice (some ⟨g, 0, none⟩) (n + k) cap, w.setRow g (cur.toList.take (n * i.size) ++ (Builtin.zeroCells z.cells k).toList ++ cur.toList.drop (n * i.size + (Builtin.zeroCells z.cells k).toList.length)).toArray, ?_, ⟨hlen, .inr ⟨g, cap, _, rfl, hbg, setRow_heap w g cur _ e _ hg, hroom, hcm, ?_, ?_⟩⟩, ⟨rfl, rfl, rfl, by simp, fun k _ hk => setRow_other w g k _ (fun e => hk (by simp [Value.ownBlock, e]))⟩, Or.inl rfl⟩
      · have h0 := happ w
        simp [Builtin.append_, run_underlying ht, run_underlying htn, sizeOf, typeInfo, hi, asInt, asIntOf, hw, hneg, h48i, hroom, Addr.add_lit]
        by_cases h1 : k * i.size = 0
        · have hk0 : k = 0 := by rcases Nat.mul_eq_zero.1 h1 with h | h <;> omega
          subst hk0
          rw [if_pos h1]
          simp [hzero 0] at hst ⊢
          simp [hst, Result.andThen]
        · rw [if_neg h1]
          simp at hst
          simp [zeroValue, typeInfo, hi, hz, hst, Result.andThen]
      · simp only [List.size_toArray, List.length_append, List.length_take, List.length_drop, Array.length_toList] at hfit ⊢
        omega
      · rw [htake, ← hlen]
        exact List.take_left
    · have holds : ∀ j u, xs[j]? = some u → w.cell? ((⟨g, 0, none⟩ : Addr).add j) = some u := hown.cells (g := g) rfl
      have hr := Lib.run_append_grow_zeros (P := P) w t tn ty e i z .i64 kn ht htn hi hz (some ⟨g, 0, none⟩) n cap xs (run_firstCells_some (P := P) w.drew i.size n ⟨g, 0, none⟩ n cap xs hown.1 holds) k (by omega) hsz (by omega) (by simp only [maxLen] at h63; omega) hk48 (growslice_fits (by omega) hbytes)
      have hgr := grown cap (by omega) (Value.ownBlock (.slice (some ⟨g, 0, none⟩) n cap))
      exact ⟨_, _, hr, hgr.1, hgr.2, Or.inr rfl⟩

/-- append of one number to a row of which what lies behind may be cut off. -/
theorem run_append_loose (w : World) (ty : TypeId) (base : Nat) (v : Value) (l : List Nat) (hown : RowL w base v l) (B : Nat) (x : Nat) (hr : w.heap[B]? = some (.cells #[.int .i64 (x : Int)] 3 (0, 0))) (hl : l.length + 1 ≤ 1000000000000) (hbase : base ≤ w.heap.size) :
    ∃ v' w', (Builtin.append_ #[75, 75] ty #[v, .slice (some ⟨B, 0, none⟩) 1 1]).run Try.prog w = .ok v' w' ∧ RowL w' base v' (l ++ [x]) ∧ w.grownBy w' v.ownBlock ∧ (v'.ownBlock = v.ownBlock ∨ v'.ownBlock = some w.heap.size) := by
  have hinf : (Try.prog.info? 3).map (fun i => (i.zero, i.size, i.bytes)) = some (some (.int .i64 0), 1, 8) := by kernel_rfl
  obtain ⟨i0, hi, hz0, hz1, hz2⟩ := info_parts hinf
  have hnews : ∀ j u, [Value.int .i64 (x : Int)][j]? = some u → w.cell? ((⟨B, 0, none⟩ : Addr).add j) = some u := by
    intro j u hj
    match j, hj with
    | 0, hj => simp at hj; subst hj; simp [Addr.add, World.cell?, hr]
  have h1 : ∀ u ∈ [Value.int .i64 (x : Int)], u.oneCell' = true := by simp [Value.oneCell']
  have hlx : ∀ _ : Nat, (l ++ [x]).map (fun n : Nat => Value.int .i64 (n : Int)) = l.map (fun n : Nat => Value.int .i64 (n : Int)) ++ [Value.int .i64 (x : Int)] := fun _ => by simp
  have grown : ∀ old : Nat, RowL (w.drew.alloc (.cells ((l.map fun n : Nat => Value.int .i64 (n : Int)).toArray ++ [Value.int .i64 (x : Int)].toArray ++ Builtin.zeroCells (Value.int .i64 0).cells (grownCap w (l.length + 1) old 3 - (l.length + 1))) 3)) base (.slice (some ⟨w.heap.size, 0, none⟩) (l.length + 1) (grownCap w (l.length + 1) old 3)) (l ++ [x]) ∧
      ∀ row, w.grownBy (w.drew.alloc (.cells ((l.map fun n : Nat => Value.int .i64 (n : Int)).toArray ++ [Value.int .i64 (x : Int)].toArray ++ Builtin.zeroCells (Value.int .i64 0).cells (grownCap w (l.length + 1) old 3 - (l.length + 1))) 3)) row := by
    intro old
    have hge := grownCap_ge w (l.length + 1) old 3
    have hcm : grownCap w (l.length + 1) old 3 ≤ maxLen := grownCap_le_maxLen w (l.length + 1) old 3 (by unfold maxLen; omega)
    refine ⟨.inr ⟨w.heap.size, _, _, by simp, hbase, heap_alloc_new w.drew _, by simpa using hge, hcm, ?_, ?_⟩, fun row => ⟨rfl, rfl, rfl, by simp, fun k hk _ => heap_alloc_old w.drew _ k hk⟩⟩
    · simp [size_zeroCells, Value.cells]; omega
    · simp only [Array.toList_append, hlx 0]
      rw [List.append_assoc, ← List.append_assoc]
      rw [List.take_left' (by simp)]
  rcases hown with ⟨rfl, rfl⟩ | ⟨g, cap, cur, rfl, hbg, hg, hnc, hcm, hcs, htake⟩
  · have hr := run_append_nil (P := Try.prog) w 75 ty 3 i0 _ Try.underlying75 hi hz0 ⟨B, 0, none⟩ 1 1 [.int .i64 (x : Int)] (by rw [hz1]; rfl) hnews (by omega) (by omega) (by rw [hz2]; omega)
    have hgr := grown 0
    simp only [List.length_nil, Nat.zero_add, List.map_nil, List.nil_append] at hgr
    exact ⟨_, _, hr, by simpa using hgr.1, by simpa using hgr.2 _, Or.inr rfl⟩
  · by_cases hroom : l.length + 1 ≤ cap
    · have hr := run_append_room (P := Try.prog) w 75 ty 3 i0 Try.underlying75 hi g l.length cap cur hg ⟨B, 0, none⟩ 1 1 [.int .i64 (x : Int)] (by rw [hz1]; rfl) hnews h1 hroom (by rw [hz1]; simp; omega)
      rw [hz1] at hr
      simp only [Nat.mul_one, List.length_singleton] at hr
      refine ⟨_, _, hr, .inr ⟨g, cap, _, by simp, hbg, setRow_heap w g cur _ _ _ hg, by simpa using hroom, hcm, ?_, ?_⟩, ⟨rfl, rfl, rfl, by simp, fun k _ hk => setRow_other w g k _ (fun e => hk (by simp [Value.ownBlock, e]))⟩, Or.inl rfl⟩
      · simp only [List.size_toArray, List.length_append, List.length_take, List.length_drop, Array.length_toList, List.length_singleton]
        omega
      · rw [htake, hlx 0, List.take_left' (by simp)]
    · have holds : ∀ j u, (l.map fun n : Nat => Value.int .i64 (n : Int))[j]? = some u → w.cell? ((⟨g, 0, none⟩ : Addr).add j) = some u := by
        intro j u hu
        rw [← htake, List.getElem?_take] at hu
        split at hu
        · rw [show (Addr.add ⟨g, 0, none⟩ j) = ⟨g, j, none⟩ by by_cases e : j = 0 <;> simp [Addr.add, e]]
          simp only [World.cell?, hg]
          simpa using hu
        · cases hu
      have hr := run_append_grow (P := Try.prog) w 75 ty 3 i0 _ Try.underlying75 hi hz0 ⟨g, 0, none⟩ l.length cap (l.map fun n : Nat => Value.int .i64 (n : Int)) (by rw [hz1]; simp) holds ⟨B, 0, none⟩ 1 1 [.int .i64 (x : Int)] (by rw [hz1]; rfl) hnews (by omega) (by omega) (growslice_fits (by omega) (by rw [hz2]; omega))
      have hgr := grown cap
      exact ⟨_, _, hr, hgr.1, hgr.2 _, Or.inr rfl⟩
end Go.Proofs.Ytfjnajngelemkaa

namespace Go.Proofs.Ytfjnajngelemkaa
open Go.RowKit Go.Shelf
set_option linter.unusedVariables false

/-- A step that writes in the store's own blocks and in new memory. -/
structure Mut (w : World) (b : Nat) (V L : Value) (w' : World) (V' L' : Value) : Prop where
  os : w'.os = w.os
  tape : w'.tape = w.tape
  output : w'.output = w.output
  size : w.heap.size ≤ w'.heap.size
  keep : ∀ k, Oth w b V L k → w'.heap[k]? = w.heap[k]? ∧ Oth w' b V' L' k

theorem Mut.refl (w : World) (b : Nat) (V L : Value) : Mut w b V L w V L := ⟨rfl, rfl, rfl, Nat.le_refl _, fun k h => ⟨rfl, h⟩⟩
theorem Mut.trans {w w1 w2 : World} {b : Nat} {V L V1 L1 V2 L2 : Value} (h : Mut w b V L w1 V1 L1) (g : Mut w1 b V1 L1 w2 V2 L2) : Mut w b V L w2 V2 L2 :=
  ⟨g.os.trans h.os, g.tape.trans h.tape, g.output.trans h.output, Nat.le_trans h.size g.size, fun k hk => ⟨(g.keep k (h.keep k hk).2).1.trans (h.keep k hk).1, (g.keep k (h.keep k hk).2).2⟩⟩
theorem Mut.below {p : Nat → Prop} {n₀ : Nat} {w : World} {b : Nat} {V L : Value} {σ : St} (h : StAt p n₀ w b V L σ) {w' : World} {V' L' : Value} (m : Mut w b V L w' V' L') (hn : n₀ ≤ w.heap.size) : Below n₀ w w' := by
  obtain ⟨xs, h1, h2⟩ := h.rV
  refine ⟨m.os, m.tape, m.output, m.size, fun k hk => (m.keep k ⟨Nat.lt_of_lt_of_le hk hn, fun e => ?_, fun e => ?_, fun e => ?_⟩).1⟩
  · have := h.lo; omega
  · have := (h1.lt k e).1; omega
  · have := (h.rL.lt k e).1; omega
theorem Mut.of_below {w w' : World} {b : Nat} {V L : Value} (h : Below w.heap.size w w') : Mut w b V L w' V L :=
  ⟨h.os, h.tape, h.output, h.size, fun k hk => ⟨h.block k hk.1, hk.below h⟩⟩
theorem Mut.term {w w' : World} {b : Nat} {V L V' L' : Value} (m : Mut w b V L w' V' L') {v : Value} {T : Tm} (h : TmIn (Oth w b V L) w v T) : TmIn (Oth w' b V' L') w' v T :=
  h.carry (fun k hk => (m.keep k hk).1) fun k hk => (m.keep k hk).2
theorem Mut.lo {p : Nat → Prop} {n₀ : Nat} {w : World} {b : Nat} {V L : Value} {σ : St} (h : StAt p n₀ w b V L σ) (hn : n₀ ≤ w.heap.size) {k : Nat} (hk : k < n₀) : Oth w b V L k := by
  obtain ⟨xs, h1, h2⟩ := h.rV
  refine ⟨Nat.lt_of_lt_of_le hk hn, fun e => ?_, fun e => ?_, fun e => ?_⟩
  · have := h.lo; omega
  · have := (h1.lt k e).1; omega
  · have := (h.rL.lt k e).1; omega

theorem rows_ne {w : World} {n₀ : Nat} {V L : Value} {xs : List V5} {l : List Nat} (h : RowV w n₀ V xs) (g : RowL w n₀ L l) : ∀ k, V.ownBlock = some k → L.ownBlock ≠ some k := by
  intro k hk e
  obtain ⟨h1, ⟨rfl, h0⟩ | ⟨g1, cap, cur, rfl, hg, hh, r⟩⟩ := h
  · cases hk
  · cases hk
    obtain ⟨rfl, rfl⟩ | ⟨g2, cap2, cur2, rfl, hg2, hh2, r2⟩ := g
    · cases e
    · cases e; rw [hh] at hh2; cases hh2
theorem RowV.ne_box {w : World} {n₀ : Nat} {V : Value} {xs : List V5} (h : RowV w n₀ V xs) {b : Nat} {c : Array Value} (hb : w.heap[b]? = some (.cells c 89 (0, 0))) : V.ownBlock ≠ some b := by
  intro e
  obtain ⟨h1, ⟨rfl, h0⟩ | ⟨g1, cap, cur, rfl, hg, hh, r⟩⟩ := h
  · cases e
  · cases e; rw [hh] at hb; cases hb
theorem RowL.ne_box {w : World} {n₀ : Nat} {L : Value} {l : List Nat} (h : RowL w n₀ L l) {b : Nat} {c : Array Value} (hb : w.heap[b]? = some (.cells c 89 (0, 0))) : L.ownBlock ≠ some b := by
  intro e
  obtain ⟨rfl, rfl⟩ | ⟨g2, cap2, cur2, rfl, hg2, hh2, r2⟩ := h
  · cases e
  · cases e; rw [hh2] at hb; cases hb

set_option maxRecDepth 100000 in
theorem new_at10 (w : World) (n₀ : Nat) (hn : n₀ ≤ w.heap.size) : Calls Try.prog 29 #[] w fun e w' => e = .returned (.pointer (some ⟨w.heap.size, 0, none⟩)) ∧ Below w.heap.size w w' ∧ w.heap.size < w'.heap.size ∧
    StAt (Oth w' w.heap.size (.slice none 0 0) (.slice none 0 0)) n₀ w' w.heap.size (.slice none 0 0) (.slice none 0 0) ⟨[], []⟩ := by
  have hz := zeroStore
  go_enter Try.func29, Try.ntmps29
  go_wp2_with fail
  go_ret
  refine ⟨rfl, (Below.refl _ w).alloc (Nat.le_refl _) _, by simp, World.alloc_heap_new w _, hn, fun k hk => hk, ⟨[], World.ownsRow_nil _ _ _ _, ⟨rfl, fun i x o h => by simp at h⟩⟩, .inl ⟨rfl, rfl⟩, ?_⟩
  exact ⟨⟨fun _ => 0, fun x T h => by simp at h⟩, by simp, fun o ho => by simp at ho, List.nodup_nil, fun v => by simp⟩

set_option maxRecDepth 100000 in
theorem mark_at {p : Nat → Prop} {n₀ : Nat} {w : World} {b : Nat} {V L : Value} {σ : St} (h : StAt p n₀ w b V L σ) : Calls Try.prog 24 #[.pointer (some ⟨b, 0, none⟩)] w fun e w' => e = .returned (.int .i64 (σ.tr.length : Int)) ∧ w' = w := by
  obtain ⟨c0, c1⟩ := two_cells h.box
  obtain ⟨a, c, rfl⟩ := h.rL.form
  clear h
  go_enter Try.func24, Try.ntmps24
  go_wp2_with fail
  go_ret
  exact ⟨rfl, rfl⟩
set_option maxRecDepth 100000 in
theorem mark_nil (w : World) : Calls Try.prog 24 #[.pointer none] w fun e w' => e = .returned (.int .i64 0) ∧ w' = w := by
  go_enter Try.func24, Try.ntmps24
  go_wp2_with fail
  go_ret
  exact ⟨rfl, rfl⟩

/-- Fresh, refused. -/
def St.freshBad (σ : St) (n : Int) : Int := if n < 0 then 1 else if 4096 - (σ.vs.length : Int) < n then 3 else 0
set_option maxRecDepth 100000 in
theorem fresh_bad {p : Nat → Prop} {n₀ : Nat} {w : World} {b : Nat} {V L : Value} {σ : St} (h : StAt p n₀ w b V L σ) (n : Int) (hbad : σ.freshBad n ≠ 0) : Calls Try.prog 38 #[.pointer (some ⟨b, 0, none⟩), .int .i64 n] w fun e w' => e = .returned (.tuple #[.int .i64 0, .int .i64 (σ.freshBad n)]) ∧ w' = w := by
  obtain ⟨c0, c1⟩ := two_cells h.box
  obtain ⟨xs, hr, hok⟩ := h.rV
  obtain ⟨a, c, rfl⟩ := hr.form
  have hl := hok.len
  have hlen := h.ok.len
  unfold St.freshBad at hbad ⊢
  by_cases hn : n < 0
  · rw [if_pos hn]
    clear h hr hok hbad
    go_enter Try.func38, Try.ntmps38
    go_wp2_with fail
    refine bodyPost_ret (v := .tuple #[.int .i64 0, .int .i64 1]) (by simp [results, Try.f38, go_sem]) rfl ?_
    exact ⟨rfl, rfl⟩
  · rw [if_neg hn] at hbad ⊢
    have hf : 4096 - (σ.vs.length : Int) < n := by
      by_cases hf : 4096 - (σ.vs.length : Int) < n
      · exact hf
      · rw [if_neg hf] at hbad; exact absurd rfl hbad
    rw [if_pos hf]
    rw [← hl] at hf hlen
    have hw : IntKind.i64.wrap (4096 - (xs.length : Int)) = 4096 - (xs.length : Int) := by rw [IntKind.wrap_i64]; omega
    have hf' : n > 4096 - (xs.length : Int) := hf
    clear h hr hok hbad hl
    generalize xs.length = m at *
    go_enter Try.func38, Try.ntmps38
    go_wp2_with fail
    refine bodyPost_ret (v := .tuple #[.int .i64 0, .int .i64 3]) (by simp [results, Try.f38, go_sem]) rfl ?_
    exact ⟨rfl, rfl⟩
set_option maxRecDepth 100000 in
theorem fresh_nil (n : Int) (w : World) : Calls Try.prog 38 #[.pointer none, .int .i64 n] w fun e w' => e = .returned (.tuple #[.int .i64 0, .int .i64 5]) ∧ w' = w := by
  go_enter Try.func38, Try.ntmps38
  go_wp2_with fail
  refine bodyPost_ret (v := .tuple #[.int .i64 0, .int .i64 5]) (by simp [results, Try.f38, go_sem]) rfl ?_
  exact ⟨rfl, rfl⟩

theorem infoVar : (Try.prog.info? 110).map (fun i => (i.zero, i.size, i.bytes)) = some (some (.agg #[.bool false, .int .i64 0, .int .i64 0, .string (ByteArray.mk #[]), .slice none 0 0]), 5, 64) := by kernel_rfl
def z5 : V5 := ⟨false, 0, 0, ByteArray.mk #[], none, 0, 0⟩
theorem zeros5 : ∀ n, (Builtin.zeroCells (Value.agg #[.bool false, .int .i64 0, .int .i64 0, .string (ByteArray.mk #[]), .slice none 0 0]).cells n).toList = flat5 (List.replicate n z5) := by
  intro n
  refine List.ext_getElem? fun j => ?_
  have hsz : (Value.agg #[.bool false, .int .i64 0, .int .i64 0, .string (ByteArray.mk #[]), .slice none 0 0]).cells.size = 5 := rfl
  by_cases hj : j < n * 5
  · have h1 := flat5_get (List.replicate n z5) (j / 5) z5 (by rw [List.getElem?_replicate]; rw [if_pos (by omega)]) (j % 5) (Nat.mod_lt _ (by decide))
    rw [show j / 5 * 5 + j % 5 = j by omega] at h1
    rw [h1]
    simp only [Builtin.zeroCells, hsz, Array.toList_map, List.getElem?_map, Array.toList_range, List.getElem?_range hj, Option.map_some]
    have h5 : j % 5 = 0 ∨ j % 5 = 1 ∨ j % 5 = 2 ∨ j % 5 = 3 ∨ j % 5 = 4 := by omega
    rcases h5 with e | e | e | e | e <;> rw [e] <;> rfl
  · rw [List.getElem?_eq_none (by rw [Array.length_toList, size_zeroCells, hsz]; omega), List.getElem?_eq_none (by rw [flat5_length, List.length_replicate]; omega)]

def St.fresh (σ : St) (n : Nat) : St := ⟨σ.vs ++ List.replicate n none, σ.tr⟩
theorem St.Ok.fresh {σ : St} (h : σ.Ok) (n : Nat) (hn : σ.vs.length + n ≤ 4096) : (σ.fresh n).Ok := by
  have hg : ∀ (x : Nat) (T : Tm), (σ.fresh n).vs[x]? = some (some T) → σ.vs[x]? = some (some T) := by
    intro x T hx
    have hx : (σ.vs ++ List.replicate n none)[x]? = some (some T) := hx
    rw [List.getElem?_append] at hx
    split at hx
    · exact hx
    · rw [List.getElem?_replicate] at hx
      split at hx <;> cases hx
  refine ⟨h.ranked.less hg, ?_, fun o ho U hU => ?_, h.nd, fun v => ?_⟩
  · show (σ.vs ++ List.replicate n none).length ≤ 4096
    rw [List.length_append, List.length_replicate]; exact hn
  · have ho : o ∈ σ.vs ++ List.replicate n none := ho
    rcases List.mem_append.1 ho with ho | ho
    · exact h.small o ho U hU
    · rw [List.eq_of_mem_replicate ho] at hU; cases hU
  · show v ∈ σ.tr ↔ _
    rw [h.mem v]
    constructor
    · rintro ⟨U, hU⟩
      refine ⟨U, ?_⟩
      show (σ.vs ++ List.replicate n none)[v]? = _
      rw [List.getElem?_append_left (List.getElem?_eq_some_iff.1 hU).1]; exact hU
    · rintro ⟨U, hU⟩; exact ⟨U, hg v U hU⟩
theorem VOk.fresh {p : Nat → Prop} {w : World} {xs : List V5} {vs : List (Option Tm)} (h : VOk p w xs vs) (n : Nat) : VOk p w (xs ++ List.replicate n z5) (vs ++ List.replicate n none) := by
  refine ⟨by rw [List.length_append, List.length_append, h.len, List.length_replicate, List.length_replicate], fun i x o h1 h2 => ?_⟩
  by_cases hi : i < xs.length
  · rw [List.getElem?_append_left hi] at h1
    rw [List.getElem?_append_left (by rw [← h.len]; exact hi)] at h2
    exact h.at_ i x o h1 h2
  · rw [List.getElem?_append_right (by omega), List.getElem?_replicate] at h1
    rw [List.getElem?_append_right (by rw [← h.len]; omega), List.getElem?_replicate] at h2
    split at h1
    · cases h1
      split at h2
      · cases h2; exact ⟨rfl, fun U hU => by cases hU⟩
      · cases h2
    · cases h1

set_option maxRecDepth 100000 in
set_option maxHeartbeats 1000000 in
theorem fresh_at10 {n₀ : Nat} {w : World} {b : Nat} {V L : Value} {σ : St} (h : StAt (Oth w b V L) n₀ w b V L σ) (hn₀ : n₀ ≤ w.heap.size) (n : Nat) (hn : σ.vs.length + n ≤ 4096) :
    Calls Try.prog 38 #[.pointer (some ⟨b, 0, none⟩), .int .i64 (n : Int)] w fun e w' => e = .returned (.tuple #[.int .i64 (σ.vs.length : Int), .int .i64 0]) ∧ ∃ V', StAt (Oth w' b V' L) n₀ w' b V' L (σ.fresh n) ∧ Mut w b V L w' V' L := by
  obtain ⟨c0, c1⟩ := two_cells h.box
  obtain ⟨xs, hr, hok⟩ := h.rV
  obtain ⟨i0, hi, hz0, hz1, hz2⟩ := info_parts infoVar
  have hl := hok.len
  obtain ⟨v', w1, hrun, ho', hg, hat⟩ := run_append_zeros_own (P := Try.prog) w n₀ 87 3 87 110 i0 _ .i64 5 64 Try.underlying87 Try.underlying3 hi hz0 hz1 hz2 rfl (by decide)
    (by intro u hu; simp [Value.cells] at hu; rcases hu with rfl | rfl | rfl | rfl | rfl <;> rfl) V xs.length (flat5 xs) hr n (by rw [hl]; unfold maxLen; omega) (by rw [hl]; omega) hn₀
  rw [zeros5, ← flat5_append] at ho'
  have hlt := h.lt
  have hVb := hr.ne_box h.box
  have hb1 : w1.heap[b]? = some (.cells #[V, L] 89 (0, 0)) := (hg.block b hlt (fun e => hVb e.symm)).trans h.box
  obtain ⟨d0, d1⟩ := two_cells hb1
  have df : ∀ j, w1.frozen? ⟨b, j, none⟩ = false := fun j => by simp [World.frozen?, hb1]
  have hw : IntKind.i64.wrap (4096 - (σ.vs.length : Int)) = 4096 - (σ.vs.length : Int) := by rw [IntKind.wrap_i64]; omega
  have hnn : ¬ ((n : Int) > 4096 - (σ.vs.length : Int)) := by omega
  have hnd : decide ((n : Int) > 4096 - (σ.vs.length : Int)) = false := decide_eq_false hnn
  have hlk : σ.vs.length ≤ 4096 := by omega
  have post : Hid (∃ w2, w2 = w1.setCell ⟨b, 0, none⟩ v' ∧ StAt (Oth w2 b v' L) n₀ w2 b v' L (σ.fresh n) ∧ Mut w b V L w2 v' L) := by
    refine ⟨_, rfl, ?_⟩
    have hother : ∀ k, k ≠ b → (w1.setCell ⟨b, 0, none⟩ v').heap[k]? = w1.heap[k]? := fun k hk => Below.heap_setCell w1 ⟨b, 0, none⟩ v' k hk
    have hbox : (w1.setCell ⟨b, 0, none⟩ v').heap[b]? = some (.cells #[v', L] 89 (0, 0)) := set_block (o := 0) hb1 v'
    have hsz : (w1.setCell ⟨b, 0, none⟩ v').heap.size = w1.heap.size := by simp
    have hr1 : RowV w1 n₀ v' (xs ++ List.replicate n z5) := by
      unfold RowV; rw [List.length_append, List.length_replicate]; exact ho'
    have hv'b : v'.ownBlock ≠ some b := hr1.ne_box hb1
    have hr2 : RowV (w1.setCell ⟨b, 0, none⟩ v') n₀ v' (xs ++ List.replicate n z5) := hr1.later fun k hk => hother k (fun e => hv'b (by rw [hk, e]))
    have hLk : ∀ k, L.ownBlock = some k → w1.heap[k]? = w.heap[k]? := fun k hk => hg.block k (h.rL.lt k hk).2 (fun e => rows_ne hr h.rL k e.symm hk)
    have hLb := h.rL.ne_box h.box
    have hL2 : RowL (w1.setCell ⟨b, 0, none⟩ v') n₀ L σ.tr := h.rL.later fun k hk => (hother k (fun e => hLb (by rw [hk, e]))).trans (hLk k hk)
    have keep : ∀ k, Oth w b V L k → (w1.setCell ⟨b, 0, none⟩ v').heap[k]? = w.heap[k]? ∧ Oth (w1.setCell ⟨b, 0, none⟩ v') b v' L k := fun k hk => by
      refine ⟨(hother k hk.2.1).trans (hg.block k hk.1 (fun e => hk.2.2.1 e.symm)), by rw [hsz]; exact Nat.lt_of_lt_of_le hk.1 hg.size, hk.2.1, fun e => ?_, hk.2.2.2⟩
      rcases hat with hat | hat
      · exact hk.2.2.1 (hat ▸ e)
      · rw [hat] at e; injection e with e; have := hk.1; omega
    refine ⟨⟨hbox, h.lo, fun k hk => hk, ⟨_, hr2, (hok.fresh n).carry (fun k hk => (keep k hk).1) fun k hk => (keep k hk).2⟩, hL2, h.ok.fresh n hn⟩, ⟨hg.os, hg.tape, hg.output, by rw [hsz]; exact hg.size, keep⟩⟩
  have hv'f : ∃ a' l' c', v' = .slice a' l' c' := by
    obtain ⟨_, ⟨h2, _⟩ | ⟨g, cap, cur, e, _⟩⟩ := ho'
    · exact ⟨none, 0, 0, h2⟩
    · exact ⟨_, _, _, e⟩
  obtain ⟨a', l', c', rfl⟩ := hv'f
  obtain ⟨a, c, rfl⟩ := hr.form
  rw [hl] at c0 hrun d0
  clear h hr hok ho' hg hat hb1 hVb hl
  generalize σ.vs.length = m at *
  go_enter Try.func38, Try.ntmps38
  go_wp2_with (at_builtin; refine Lib.wpList_append_run _ rfl _ _ _ _ rfl _ _ rfl rfl _ _ hrun ?_)
  obtain ⟨w2, hw2, hS, hM⟩ := post.out
  rw [← hw2]
  refine bodyPost_ret (v := .tuple #[.int .i64 (m : Int), .int .i64 0]) (by simp [results, Try.f38, go_sem]) rfl ?_
  exact ⟨rfl, _, hS, hM⟩
end Go.Proofs.Ytfjnajngelemkaa
