/-
  Rows of one's own that grow by zero values; rows of numbers of which what lies behind may be cut off.
-/
import Derived.Test.YtlnggaepmclbkaaZOwnTn2
import Derived.Lib.AppendZerosOnto
import Derived.StillTail
import Derived.OrdersHeld
import Derived.Deep.Quiet
import Derived.Tactics
import Derived.KernelRfl
namespace Go.Proofs.Ytlnggaepmclbkaa
open Go.RowKit Go.Shelf
set_option linter.unusedVariables false

theorem run_append_zeros_own {P : Program} (w : World) (base : Nat) (t tn ty e : TypeId) (i : TypeInfo) (z : Value) (kn : IntKind) (size bytes : Nat) (ht : P.underlying t = some (.slice e)) (htn : P.underlying tn = some (.int kn)) (hi : P.info? e = some i) (hz : i.zero = some z)
    (hsize : i.size = size) (hby : i.bytes = bytes) (hzs : z.cells.size = size) (hsz : 0 < size) (hone : ∀ u ∈ z.cells.toList, u.oneCell' = true)
    (v : Value) (n : Nat) (xs : List Value) (hown : w.ownsRow base e size v n xs) (k : Nat)
    (h63 : n + k ≤ maxLen) (hbytes : (n + k) * bytes ≤ 140737488355328) (hbase : base ≤ w.heap.size) :
    ∃ v' w', (Builtin.append_ #[t, tn] ty #[v, .int .i64 k]).run P w = .ok v' w' ∧ w'.ownsRow base e size v' (n + k) (xs ++ (Builtin.zeroCells z.cells k).toList) ∧ w.grownBy w' v.ownBlock ∧ (v'.ownBlock = v.ownBlock ∨ v'.ownBlock = some w.heap.size) := by
  subst hsize
  subst hby
  have hk63 : (k : Int) ≤ 9223372036854775807 := by simp only [maxLen] at h63; omega
  have hw : IntKind.i64.wrap (k : Int) = k := by rw [IntKind.wrap_i64]; omega
  have hk48 : k * i.bytes ≤ 281474976710656 := by
    have : k * i.bytes ≤ (n + k) * i.bytes := Nat.mul_le_mul_right _ (by omega)
    omega
  have h48i : ¬ (281474976710656 < (k : Int) * (i.bytes : Int)) := by
    rw [← Int.natCast_mul]
    omega
  have hneg : ¬ ((k : Int) < 0) := by omega
  have hzl : (Builtin.zeroCells z.cells k).toList.length = k * i.size := by rw [Array.length_toList, size_zeroCells, hzs]
  have hlen : (xs ++ (Builtin.zeroCells z.cells k).toList).length = (n + k) * i.size := by rw [List.length_append, hown.1, hzl, Nat.add_mul]
  have grown : ∀ (old : Nat), old < n + k → ∀ (row : Option Nat),
      (w.drew.alloc (.cells (xs.toArray ++ Builtin.zeroCells z.cells k ++ Builtin.zeroCells z.cells (grownCap w (n + k) old e - (n + k))) e)).ownsRow base e i.size
        (.slice (some ⟨w.heap.size, 0, none⟩) (n + k) (grownCap w (n + k) old e)) (n + k) (xs ++ (Builtin.zeroCells z.cells k).toList) ∧
      w.grownBy (w.drew.alloc (.cells (xs.toArray ++ Builtin.zeroCells z.cells k ++ Builtin.zeroCells z.cells (grownCap w (n + k) old e - (n + k))) e)) row := by
    intro old ho row
    have hge := grownCap_ge w (n + k) old e
    have hcm : grownCap w (n + k) old e ≤ maxLen := grownCap_le_maxLen w (n + k) old e h63
    refine ⟨⟨hlen, .inr ⟨w.heap.size, _, _, rfl, hbase, heap_alloc_new w.drew _, hge, hcm, ?_, ?_⟩⟩, ⟨rfl, rfl, rfl, by simp, fun k hk _ => heap_alloc_old w.drew _ k hk⟩⟩
    · simp only [Array.size_append, List.size_toArray, size_zeroCells, hzs, hown.1, ← Nat.add_mul]
      congr 1
      omega
    · simp only [Array.toList_append, List.append_assoc]
      rw [← List.append_assoc, ← hlen]
      exact List.take_left
  have hzero : ∀ m : Nat, Builtin.zeroCells z.cells 0 = #[] := fun _ => by simp [Builtin.zeroCells]
  have happ : ∀ W : World, (if k * i.size = 0 then (pure #[] : Sem (Array Value)) else do pure (Builtin.zeroCells (← zeroValue e).cells k)).run P W = .ok (Builtin.zeroCells z.cells k) W := by
    intro W
    by_cases h0 : k = 0
    · subst h0; simp [hzero 0]
    · rw [if_neg (Nat.mul_ne_zero h0 (by omega))]
      simp [zeroValue, typeInfo, hi, hz]
  rcases hown.2 with ⟨rfl, rfl⟩ | ⟨g, cap, cur, rfl, hbg, hg, hnc, hcm, hcs, htake⟩
  · have hx : xs = [] := List.eq_nil_of_length_eq_zero (by simpa using hown.1)
    subst hx
    by_cases hm : k = 0
    · subst hm
      refine ⟨.slice none 0 0, w, ?_, by simpa [hzero 0] using World.ownsRow_nil w base e i.size, ⟨rfl, rfl, rfl, Nat.le_refl _, fun _ _ _ => rfl⟩, Or.inl rfl⟩
      simp [Builtin.append_, run_underlying ht, run_underlying htn, sizeOf, typeInfo, hi, asInt, asIntOf, IntKind.wrap_i64]
    · have hr := Lib.run_append_nil_zeros (P := P) w t tn ty e i z .i64 kn ht htn hi hz k (by omega) hsz hk63 hk48
      have hgr := grown 0 (by omega) (Value.ownBlock (.slice none 0 0))
      simp only [Nat.zero_add, List.nil_append, Array.empty_append] at hgr ⊢
      exact ⟨_, _, hr, hgr.1, hgr.2, Or.inr rfl⟩
  · by_cases hroom : n + k ≤ cap
    · have hfit : n * i.size + (Builtin.zeroCells z.cells k).toList.length ≤ cur.size := by rw [hzl, hcs, ← Nat.add_mul]; exact Nat.mul_le_mul_right _ hroom
      have hzone : ∀ u ∈ (Builtin.zeroCells z.cells k).toList, u.oneCell' = true := by
        intro u hu
        simp only [Builtin.zeroCells, Array.toList_map, List.mem_map] at hu
        obtain ⟨j, _, rfl⟩ := hu
        have hj : j % z.cells.size < z.cells.size := Nat.mod_lt _ (by rw [hzs]; exact hsz)
        rw [getElem!_pos z.cells _ hj]
        exact hone _ (by simp)
      have hst := run_storeCells_at P g (n * i.size) e (Builtin.zeroCells z.cells k).toList 0 cur w hg (by simpa using hfit) hzone
      simp only [Nat.add_zero] at hst
      refine ⟨.slice (some ⟨g, 0, none⟩) (n + k) cap, w.setRow g (cur.toList.take (n * i.size) ++ (Builtin.zeroCells z.cells k).toList ++ cur.toList.drop (n * i.size + (Builtin.zeroCells z.cells k).toList.length)).toArray, ?_, ⟨hlen, .inr ⟨g, cap, _, rfl, hbg, setRow_heap w g cur _ e _ hg, hroom, hcm, ?_, ?_⟩⟩, ⟨rfl, rfl, rfl, by simp, fun k _ hk => setRow_other w g k _ (fun e => hk (by simp [Value.ownBlock, e]))⟩, Or.inl rfl⟩
      · have h0 := happ w
        simp [Builtin.append_, run_underlying ht, run_underlying htn, sizeOf, typeInfo, hi, asInt, asIntOf, hw, hneg, h48i, hroom, Addr.add_lit]
        by_cases h1 : k * i.size = 0
        · have hk0 : k = 0 := by rcases Nat.mul_eq_zero.1 h1 with h | h <;> omega
          subst hk0
          rw [if_pos h1]
          simp [hzero 0] at hst ⊢
          simp [hst, Result.andThen]
        · rw [if_neg h1]
          simp at hst
          simp [zeroValue, typeInfo, hi, hz, hst, Result.andThen]
      · simp only [List.size_toArray, List.length_append, List.length_take, List.length_drop, Array.length_toList] at hfit ⊢
        omega
      · rw [htake, ← hlen]
        exact List.take_left
    · have holds : ∀ j u, xs[j]? = some u → w.cell? ((⟨g, 0, none⟩ : Addr).add j) = some u := hown.cells (g := g) rfl
      have hr := Lib.run_append_grow_zeros (P := P) w t tn ty e i z .i64 kn ht htn hi hz (some ⟨g, 0, none⟩) n cap xs (run_firstCells_some (P := P) w.drew i.size n ⟨g, 0, none⟩ n cap xs hown.1 holds) k (by omega) hsz (by omega) (by simp only [maxLen] at h63; omega) hk48 (growslice_fits (by omega) hbytes)
      have hgr := grown cap (by omega) (Value.ownBlock (.slice (some ⟨g, 0, none⟩) n cap))
      exact ⟨_, _, hr, hgr.1, hgr.2, Or.inr rfl⟩

/-- append of one number to a row of which what lies behind may be cut off. -/
theorem run_append_loose (w : World) (ty : TypeId) (base : Nat) (v : Value) (l : List Nat) (hown : RowL w base v l) (B : Nat) (x : Nat) (hr : w.heap[B]? = some (.cells #[.int .i64 (x : Int)] 3 (0, 0))) (hl : l.length + 1 ≤ 1000000000000) (hbase : base ≤ w.heap.size) :
    ∃ v' w', (Builtin.append_ #[34, 34] ty #[v, .slice (some ⟨B, 0, none⟩) 1 1]).run Try.prog w = .ok v' w' ∧ RowL w' base v' (l ++ [x]) ∧ w.grownBy w' v.ownBlock ∧ (v'.ownBlock = v.ownBlock ∨ v'.ownBlock = some w.heap.size) := by
  have hinf : (Try.prog.info? 3).map (fun i => (i.zero, i.size, i.bytes)) = some (some (.int .i64 0), 1, 8) := by kernel_rfl
  obtain ⟨i0, hi, hz0, hz1, hz2⟩ := info_parts hinf
  have hnews : ∀ j u, [Value.int .i64 (x : Int)][j]? = some u → w.cell? ((⟨B, 0, none⟩ : Addr).add j) = some u := by
    intro j u hj
    match j, hj with
    | 0, hj => simp at hj; subst hj; simp [Addr.add, World.cell?, hr]
  have h1 : ∀ u ∈ [Value.int .i64 (x : Int)], u.oneCell' = true := by simp [Value.oneCell']
  have hlx : ∀ _ : Nat, (l ++ [x]).map (fun n : Nat => Value.int .i64 (n : Int)) = l.map (fun n : Nat => Value.int .i64 (n : Int)) ++ [Value.int .i64 (x : Int)] := fun _ => by simp
  have grown : ∀ old : Nat, RowL (w.drew.alloc (.cells ((l.map fun n : Nat => Value.int .i64 (n : Int)).toArray ++ [Value.int .i64 (x : Int)].toArray ++ Builtin.zeroCells (Value.int .i64 0).cells (grownCap w (l.length + 1) old 3 - (l.length + 1))) 3)) base (.slice (some ⟨w.heap.size, 0, none⟩) (l.length + 1) (grownCap w (l.length + 1) old 3)) (l ++ [x]) ∧
      ∀ row, w.grownBy (w.drew.alloc (.cells ((l.map fun n : Nat => Value.int .i64 (n : Int)).toArray ++ [Value.int .i64 (x : Int)].toArray ++ Builtin.zeroCells (Value.int .i64 0).cells (grownCap w (l.length + 1) old 3 - (l.length + 1))) 3)) row := by
    intro old
    have hge := grownCap_ge w (l.length + 1) old 3
    have hcm : grownCap w (l.length + 1) old 3 ≤ maxLen := grownCap_le_maxLen w (l.length + 1) old 3 (by unfold maxLen; omega)
    refine ⟨.inr ⟨w.heap.size, _, _, by simp, hbase, heap_alloc_new w.drew _, by simpa using hge, hcm, ?_, ?_⟩, fun row => ⟨rfl, rfl, rfl, by simp, fun k hk _ => heap_alloc_old w.drew _ k hk⟩⟩
    · simp [size_zeroCells, Value.cells]; omega
    · simp only [Array.toList_append, hlx 0]
      rw [List.append_assoc, ← List.append_assoc]
      rw [List.take_left' (by simp)]
  rcases hown with ⟨rfl, rfl⟩ | ⟨g, cap, cur, rfl, hbg, hg, hnc, hcm, hcs, htake⟩
  · have hr := run_append_nil (P := Try.prog) w 34 ty 3 i0 _ Try.underlying34 hi hz0 ⟨B, 0, none⟩ 1 1 [.int .i64 (x : Int)] (by rw [hz1]; rfl) hnews (by omega) (by omega) (by rw [hz2]; omega)
    have hgr := grown 0
    simp only [List.length_nil, Nat.zero_add, List.map_nil, List.nil_append] at hgr
    exact ⟨_, _, hr, by simpa using hgr.1, by simpa using hgr.2 _, Or.inr rfl⟩
  · by_cases hroom : l.length + 1 ≤ cap
    · have hr := run_append_room (P := Try.prog) w 34 ty 3 i0 Try.underlying34 hi g l.length cap cur hg ⟨B, 0, none⟩ 1 1 [.int .i64 (x : Int)] (by rw [hz1]; rfl) hnews h1 hroom (by rw [hz1]; simp; omega)
      rw [hz1] at hr
      simp only [Nat.mul_one, List.length_singleton] at hr
      refine ⟨_, _, hr, .inr ⟨g, cap, _, by simp, hbg, setRow_heap w g cur _ _ _ hg, by simpa using hroom, hcm, ?_, ?_⟩, ⟨rfl, rfl, rfl, by simp, fun k _ hk => setRow_other w g k _ (fun e => hk (by simp [Value.ownBlock, e]))⟩, Or.inl rfl⟩
      · simp only [List.size_toArray, List.length_append, List.length_take, List.length_drop, Array.length_toList, List.length_singleton]
        omega
      · rw [htake, hlx 0, List.take_left' (by simp)]
    · have holds : ∀ j u, (l.map fun n : Nat => Value.int .i64 (n : Int))[j]? = some u → w.cell? ((⟨g, 0, none⟩ : Addr).add j) = some u := by
        intro j u hu
        rw [← htake, List.getElem?_take] at hu
        split at hu
        · rw [show (Addr.add ⟨g, 0, none⟩ j) = ⟨g, j, none⟩ by by_cases e : j = 0 <;> simp [Addr.add, e]]
          simp only [World.cell?, hg]
          simpa using hu
        · cases hu
      have hr := run_append_grow (P := Try.prog) w 34 ty 3 i0 _ Try.underlying34 hi hz0 ⟨g, 0, none⟩ l.length cap (l.map fun n : Nat => Value.int .i64 (n : Int)) (by rw [hz1]; simp) holds ⟨B, 0, none⟩ 1 1 [.int .i64 (x : Int)] (by rw [hz1]; rfl) hnews (by omega) (by omega) (growslice_fits (by omega) (by rw [hz2]; omega))
      have hgr := grown cap
      exact ⟨_, _, hr, hgr.1, hgr.2 _, Or.inr rfl⟩
end Go.Proofs.Ytlnggaepmclbkaa

namespace Go.Proofs.Ytlnggaepmclbkaa

/-- What is asked ahead of the last operation. -/
def lastPost (P : Program) (ops : Array Oper) (n : Nat) (Q : Exit → Act → World → Prop) : Exit → Act → World → Prop
  | .normal, a, w => wpOp P ops Q n (fun a' w' => Q .normal a' w') a w
  | e, a, w => Q e a w

theorem lets_last {P : Program} {ops : Array Oper} {n : Nat} {Q : Exit → Act → World → Prop} (h : LetsOut (lastPost P ops n Q)) : LetsOut Q := by
  obtain ⟨a, w, h⟩ := h
  exact ⟨a, w, h⟩

theorem wp_last {P : Program} {ops : Array Oper} {n : Nat} {Q : Exit → Act → World → Prop} {o : Oper} {a : Act} {w : World} {K K' : Act → World → Prop} (h : ∀ a w, K a w → K' a w)
    (hh : o.wp P a w K (lastPost P ops n Q)) : o.wp P a w K' Q := by
  unfold Oper.wp at *
  generalize (execOp a.eval o).run P w = r at *
  cases r with
  | ok x w' =>
    cases x with
    | enter f args =>
      simp only [Oper.upon] at hh ⊢
      refine Calls.mono hh fun e w'' he => ?_
      cases e with
      | returned v => exact h _ _ he
      | panicked c => exact he
      | outgrown => exact lets_last he
    | row r args =>
      simp only [Oper.upon] at hh ⊢
      exact Rows.mono hh (fun _ _ he => h _ _ he)
    | _ => simp only [Oper.upon] at hh ⊢ <;> first | exact h _ _ hh | exact hh
  | halt x w' => cases x <;> simp only [Oper.upon] at hh ⊢ <;> exact hh

/-- Is operation n the last one, does it wait for all others, and do all wait for earlier ones alone? -/
def lastB (l : List Oper) (n : Nat) : Bool :=
  decide (l.length = n + 1) && ((List.range n).all fun i => Region.waitsFor .any l.toArray n i) &&
    (List.range (n + 1)).all fun i => match l[i]? with
      | some o => (o.after.all fun e => decide (e.on < i)) && (match o.guard with | some (g, _) => decide (g < n) | none => true)
      | none => false

structure LastOk (l : List Oper) (n : Nat) : Prop where
  len : l.length = n + 1
  waits : ∀ i, i < n → ∃ o, l[n]? = some o ∧ ∃ e ∈ o.after, Region.binds .any e = true ∧ e.on = i
  after : ∀ (i : Nat) (o : Oper), l[i]? = some o → ∀ e ∈ o.after, e.on < i
  guard : ∀ (i : Nat) (o : Oper), l[i]? = some o → ∀ g b, o.guard = some (g, b) → g < n

theorem lastB_spec {l : List Oper} {n : Nat} (h : lastB l n = true) : LastOk l n := by
  simp only [lastB, Bool.and_eq_true, decide_eq_true_eq] at h
  obtain ⟨⟨h1, h2⟩, h3⟩ := h
  have hall : ∀ (i : Nat) (o : Oper), l[i]? = some o → (o.after.all fun e => decide (e.on < i)) = true ∧ (match o.guard with | some (g, _) => decide (g < n) | none => true) = true := fun i o ho => by
    have hi : i < n + 1 := by rw [← h1]; exact (List.getElem?_eq_some_iff.1 ho).1
    have h4 := List.all_eq_true.1 h3 i (List.mem_range.2 hi)
    rw [ho] at h4
    simpa using h4
  refine ⟨h1, fun i hi => ?_, fun i o ho e he => ?_, fun i o ho g b hg => ?_⟩
  · obtain ⟨o, ho, e, he, hb, hon⟩ := Region.waitsFor_spec (List.all_eq_true.1 h2 i (List.mem_range.2 hi))
    exact ⟨o, by simpa using ho, e, he, hb, hon⟩
  · have := Array.all_eq_true_iff_forall_mem.1 (hall i o ho).1 e he
    simpa using this
  · have := (hall i o ho).2
    rw [hg] at this
    simpa using this

theorem push_getD {listed : Array Bool} {n i : Nat} (hs : listed.size = n) (hi : i < n) (b d : Bool) : (listed.push b).getD i d = listed.getD i d := by
  have h : i < listed.size := by omega
  simp [Array.getElem?_push, h, Nat.ne_of_lt h]

theorem take_get {l : List Oper} {n i : Nat} (hi : i < n) : (l.take n).toArray[i]? = l.toArray[i]? := by simp [hi]

section
variable {P : Program} {Q : Exit → Act → World → Prop} {l : List Oper} {n : Nat}

theorem ready_trunc (L : LastOk l n) {listed : Array Bool} (hs : listed.size = n) {i : Nat} (hi : i < n) : i ∈ Region.ready .any l.toArray (listed.push false) ↔ i ∈ Region.ready .any (l.take n).toArray listed := by
  rw [mem_ready, mem_ready, push_getD hs hi, take_get hi]
  refine and_congr Iff.rfl ⟨?_, ?_⟩
  · rintro ⟨o, ho, h⟩
    refine ⟨o, ho, fun e he hb => ?_⟩
    have h1 := L.after i o (by simpa using ho) e he
    have := h e he hb
    rwa [push_getD hs (by omega)] at this
  · rintro ⟨o, ho, h⟩
    refine ⟨o, ho, fun e he hb => ?_⟩
    have h1 := L.after i o (by simpa using ho) e he
    rw [push_getD hs (by omega)]
    exact h e he hb

theorem last_ready (L : LastOk l n) {listed : Array Bool} (hs : listed.size = n) (h : n ∈ Region.ready .any l.toArray (listed.push false)) : ∀ i, i < n → listed.getD i false = true := by
  obtain ⟨_, o, ho, hall⟩ := mem_ready.1 h
  intro i hi
  obtain ⟨o', ho', e, he, hb, hon⟩ := L.waits i hi
  have : o' = o := Option.some.inj (ho'.symm.trans (by simpa using ho))
  subst this
  have h1 := hall e he hb
  rw [hon, push_getD hs hi] at h1
  exact h1

theorem all_listed (L : LastOk l n) {listed : Array Bool} (hs : listed.size = n) (h : Region.ready .any (l.take n).toArray listed = []) : ∀ i, i < n → listed.getD i false = true := by
  intro i
  induction i using Nat.strongRecOn with
  | _ i ih =>
    intro hi
    cases hl : listed.getD i false with
    | true => rfl
    | false =>
      exfalso
      have hlt : i < l.length := by rw [L.len]; omega
      have : i ∈ Region.ready .any (l.take n).toArray listed := mem_ready.2 ⟨getD_in (by omega) hl, l[i], by rw [take_get hi]; simp [hlt], fun e he hb => ih e.on (L.after i _ (List.getElem?_eq_getElem hlt) e he) (by have := L.after i _ (List.getElem?_eq_getElem hlt) e he; omega)⟩
      rw [h] at this
      cases this

theorem is_ready (L : LastOk l n) {listed : Array Bool} (hs : listed.size = n) (h : ∀ i, i < n → listed.getD i false = true) : n ∈ Region.ready .any l.toArray (listed.push false) := by
  have hlt : n < l.length := by rw [L.len]; omega
  refine mem_ready.2 ⟨by subst hs; simp, l[n], by simp [hlt], fun e he _ => ?_⟩
  have h1 := L.after n _ (List.getElem?_eq_getElem hlt) e he
  rw [push_getD hs h1]
  exact h _ h1

theorem none_trunc {listed : Array Bool} (h : ∀ i, i < n → listed.getD i false = true) : Region.ready .any (l.take n).toArray listed = [] := by
  refine List.eq_nil_iff_forall_not_mem.2 fun i hi => ?_
  obtain ⟨h1, o, ho, _⟩ := mem_ready.1 hi
  have hin : i < n := by
    have := (Array.getElem?_eq_some_iff.1 ho).1
    simp at this
    omega
  have := getD_both h1
  rw [h i hin] at this
  cases this

theorem none_full (L : LastOk l n) {listed : Array Bool} (hs : listed.size = n) (h : ∀ i, i < n → listed.getD i false = true) : Region.ready .any l.toArray ((listed.push false).setIfInBounds n true) = [] := by
  refine List.eq_nil_iff_forall_not_mem.2 fun i hi => ?_
  obtain ⟨h1, o, ho, _⟩ := mem_ready.1 hi
  have hin : i < n + 1 := by
    have := (Array.getElem?_eq_some_iff.1 ho).1
    have h2 := L.len
    simp at this
    omega
  by_cases e : i = n
  · subst e
    have h2 := getD_both h1
    simp [hs] at h2
  · rw [getD_set_ne true (Ne.symm e), push_getD hs (by omega)] at h1
    have := getD_both h1
    rw [h i (by omega)] at this
    cases this

theorem wanted_trunc (L : LastOk l n) {i : Nat} {o : Oper} (ho : l[i]? = some o) (t : Array Value) : Region.wanted o (yielded (l.take n).toArray t) = Region.wanted o (yielded l.toArray t) := by
  unfold Region.wanted
  cases hg : o.guard with
  | none => rfl
  | some gb =>
    obtain ⟨g, b⟩ := gb
    have := L.guard i o ho g b hg
    simp only [yielded, take_get this]

theorem wpOp_trunc (L : LastOk l n) {i : Nat} (hi : i < n) {K K' : Act → World → Prop} (h : ∀ a w, K a w → K' a w) {a : Act} {w : World} (hh : wpOp P (l.take n).toArray (lastPost P l.toArray n Q) i K a w) : wpOp P l.toArray Q i K' a w := by
  have hlt : i < l.length := by rw [L.len]; omega
  have h0 : l.toArray[i]? = some l[i] := by simp [hlt]
  unfold wpOp at *
  rw [take_get hi, h0] at hh
  rw [h0]
  simp only at hh ⊢
  rw [wanted_trunc L (List.getElem?_eq_getElem hlt)] at hh
  split
  · rename_i hw
    simp only [hw, if_true] at hh
    rcases hh with hh | ⟨h1, h2⟩
    · exact .inl (wp_last h hh)
    · exact .inr ⟨h1, lets_last h2⟩
  · rename_i hw
    simp only [hw] at hh
    exact h _ _ hh

theorem wpAny_done {listed : Array Bool} {a : Act} {w : World} {ops : Array Oper} (hr : Region.ready .any ops listed = []) (h : Q .normal a w) : ∀ f, wpAny P .any ops Q f listed a w
  | 0 => ⟨hr, h⟩
  | f + 1 => ⟨fun _ => h, fun i hi => by rw [hr] at hi; cases hi⟩

theorem push_set {listed : Array Bool} {i : Nat} (hi : i < listed.size) : (listed.push false).setIfInBounds i true = (listed.setIfInBounds i true).push false := by
  refine Array.ext (by simp) fun j h1 h2 => ?_
  simp at h1
  rw [Array.getElem_setIfInBounds (by simpa using h1)]
  by_cases e : i = j
  · subst e; simp [Array.getElem_push, hi]
  · by_cases hj : j < listed.size
    · simp [e, Array.getElem_push, hj]
    · simp [e, Array.getElem_push, hj]

theorem wpAny_last (L : LastOk l n) : ∀ (f : Nat) (listed : Array Bool) (a : Act) (w : World), listed.size = n →
    wpAny P .any (l.take n).toArray (lastPost P l.toArray n Q) f listed a w → wpAny P .any l.toArray Q (f + 1) (listed.push false) a w := by
  intro f
  have step : ∀ (listed : Array Bool) (a : Act) (w : World) (g : Nat), listed.size = n → (∀ i, i < n → listed.getD i false = true) → lastPost P l.toArray n Q .normal a w →
      wpOp P l.toArray Q n (wpAny P .any l.toArray Q g ((listed.push false).setIfInBounds n true)) a w := fun listed a w g hs hall h =>
    wpOp_mono (fun a' w' h' => wpAny_done (none_full L hs hall) h' g) h
  induction f with
  | zero =>
    intro listed a w hs h
    have hall := all_listed L hs h.1
    refine ⟨fun h0 => ?_, fun i hi => ?_⟩
    · have := is_ready L hs hall
      rw [h0] at this
      cases this
    · have hin : i < n + 1 := by
        obtain ⟨_, o, ho, _⟩ := mem_ready.1 hi
        have := (Array.getElem?_eq_some_iff.1 ho).1
        have h2 := L.len
        simp at this
        omega
      by_cases e : i = n
      · subst e
        exact step listed a w 0 hs hall h.2
      · have := (ready_trunc L hs (show i < n by omega)).1 hi
        rw [h.1] at this
        cases this
  | succ f ih =>
    intro listed a w hs h
    refine ⟨fun h0 => ?_, fun i hi => ?_⟩
    · exfalso
      have h1 : Region.ready .any (l.take n).toArray listed = [] := List.eq_nil_iff_forall_not_mem.2 fun i hi => by
        have hin : i < n := by
          obtain ⟨_, o, ho, _⟩ := mem_ready.1 hi
          have := (Array.getElem?_eq_some_iff.1 ho).1
          simp at this
          omega
        have := (ready_trunc L hs hin).2 hi
        rw [h0] at this
        cases this
      have := is_ready L hs (all_listed L hs h1)
      rw [h0] at this
      cases this
    · have hin : i < n + 1 := by
        obtain ⟨_, o, ho, _⟩ := mem_ready.1 hi
        have := (Array.getElem?_eq_some_iff.1 ho).1
        have h2 := L.len
        simp at this
        omega
      by_cases e : i = n
      · subst e
        have hall := last_ready L hs hi
        exact step listed a w (f + 1) hs hall (h.1 (none_trunc hall))
      · have hin' : i < n := by omega
        refine wpOp_trunc L hin' (fun a' w' h' => ?_) (h.2 i ((ready_trunc L hs hin').1 hi))
        rw [push_set (by omega)]
        exact ih _ a' w' (by simp [hs]) h'

/-- The region by its parts: all but the last operation under a condition S, then the last one. -/
theorem wp_region_last {id : Nat} {a : Act} {w : World} {S : World → Prop} (n : Nat) (hm : P.follows .mixedOrders = true) (hB : lastB l n = true) (hS : S w.drew)
    (h : S w.drew → wpAnyH P .any (l.take n).toArray (lastPost P l.toArray n Q) S n (Array.replicate n false) a w.drew) : (Code.region id l.toArray true).wp P Q a w := by
  have L := lastB_spec hB
  have h1 := wpAny_last L n (Array.replicate n false) a w.drew (by simp) (wpAny_of_held _ _ _ _ (h hS))
  refine wp_region_any hm ?_
  have e : l.toArray.size = n + 1 := by simpa using L.len
  rw [e, show Array.replicate (n + 1) false = (Array.replicate n false).push false from Array.replicate_succ]
  exact h1

/-- The last operation, as a list of one. -/
theorem last_of_list {o : Oper} {a : Act} {w : World} (ho : l.toArray[n]? = some o) (h : wpList P l.toArray Q [o] a w) : lastPost P l.toArray n Q .normal a w := by
  show wpOp P l.toArray Q n (fun a' w' => Q .normal a' w') a w
  unfold wpOp
  rw [ho]
  exact h

/-- The region by its parts: all but the last operation quiet in a family of worlds, then the last one. -/
theorem wp_region_fam_last {id : Nat} {a : Act} {w : World} {I : Type} (F : I → World) (n0 : I) (n : Nat) (o : Oper) (h0 : w.drew = F n0) (hm : P.follows .mixedOrders = true) (hB : lastB l n = true) (hL : Region.lexB .any (l.take n).toArray = true) (ho : l.toArray[n]? = some o)
    (h : wpQuiet P (l.take n).toArray (fun w' => ∃ i, w' = F i) (fun a' => ∀ w', (∃ i, w' = F i) → wpList P l.toArray Q [o] a' w') (l.take n) a) : (Code.region id l.toArray true).wp P Q a w := by
  have L := lastB_spec hB
  simp only [Region.lexB, Bool.and_eq_true] at hL
  have hn : (l.take n).length = n := by have := L.len; simp; omega
  have h2 := wpAnyQ_lex (C := fun w' => ∃ i, w' = F i) (md := .any) hL.1 (l.take n) 0 (Array.replicate (l.take n).toArray.size false) a (by simp) (by simpa using hL.2) h
  rw [List.size_toArray, hn] at h2
  have h3 := wpAny_of_quiet (Q' := lastPost P l.toArray n Q) (fun a' w' hC' h' => last_of_list ho (h' w' hC')) _ _ _ _ ⟨n0, h0⟩ h2
  have h1 := wpAny_last L n (Array.replicate n false) a w.drew (by simp) h3
  refine wp_region_any hm ?_
  have e : l.toArray.size = n + 1 := by simpa using L.len
  rw [e, show Array.replicate (n + 1) false = (Array.replicate n false).push false from Array.replicate_succ]
  exact h1
end

end Go.Proofs.Ytlnggaepmclbkaa
