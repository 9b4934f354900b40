/-
  The page that a text is written on: strings.Builder's copyCheck, WriteString and String, the Builder being the only field of a page of its own.
-/
import Derived.Lib.Builder
import Derived.Lib.AppendStr
import Derived.Lib.UnsafeStr
import Derived.Lib.Strings
import Derived.Lib.Walk
import Derived.WalkKit
import Derived.Laws.Externs
import Derived.Lib.Hide
import Derived.Shelf.RegionOpen
import Derived.Test.YtfencolokfghfaaDoorShift
namespace Go.Proofs.YtfencolokfghfaaDoor
open Go.Shelf Go.RowKit
set_option linter.unusedVariables false

theorem infoPg : (Tryd.prog.info? 42).map (·.size) = some 2 := by kernel_rfl
theorem infoU8 : (Tryd.prog.info? 5).map (fun i => (i.zero, i.size, i.bytes)) = some (some (.int .u8 0), 1, 1) := by kernel_rfl
theorem liesPg : liesAt Tryd.prog Tryd.prog.depth 44 (2 / Tryd.prog.cellsOf 44) 0 42 1 = true := by kernel_rfl
/-- A page that holds those bytes. -/
abbrev PgAt (B b : Nat) (p : Value) (bs : List Value) (w : World) : Prop := Lib.BuilderAt 44 5 B b p bs w
abbrev Pg (B b : Nat) (bs : List Value) (w : World) : Prop := Lib.IsBuilder 44 5 B b bs w

set_option maxHeartbeats 1000000 in
set_option maxRecDepth 100000 in
theorem copy_used (b : Nat) (w : World) (h0 : w.cell? ⟨b, 0, none⟩ = some (.pointer (some ⟨b, 0, none⟩))) :
    Calls Tryd.prog 42 #[.pointer (some ⟨b, 0, none⟩)] w fun e w' => e = .returned (.tuple #[]) ∧ w' = w := by
  obtain ⟨j, hj, _⟩ := Option.map_eq_some_iff.1 infoPg
  go_enter Tryd.func42, Tryd.ntmps42
  go_wp2
  rw [Lib.run_neq_ptr_same w _ Tryd.underlying39 hj]
  go_wp2
  go_end0
  exact ⟨rfl, rfl⟩
set_option maxHeartbeats 1000000 in
set_option maxRecDepth 100000 in
theorem copy_fresh (b : Nat) (w : World) (h0 : w.cell? ⟨b, 0, none⟩ = some (.pointer none)) (hsh : w.shape? b = some (44, 2)) (hfz : w.frozen? ⟨b, 0, none⟩ = false) :
    Calls Tryd.prog 42 #[.pointer (some ⟨b, 0, none⟩)] w fun e w' => e = .returned (.tuple #[]) ∧ w' = w.setCell ⟨b, 0, none⟩ (.pointer (some ⟨b, 0, none⟩)) := by
  obtain ⟨j, hj, hjs⟩ := Option.map_eq_some_iff.1 infoPg
  go_enter Tryd.func42, Tryd.ntmps42
  go_wp2
  rw [Lib.run_to_unsafe w ⟨b, 0, none⟩ Tryd.underlying39 Tryd.underlying70 hj (by rw [hjs]; decide) hsh (Nat.zero_lt_succ 1)]
  simp only [Result.andThen]
  rw [Oper.upon_value]
  go_wp2
  rw [run_callFunc_extern Tryd.func52 (by kernel_rfl) (by kernel_rfl) (by kernel_rfl) (e := Extern.AbiNoEscape.same) (by kernel_rfl)]
  rw [Lib.run_noEscape]
  simp only [Result.andThen]
  rw [Oper.upon_value]
  go_wp2
  rw [Lib.run_from_unsafe w ⟨b, 0, none⟩ Tryd.underlying70 Tryd.underlying39 hj hsh liesPg]
  simp only [Result.andThen]
  rw [Oper.upon_value]
  go_wp2
  go_end0
  exact ⟨rfl, rfl⟩
theorem set_at {W : World} {B o : Nat} {cur : Array Value} {t : TypeId} {z : Nat × Nat} (h : W.heap[B]? = some (.cells cur t z)) (v : Value) : (W.setCell ⟨B, o, none⟩ v).heap[B]? = some (.cells (cur.setIfInBounds o v) t z) := by
  obtain ⟨hlt, hk⟩ := Array.getElem?_eq_some_iff.1 h
  show (W.heap.modify B _)[B]? = _
  rw [Array.getElem?_eq_getElem (by rw [Array.size_modify]; exact hlt), Array.getElem_modify_self, hk]
  rfl
/-- A block that is neither the page's nor its bytes'. -/
def For (b : Nat) (w : World) (k : Nat) : Prop := k < w.heap.size ∧ k ≠ b ∧ ∀ p v, w.heap[b]? = some (.cells #[p, v] 44 (0, 0)) → v.ownBlock ≠ some k
/-- All blocks of others are as they were, and others'. -/
def KeepF (b : Nat) (w w' : World) : Prop := w.heap.size ≤ w'.heap.size ∧ ∀ k, For b w k → For b w' k ∧ w'.heap[k]? = w.heap[k]?
theorem KeepF.refl (b : Nat) (w : World) : KeepF b w w := ⟨Nat.le_refl _, fun k h => ⟨h, rfl⟩⟩
theorem KeepF.trans {b : Nat} {w1 w2 w3 : World} (h : KeepF b w1 w2) (g : KeepF b w2 w3) : KeepF b w1 w3 :=
  ⟨Nat.le_trans h.1 g.1, fun k hk => ⟨(g.2 k (h.2 k hk).1).1, (g.2 k (h.2 k hk).1).2.trans (h.2 k hk).2⟩⟩
theorem KeepF.below {b : Nat} {w w' : World} (h : Below w.heap.size w w') (hb : b < w.heap.size) : KeepF b w w' :=
  ⟨h.size, fun k hk => ⟨⟨Nat.lt_of_lt_of_le hk.1 h.size, hk.2.1, fun p v e => hk.2.2 p v (by rw [← h.block b hb]; exact e)⟩, h.block k hk.1⟩⟩
theorem PgAt.own {B b : Nat} {p : Value} {bs : List Value} {w : World} (h : PgAt B b p bs w) : ∀ p v, w.heap[b]? = some (.cells #[p, v] 44 (0, 0)) → ∀ k, v.ownBlock = some k → k < w.heap.size := by
  obtain ⟨-, v, hb, ho, -⟩ := h
  intro p' v' e k hk
  rw [hb] at e
  injection e with e
  injection e with e1
  have : v = v' := by
    have := congrArg (fun a : Array Value => a[1]?) e1
    simpa using this
  subst this
  exact (ho.lt k hk).2
/-- A block that comes is another's. -/
theorem PgAt.fresh {B b : Nat} {p : Value} {bs : List Value} {w w' : World} (h : PgAt B b p bs w) (hb : Below w.heap.size w w') {k : Nat} (h1 : w.heap.size ≤ k) (h2 : k < w'.heap.size) : For b w' k := by
  have hlt := h.lt
  refine ⟨h2, by omega, fun p' v' e hk => ?_⟩
  rw [hb.block b hlt] at e
  have := h.own p' v' e k hk
  omega
theorem KeepF.set {b : Nat} {w : World} {p v : Value} (hb : w.heap[b]? = some (.cells #[p, v] 44 (0, 0))) (q : Value) : KeepF b w (w.setCell ⟨b, 0, none⟩ q) := by
  have hn : (w.setCell ⟨b, 0, none⟩ q).heap[b]? = some (.cells #[q, v] 44 (0, 0)) := (set_at hb q).trans (by simp)
  refine ⟨by simp, fun k hk => ⟨⟨by simpa using hk.1, hk.2.1, fun p' v' e => ?_⟩, Below.heap_setCell _ ⟨b, 0, none⟩ _ k hk.2.1⟩⟩
  rw [hn] at e
  injection e with e
  injection e with e1
  have : v = v' := by
    have := congrArg (fun a : Array Value => a[1]?) e1
    simpa using this
  subst this
  exact hk.2.2 p v hb
theorem copy_at (B b : Nat) (bs : List Value) (w : World) (h : Pg B b bs w) :
    Calls Tryd.prog 42 #[.pointer (some ⟨b, 0, none⟩)] w fun e w' => e = .returned (.tuple #[]) ∧ (PgAt B b (.pointer (some ⟨b, 0, none⟩)) bs w' ∧ Below B w w' ∧ KeepF b w w') := by
  rcases h with h | h
  · refine (copy_fresh b w h.cell0 h.shape h.frozen0).mono ?_
    rintro e w' ⟨rfl, rfl⟩
    obtain ⟨hB, v, hbk, -, -⟩ := id h
    exact ⟨rfl, h.used _, (Below.refl B w).setCell (p := ⟨b, 0, none⟩) hB _, KeepF.set hbk _⟩
  · refine (copy_used b w h.cell0).mono ?_
    rintro e w' ⟨rfl, rfl⟩
    exact ⟨rfl, h, Below.refl B _, KeepF.refl _ _⟩
/-- Where a row lies behind an append of a string: where it lay, or in a new block. -/
theorem own_after {w w' : World} {base n : Nat} {i : TypeInfo} {ty : TypeId} {v v' : Value} {xs : List Value} {s : ByteArray} (hi : Tryd.prog.info? 5 = some i) (hz : i.zero = some (.int .u8 0)) (hsize : i.size = 1) (hby : i.bytes = 1)
    (hown : w.ownsRow base 5 1 v n xs) (hbytes : n + s.size ≤ 140737488355328)
    (hr : (Builtin.append_ #[40, 9] ty #[v, .string s]).run Tryd.prog w = .ok v' w') (h4 : v' = .slice none 0 0 ↔ v = .slice none 0 0 ∧ s.size = 0) : v'.ownBlock = v.ownBlock ∨ v'.ownBlock = some w.heap.size := by
  have hxl : xs.length = n := by simpa using hown.1
  rcases hown.2 with ⟨rfl, rfl⟩ | ⟨g, cap, cur, rfl, hbg, hg, hnc, hcm, hcs, htake⟩
  · by_cases hm : s.size = 0
    · rw [h4.2 ⟨rfl, hm⟩]; exact .inl rfl
    · have := run_append_nil_string (P := Tryd.prog) w 40 9 ty 5 i (.int .u8 0) Tryd.underlying40 Tryd.underlying9 hi hz s (by omega) (by omega) (by rw [hby]; omega)
      rw [this] at hr
      injection hr with h1 h2
      rw [← h1]; exact .inr rfl
  · by_cases hroom : n + s.size ≤ cap
    · have := Lib.run_append_room_string (P := Tryd.prog) w 40 9 ty 5 i Tryd.underlying40 Tryd.underlying9 hi hsize g n cap cur hg s hroom (by omega)
      rw [this] at hr
      injection hr with h1 h2
      rw [← h1]; exact .inl rfl
    · have holds : ∀ j u, xs[j]? = some u → w.cell? ((⟨g, 0, none⟩ : Addr).add j) = some u := hown.cells (g := g) rfl
      have := Lib.run_append_grow_string (P := Tryd.prog) w 40 9 ty 5 i (.int .u8 0) Tryd.underlying40 Tryd.underlying9 hi hz ⟨g, 0, none⟩ n cap xs (by rw [hsize]; simpa using hxl) holds s (by omega) (by omega) (by rw [hby]; exact growslice_fits (by omega) (by omega))
      rw [this] at hr
      injection hr with h1 h2
      rw [← h1]; exact .inr rfl
theorem wpList_append_str {w : World} {ops : Array Oper} {rest : List Oper} {o : Oper} {a : Act} {Q : Exit → Act → World → Prop} (hgd : o.guard = none) (sl x : Operand)
    (ho : o.op = .call { callee := .builtin .append, args := #[sl, x], argTypes := #[40, 9] }) (base : Nat)
    (v : Value) (n : Nat) (xs : List Value) (hs : a.eval sl = v) (hown : w.ownsRow base 5 1 v n xs) (s : ByteArray) (hx : a.eval x = .string s)
    (hbytes : n + s.size ≤ 140737488355328) (hbase : base ≤ w.heap.size)
    (h : ∀ v' w', w'.ownsRow base 5 1 v' (n + s.size) (xs ++ Lib.strCells s) → w.grownBy w' v.ownBlock → (v'.ownBlock = v.ownBlock ∨ v'.ownBlock = some w.heap.size) → wpList Tryd.prog ops Q rest (a.put o.dst v') w') : wpList Tryd.prog ops Q (o :: rest) a w := by
  obtain ⟨i0, hi, hz0, hz1, hz2⟩ := info_parts infoU8
  refine wpList_plain hgd fun K hK => ?_
  obtain ⟨v', w', hr, h2, h3, h4⟩ := Lib.run_append_own_string (P := Tryd.prog) w base 40 9 o.type 5 i0 Tryd.underlying40 Tryd.underlying9 hi hz0 hz1 hz2 v n xs hown s (by unfold maxLen; omega) hbytes hbase
  have h5 := own_after hi hz0 hz1 hz2 hown hbytes hr h4
  unfold Oper.wp execOp
  simp only [ho, resolve, invoke, builtin, Sem.run_bind, Sem.run_pure, Result.andThen_ok, List.map_toArray, List.map_cons, List.map_nil, hs, hx, hr]
  exact hK _ _ (h v' w' h2 h3 h5)
set_option maxHeartbeats 2000000 in
set_option maxRecDepth 100000 in
theorem wstr_at (B b : Nat) (bs : List Value) (s : ByteArray) (w : World) (h : Pg B b bs w) (hlen : bs.length + s.size ≤ 140737488355328) (hBw : B ≤ w.heap.size) :
    Calls Tryd.prog 32 #[.pointer (some ⟨b, 0, none⟩), .string s] w fun e w' => e = .returned (.tuple #[.int .i64 s.size, .nilIface]) ∧ (PgAt B b (.pointer (some ⟨b, 0, none⟩)) (bs ++ Lib.strCells s) w' ∧ Below B w w' ∧ KeepF b w w') := by
  go_enter Tryd.func32, Tryd.ntmps32
  go_wp2_with (go_at_call 42; refine (copy_at B b bs _ h).mono ?_)
  rintro e w1 ⟨rfl, h1, hb1, hk1⟩
  obtain ⟨hB, v, hbk, hown, hne⟩ := h1
  have c0 : w1.cell? ⟨b, 0, none⟩ = some (.pointer (some ⟨b, 0, none⟩)) := by rw [Lib.cell_of_heap hbk]; rfl
  have c1 : w1.cell? ⟨b, 1, none⟩ = some v := by rw [Lib.cell_of_heap hbk]; rfl
  go_wp2_with (at_builtin; refine wpList_append_str rfl _ _ rfl B _ _ _ rfl hown s rfl ?c4 ?c5 ?_)
  case c4 => omega
  case c5 => have := hb1.size; omega
  intro v' w2 hown' hgrow hat
  have hlt : b < w1.heap.size := by
    rcases Nat.lt_or_ge b w1.heap.size with h' | h'
    · exact h'
    · simp [Array.getElem?_eq_none h'] at hbk
  have hb2 : w2.heap[b]? = some (.cells #[.pointer (some ⟨b, 0, none⟩), v] 44 (0, 0)) := by
    rw [hgrow.block b hlt (fun e => hne e.symm)]
    exact hbk
  have d0 : w2.cell? ⟨b, 0, none⟩ = some (.pointer (some ⟨b, 0, none⟩)) := by rw [Lib.cell_of_heap hb2]; rfl
  have d1 : w2.cell? ⟨b, 1, none⟩ = some v := by rw [Lib.cell_of_heap hb2]; rfl
  have f1 : w2.frozen? ⟨b, 1, none⟩ = false := Lib.frozen_of_heap hb2 1
  obtain ⟨ao, n', cap, rfl⟩ : ∃ ao n' cap, v' = .slice ao n' cap := by
    rcases hown'.2 with ⟨hv, _⟩ | ⟨g, cap, cur, hv, _⟩
    · exact ⟨_, _, _, hv⟩
    · exact ⟨_, _, _, hv⟩
  have hkk : KeepF b w1 (w2.setCell ⟨b, 1, none⟩ (.slice ao n' cap)) := by
    have hn : (w2.setCell ⟨b, 1, none⟩ (.slice ao n' cap)).heap[b]? = some (.cells #[.pointer (some ⟨b, 0, none⟩), .slice ao n' cap] 44 (0, 0)) := (set_at hb2 _).trans (by simp)
    refine ⟨by have := hgrow.size; simpa using this, fun k hk => ?_⟩
    have ho := hk.2.2 _ _ hbk
    refine ⟨⟨by have := hgrow.size; have := hk.1; simp; omega, hk.2.1, fun p' v' e hv' => ?_⟩, (Below.heap_setCell _ ⟨b, 1, none⟩ _ k hk.2.1).trans (hgrow.block k hk.1 (fun e => ho e.symm))⟩
    rw [hn] at e
    injection e with e
    injection e with e1
    have e2 : Value.slice ao n' cap = v' := by
      have := congrArg (fun a : Array Value => a[1]?) e1
      simpa using this
    rw [← e2] at hv'
    rcases hat with hat | hat
    · exact ho (hat.symm.trans hv')
    · rw [hat] at hv'
      injection hv' with hv'
      have := hk.1
      omega
  go_wp2
  go_ret2
  refine ⟨rfl, ?_, ?_, hk1.trans hkk⟩
  · exact Lib.BuilderAt.put (T := 44) (e := 5) hB hb2 (bs' := bs ++ Lib.strCells s) (by simpa [Lib.strCells_length] using hown') (by decide)
  · exact (hb1.grown hgrow (by have := hb1.size; omega) (fun k hk => (hown.lt k hk).1)).setCell (p := ⟨b, 1, none⟩) hB _
theorem cellsU8 : Tryd.prog.cellsOf 5 = 1 := by kernel_rfl
set_option maxHeartbeats 1000000 in
set_option maxRecDepth 100000 in
theorem string_at (B b : Nat) (l : List UInt8) (w : World) (h : Pg B b (Lib.byteCells l) w) (h0 : l ≠ []) :
    Calls Tryd.prog 21 #[.pointer (some ⟨b, 0, none⟩)] w fun e w' => e = .returned (.string ⟨l.toArray⟩) ∧ Below B w w' := by
  obtain ⟨p, hB, v, hbk, hown, hne⟩ : ∃ p, PgAt B b p (Lib.byteCells l) w := by
    rcases h with h | h
    · exact ⟨_, h⟩
    · exact ⟨_, h⟩
  have hl0 : l.length ≠ 0 := by simpa using h0
  rw [Lib.byteCells_length] at hown
  obtain ⟨g, cap, cur, rfl, hbg, hg, hnc, hcm, hcs, htake⟩ : ∃ g cap cur, v = .slice (some ⟨g, 0, none⟩) l.length cap ∧ B ≤ g ∧ w.heap[g]? = some (.cells cur 5 (0, 0)) ∧ l.length ≤ cap ∧ cap ≤ maxLen ∧ cur.size = cap * 1 ∧ cur.toList.take (l.length * 1) = Lib.byteCells l := by
    rcases hown.2 with ⟨_, hz⟩ | ⟨g, cap, cur, hv, r⟩
    · exact absurd hz hl0
    · exact ⟨g, cap, cur, hv, r⟩
  have c1 : w.drew.cell? ⟨b, 1, none⟩ = some (.slice (some ⟨g, 0, none⟩) l.length cap) := by
    have : w.drew.heap[b]? = some (.cells #[p, .slice (some ⟨g, 0, none⟩) l.length cap] 44 (0, 0)) := hbk
    rw [Lib.cell_of_heap this]; rfl
  have hSD : (Builtin.unsafeSliceData_ #[40] 59 #[.slice (some ⟨g, 0, none⟩) l.length cap]).run Tryd.prog w.drew = .ok (.pointer (some ⟨g, 0, none⟩)) w.drew :=
    Lib.run_unsafeSliceData_row _ _ _ _ _ _ (by omega)
  have hUS : (Builtin.unsafeString_ #[59, 3] 9 #[.pointer (some ⟨g, 0, none⟩), .int .i64 l.length]).run Tryd.prog w.drew = .ok (.string ⟨l.toArray⟩) (w.drew.freeze ⟨g, 0, none⟩ l.length) := by
    refine Lib.run_unsafeString_row w.drew 59 3 9 5 Tryd.underlying59 cellsU8 g cur.size (by have hg' : w.drew.heap[g]? = some (.cells cur 5 (0, 0)) := hg; simp [World.shape?, hg']) l h0 (by omega) (by unfold maxLen at hcm; omega) ?_
    intro j x hx
    have := hown.cells (g := g) rfl j (.int .u8 x.toNat) (by simp [Lib.byteCells, hx])
    exact this
  go_enter Tryd.func21, Tryd.ntmps21
  go_wp2
  go_region
  all_goals (go_wp2; go_ret; exact ⟨rfl, Lib.below_freeze (Below.drew (Below.refl B w)) (p := ⟨g, 0, none⟩) hbg _⟩)
end Go.Proofs.YtfencolokfghfaaDoor
