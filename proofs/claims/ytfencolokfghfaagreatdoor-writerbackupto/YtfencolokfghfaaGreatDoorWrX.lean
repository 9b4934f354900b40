/-
  The page that a text is written on: strings.Builder's copyCheck, WriteString and String, the Builder being the only field of a page of its own.
-/
import Derived.Lib.Builder
import Derived.Lib.AppendStr
import Derived.Lib.UnsafeStr
import Derived.Lib.Strings
import Derived.Lib.Walk
import Derived.WalkKit
import Derived.Laws.Externs
import Derived.Lib.Hide
import Derived.Shelf.RegionOpen
import Derived.Test.YtfencolokfghfaaGreatDoorShift
import Derived.Deep.LoopGhost
import Derived.Test.YtfencolokfghfaaGreatDoorTokQ
import Derived.Lib.ItoaLen
import Derived.LaidLaws
import Derived.Deep.Cut
namespace Go.Proofs.YtfencolokfghfaaGreatDoor
open Go.Shelf Go.RowKit
set_option linter.unusedVariables false

theorem infoPg : (Tryz.prog.info? 50).map (·.size) = some 2 := by kernel_rfl
theorem infoU8 : (Tryz.prog.info? 5).map (fun i => (i.zero, i.size, i.bytes)) = some (some (.int .u8 0), 1, 1) := by kernel_rfl
theorem liesPg : liesAt Tryz.prog Tryz.prog.depth 52 (2 / Tryz.prog.cellsOf 52) 0 50 1 = true := by kernel_rfl
/-- A page that holds those bytes. -/
abbrev PgAt (B b : Nat) (p : Value) (bs : List Value) (w : World) : Prop := Lib.BuilderAt 52 5 B b p bs w
abbrev Pg (B b : Nat) (bs : List Value) (w : World) : Prop := Lib.IsBuilder 52 5 B b bs w

set_option maxHeartbeats 1000000 in
set_option maxRecDepth 100000 in
theorem copy_used (b : Nat) (w : World) (h0 : w.cell? ⟨b, 0, none⟩ = some (.pointer (some ⟨b, 0, none⟩))) :
    Calls Tryz.prog 52 #[.pointer (some ⟨b, 0, none⟩)] w fun e w' => e = .returned (.tuple #[]) ∧ w' = w := by
  obtain ⟨j, hj, _⟩ := Option.map_eq_some_iff.1 infoPg
  go_enter Tryz.func52, Tryz.ntmps52
  go_wp2
  rw [Lib.run_neq_ptr_same w _ Tryz.underlying47 hj]
  go_wp2
  go_end0
  exact ⟨rfl, rfl⟩
set_option maxHeartbeats 1000000 in
set_option maxRecDepth 100000 in
theorem copy_fresh (b : Nat) (w : World) (h0 : w.cell? ⟨b, 0, none⟩ = some (.pointer none)) (hsh : w.shape? b = some (52, 2)) (hfz : w.frozen? ⟨b, 0, none⟩ = false) :
    Calls Tryz.prog 52 #[.pointer (some ⟨b, 0, none⟩)] w fun e w' => e = .returned (.tuple #[]) ∧ w' = w.setCell ⟨b, 0, none⟩ (.pointer (some ⟨b, 0, none⟩)) := by
  obtain ⟨j, hj, hjs⟩ := Option.map_eq_some_iff.1 infoPg
  go_enter Tryz.func52, Tryz.ntmps52
  go_wp2
  rw [Lib.run_to_unsafe w ⟨b, 0, none⟩ Tryz.underlying47 Tryz.underlying116 hj (by rw [hjs]; decide) hsh (Nat.zero_lt_succ 1)]
  simp only [Result.andThen]
  rw [Oper.upon_value]
  go_wp2
  rw [run_callFunc_extern Tryz.func72 (by kernel_rfl) (by kernel_rfl) (by kernel_rfl) (e := Extern.AbiNoEscape.same) (by kernel_rfl)]
  rw [Lib.run_noEscape]
  simp only [Result.andThen]
  rw [Oper.upon_value]
  go_wp2
  rw [Lib.run_from_unsafe w ⟨b, 0, none⟩ Tryz.underlying116 Tryz.underlying47 hj hsh liesPg]
  simp only [Result.andThen]
  rw [Oper.upon_value]
  go_wp2
  go_end0
  exact ⟨rfl, rfl⟩
theorem set_at {W : World} {B o : Nat} {cur : Array Value} {t : TypeId} {z : Nat × Nat} (h : W.heap[B]? = some (.cells cur t z)) (v : Value) : (W.setCell ⟨B, o, none⟩ v).heap[B]? = some (.cells (cur.setIfInBounds o v) t z) := by
  obtain ⟨hlt, hk⟩ := Array.getElem?_eq_some_iff.1 h
  show (W.heap.modify B _)[B]? = _
  rw [Array.getElem?_eq_getElem (by rw [Array.size_modify]; exact hlt), Array.getElem_modify_self, hk]
  rfl
/-- A block that is neither the page's nor its bytes'. -/
def For (b : Nat) (w : World) (k : Nat) : Prop := k < w.heap.size ∧ k ≠ b ∧ ∀ p v, w.heap[b]? = some (.cells #[p, v] 52 (0, 0)) → v.ownBlock ≠ some k
/-- All blocks of others are as they were, and others'. -/
def KeepF (b : Nat) (w w' : World) : Prop := w.heap.size ≤ w'.heap.size ∧ ∀ k, For b w k → For b w' k ∧ w'.heap[k]? = w.heap[k]?
theorem KeepF.refl (b : Nat) (w : World) : KeepF b w w := ⟨Nat.le_refl _, fun k h => ⟨h, rfl⟩⟩
theorem KeepF.trans {b : Nat} {w1 w2 w3 : World} (h : KeepF b w1 w2) (g : KeepF b w2 w3) : KeepF b w1 w3 :=
  ⟨Nat.le_trans h.1 g.1, fun k hk => ⟨(g.2 k (h.2 k hk).1).1, (g.2 k (h.2 k hk).1).2.trans (h.2 k hk).2⟩⟩
theorem KeepF.below {b : Nat} {w w' : World} (h : Below w.heap.size w w') (hb : b < w.heap.size) : KeepF b w w' :=
  ⟨h.size, fun k hk => ⟨⟨Nat.lt_of_lt_of_le hk.1 h.size, hk.2.1, fun p v e => hk.2.2 p v (by rw [← h.block b hb]; exact e)⟩, h.block k hk.1⟩⟩
theorem PgAt.own {B b : Nat} {p : Value} {bs : List Value} {w : World} (h : PgAt B b p bs w) : ∀ p v, w.heap[b]? = some (.cells #[p, v] 52 (0, 0)) → ∀ k, v.ownBlock = some k → k < w.heap.size := by
  obtain ⟨-, v, hb, ho, -⟩ := h
  intro p' v' e k hk
  rw [hb] at e
  injection e with e
  injection e with e1
  have : v = v' := by
    have := congrArg (fun a : Array Value => a[1]?) e1
    simpa using this
  subst this
  exact (ho.lt k hk).2
/-- A block that comes is another's. -/
theorem PgAt.fresh {B b : Nat} {p : Value} {bs : List Value} {w w' : World} (h : PgAt B b p bs w) (hb : Below w.heap.size w w') {k : Nat} (h1 : w.heap.size ≤ k) (h2 : k < w'.heap.size) : For b w' k := by
  have hlt := h.lt
  refine ⟨h2, by omega, fun p' v' e hk => ?_⟩
  rw [hb.block b hlt] at e
  have := h.own p' v' e k hk
  omega
theorem KeepF.set {b : Nat} {w : World} {p v : Value} (hb : w.heap[b]? = some (.cells #[p, v] 52 (0, 0))) (q : Value) : KeepF b w (w.setCell ⟨b, 0, none⟩ q) := by
  have hn : (w.setCell ⟨b, 0, none⟩ q).heap[b]? = some (.cells #[q, v] 52 (0, 0)) := (set_at hb q).trans (by simp)
  refine ⟨by simp, fun k hk => ⟨⟨by simpa using hk.1, hk.2.1, fun p' v' e => ?_⟩, Below.heap_setCell _ ⟨b, 0, none⟩ _ k hk.2.1⟩⟩
  rw [hn] at e
  injection e with e
  injection e with e1
  have : v = v' := by
    have := congrArg (fun a : Array Value => a[1]?) e1
    simpa using this
  subst this
  exact hk.2.2 p v hb
theorem copy_at (B b : Nat) (bs : List Value) (w : World) (h : Pg B b bs w) :
    Calls Tryz.prog 52 #[.pointer (some ⟨b, 0, none⟩)] w fun e w' => e = .returned (.tuple #[]) ∧ (PgAt B b (.pointer (some ⟨b, 0, none⟩)) bs w' ∧ Below B w w' ∧ KeepF b w w') := by
  rcases h with h | h
  · refine (copy_fresh b w h.cell0 h.shape h.frozen0).mono ?_
    rintro e w' ⟨rfl, rfl⟩
    obtain ⟨hB, v, hbk, -, -⟩ := id h
    exact ⟨rfl, h.used _, (Below.refl B w).setCell (p := ⟨b, 0, none⟩) hB _, KeepF.set hbk _⟩
  · refine (copy_used b w h.cell0).mono ?_
    rintro e w' ⟨rfl, rfl⟩
    exact ⟨rfl, h, Below.refl B _, KeepF.refl _ _⟩
/-- Where a row lies behind an append of a string: where it lay, or in a new block. -/
theorem own_after {w w' : World} {base n : Nat} {i : TypeInfo} {ty : TypeId} {v v' : Value} {xs : List Value} {s : ByteArray} (hi : Tryz.prog.info? 5 = some i) (hz : i.zero = some (.int .u8 0)) (hsize : i.size = 1) (hby : i.bytes = 1)
    (hown : w.ownsRow base 5 1 v n xs) (hbytes : n + s.size ≤ 140737488355328)
    (hr : (Builtin.append_ #[48, 9] ty #[v, .string s]).run Tryz.prog w = .ok v' w') (h4 : v' = .slice none 0 0 ↔ v = .slice none 0 0 ∧ s.size = 0) : v'.ownBlock = v.ownBlock ∨ v'.ownBlock = some w.heap.size := by
  have hxl : xs.length = n := by simpa using hown.1
  rcases hown.2 with ⟨rfl, rfl⟩ | ⟨g, cap, cur, rfl, hbg, hg, hnc, hcm, hcs, htake⟩
  · by_cases hm : s.size = 0
    · rw [h4.2 ⟨rfl, hm⟩]; exact .inl rfl
    · have := run_append_nil_string (P := Tryz.prog) w 48 9 ty 5 i (.int .u8 0) Tryz.underlying48 Tryz.underlying9 hi hz s (by omega) (by omega) (by rw [hby]; omega)
      rw [this] at hr
      injection hr with h1 h2
      rw [← h1]; exact .inr rfl
  · by_cases hroom : n + s.size ≤ cap
    · have := Lib.run_append_room_string (P := Tryz.prog) w 48 9 ty 5 i Tryz.underlying48 Tryz.underlying9 hi hsize g n cap cur hg s hroom (by omega)
      rw [this] at hr
      injection hr with h1 h2
      rw [← h1]; exact .inl rfl
    · have holds : ∀ j u, xs[j]? = some u → w.cell? ((⟨g, 0, none⟩ : Addr).add j) = some u := hown.cells (g := g) rfl
      have := Lib.run_append_grow_string (P := Tryz.prog) w 48 9 ty 5 i (.int .u8 0) Tryz.underlying48 Tryz.underlying9 hi hz ⟨g, 0, none⟩ n cap xs (by rw [hsize]; simpa using hxl) holds s (by omega) (by omega) (by rw [hby]; exact growslice_fits (by omega) (by omega))
      rw [this] at hr
      injection hr with h1 h2
      rw [← h1]; exact .inr rfl
theorem wpList_append_str {w : World} {ops : Array Oper} {rest : List Oper} {o : Oper} {a : Act} {Q : Exit → Act → World → Prop} (hgd : o.guard = none) (sl x : Operand)
    (ho : o.op = .call { callee := .builtin .append, args := #[sl, x], argTypes := #[48, 9] }) (base : Nat)
    (v : Value) (n : Nat) (xs : List Value) (hs : a.eval sl = v) (hown : w.ownsRow base 5 1 v n xs) (s : ByteArray) (hx : a.eval x = .string s)
    (hbytes : n + s.size ≤ 140737488355328) (hbase : base ≤ w.heap.size)
    (h : ∀ v' w', w'.ownsRow base 5 1 v' (n + s.size) (xs ++ Lib.strCells s) → w.grownBy w' v.ownBlock → (v'.ownBlock = v.ownBlock ∨ v'.ownBlock = some w.heap.size) → wpList Tryz.prog ops Q rest (a.put o.dst v') w') : wpList Tryz.prog ops Q (o :: rest) a w := by
  obtain ⟨i0, hi, hz0, hz1, hz2⟩ := info_parts infoU8
  refine wpList_plain hgd fun K hK => ?_
  obtain ⟨v', w', hr, h2, h3, h4⟩ := Lib.run_append_own_string (P := Tryz.prog) w base 48 9 o.type 5 i0 Tryz.underlying48 Tryz.underlying9 hi hz0 hz1 hz2 v n xs hown s (by unfold maxLen; omega) hbytes hbase
  have h5 := own_after hi hz0 hz1 hz2 hown hbytes hr h4
  unfold Oper.wp execOp
  simp only [ho, resolve, invoke, builtin, Sem.run_bind, Sem.run_pure, Result.andThen_ok, List.map_toArray, List.map_cons, List.map_nil, hs, hx, hr]
  exact hK _ _ (h v' w' h2 h3 h5)
set_option maxHeartbeats 2000000 in
set_option maxRecDepth 100000 in
theorem wstr_at (B b : Nat) (bs : List Value) (s : ByteArray) (w : World) (h : Pg B b bs w) (hlen : bs.length + s.size ≤ 140737488355328) (hBw : B ≤ w.heap.size) :
    Calls Tryz.prog 38 #[.pointer (some ⟨b, 0, none⟩), .string s] w fun e w' => e = .returned (.tuple #[.int .i64 s.size, .nilIface]) ∧ (PgAt B b (.pointer (some ⟨b, 0, none⟩)) (bs ++ Lib.strCells s) w' ∧ Below B w w' ∧ KeepF b w w') := by
  go_enter Tryz.func38, Tryz.ntmps38
  go_wp2_with (go_at_call 52; refine (copy_at B b bs _ h).mono ?_)
  rintro e w1 ⟨rfl, h1, hb1, hk1⟩
  obtain ⟨hB, v, hbk, hown, hne⟩ := h1
  have c0 : w1.cell? ⟨b, 0, none⟩ = some (.pointer (some ⟨b, 0, none⟩)) := by rw [Lib.cell_of_heap hbk]; rfl
  have c1 : w1.cell? ⟨b, 1, none⟩ = some v := by rw [Lib.cell_of_heap hbk]; rfl
  go_wp2_with (at_builtin; refine wpList_append_str rfl _ _ rfl B _ _ _ rfl hown s rfl ?c4 ?c5 ?_)
  case c4 => omega
  case c5 => have := hb1.size; omega
  intro v' w2 hown' hgrow hat
  have hlt : b < w1.heap.size := by
    rcases Nat.lt_or_ge b w1.heap.size with h' | h'
    · exact h'
    · simp [Array.getElem?_eq_none h'] at hbk
  have hb2 : w2.heap[b]? = some (.cells #[.pointer (some ⟨b, 0, none⟩), v] 52 (0, 0)) := by
    rw [hgrow.block b hlt (fun e => hne e.symm)]
    exact hbk
  have d0 : w2.cell? ⟨b, 0, none⟩ = some (.pointer (some ⟨b, 0, none⟩)) := by rw [Lib.cell_of_heap hb2]; rfl
  have d1 : w2.cell? ⟨b, 1, none⟩ = some v := by rw [Lib.cell_of_heap hb2]; rfl
  have f1 : w2.frozen? ⟨b, 1, none⟩ = false := Lib.frozen_of_heap hb2 1
  obtain ⟨ao, n', cap, rfl⟩ : ∃ ao n' cap, v' = .slice ao n' cap := by
    rcases hown'.2 with ⟨hv, _⟩ | ⟨g, cap, cur, hv, _⟩
    · exact ⟨_, _, _, hv⟩
    · exact ⟨_, _, _, hv⟩
  have hkk : KeepF b w1 (w2.setCell ⟨b, 1, none⟩ (.slice ao n' cap)) := by
    have hn : (w2.setCell ⟨b, 1, none⟩ (.slice ao n' cap)).heap[b]? = some (.cells #[.pointer (some ⟨b, 0, none⟩), .slice ao n' cap] 52 (0, 0)) := (set_at hb2 _).trans (by simp)
    refine ⟨by have := hgrow.size; simpa using this, fun k hk => ?_⟩
    have ho := hk.2.2 _ _ hbk
    refine ⟨⟨by have := hgrow.size; have := hk.1; simp; omega, hk.2.1, fun p' v' e hv' => ?_⟩, (Below.heap_setCell _ ⟨b, 1, none⟩ _ k hk.2.1).trans (hgrow.block k hk.1 (fun e => ho e.symm))⟩
    rw [hn] at e
    injection e with e
    injection e with e1
    have e2 : Value.slice ao n' cap = v' := by
      have := congrArg (fun a : Array Value => a[1]?) e1
      simpa using this
    rw [← e2] at hv'
    rcases hat with hat | hat
    · exact ho (hat.symm.trans hv')
    · rw [hat] at hv'
      injection hv' with hv'
      have := hk.1
      omega
  go_wp2
  go_ret2
  refine ⟨rfl, ?_, ?_, hk1.trans hkk⟩
  · exact Lib.BuilderAt.put (T := 52) (e := 5) hB hb2 (bs' := bs ++ Lib.strCells s) (by simpa [Lib.strCells_length] using hown') (by decide)
  · exact (hb1.grown hgrow (by have := hb1.size; omega) (fun k hk => (hown.lt k hk).1)).setCell (p := ⟨b, 1, none⟩) hB _
theorem cellsU8 : Tryz.prog.cellsOf 5 = 1 := by kernel_rfl
set_option maxHeartbeats 1000000 in
set_option maxRecDepth 100000 in
theorem string_at (B b : Nat) (l : List UInt8) (w : World) (h : Pg B b (Lib.byteCells l) w) (h0 : l ≠ []) :
    Calls Tryz.prog 25 #[.pointer (some ⟨b, 0, none⟩)] w fun e w' => e = .returned (.string ⟨l.toArray⟩) ∧ Below B w w' := by
  obtain ⟨p, hB, v, hbk, hown, hne⟩ : ∃ p, PgAt B b p (Lib.byteCells l) w := by
    rcases h with h | h
    · exact ⟨_, h⟩
    · exact ⟨_, h⟩
  have hl0 : l.length ≠ 0 := by simpa using h0
  rw [Lib.byteCells_length] at hown
  obtain ⟨g, cap, cur, rfl, hbg, hg, hnc, hcm, hcs, htake⟩ : ∃ g cap cur, v = .slice (some ⟨g, 0, none⟩) l.length cap ∧ B ≤ g ∧ w.heap[g]? = some (.cells cur 5 (0, 0)) ∧ l.length ≤ cap ∧ cap ≤ maxLen ∧ cur.size = cap * 1 ∧ cur.toList.take (l.length * 1) = Lib.byteCells l := by
    rcases hown.2 with ⟨_, hz⟩ | ⟨g, cap, cur, hv, r⟩
    · exact absurd hz hl0
    · exact ⟨g, cap, cur, hv, r⟩
  have c1 : w.drew.cell? ⟨b, 1, none⟩ = some (.slice (some ⟨g, 0, none⟩) l.length cap) := by
    have : w.drew.heap[b]? = some (.cells #[p, .slice (some ⟨g, 0, none⟩) l.length cap] 52 (0, 0)) := hbk
    rw [Lib.cell_of_heap this]; rfl
  have hSD : (Builtin.unsafeSliceData_ #[48] 77 #[.slice (some ⟨g, 0, none⟩) l.length cap]).run Tryz.prog w.drew = .ok (.pointer (some ⟨g, 0, none⟩)) w.drew :=
    Lib.run_unsafeSliceData_row _ _ _ _ _ _ (by omega)
  have hUS : (Builtin.unsafeString_ #[77, 3] 9 #[.pointer (some ⟨g, 0, none⟩), .int .i64 l.length]).run Tryz.prog w.drew = .ok (.string ⟨l.toArray⟩) (w.drew.freeze ⟨g, 0, none⟩ l.length) := by
    refine Lib.run_unsafeString_row w.drew 77 3 9 5 Tryz.underlying77 cellsU8 g cur.size (by have hg' : w.drew.heap[g]? = some (.cells cur 5 (0, 0)) := hg; simp [World.shape?, hg']) l h0 (by omega) (by unfold maxLen at hcm; omega) ?_
    intro j x hx
    have := hown.cells (g := g) rfl j (.int .u8 x.toNat) (by simp [Lib.byteCells, hx])
    exact this
  go_enter Tryz.func25, Tryz.ntmps25
  go_wp2
  go_region
  all_goals (go_wp2; go_ret; exact ⟨rfl, Lib.below_freeze (Below.drew (Below.refl B w)) (p := ⟨g, 0, none⟩) hbg _⟩)
end Go.Proofs.YtfencolokfghfaaGreatDoor
namespace Go.Proofs.YtfencolokfghfaaGreatDoor
open Go.Shelf Go.RowKit
set_option linter.unusedVariables false

/-- Texts in memory, in a block of another's. -/
def StrsAt (b : Nat) (w : World) (a : Option Addr) (ss : List ByteArray) : Prop := ∃ g o, a = some ⟨g, o, none⟩ ∧ For b w g ∧ ∀ i s, ss[i]? = some s → w.cell? ⟨g, o + i, none⟩ = some (.string s)
theorem StrsAt.keep {b : Nat} {w w' : World} {a : Option Addr} {ss : List ByteArray} (h : StrsAt b w a ss) (k : KeepF b w w') : StrsAt b w' a ss := by
  obtain ⟨g, o, rfl, hf, hc⟩ := h
  exact ⟨g, o, rfl, (k.2 g hf).1, fun i s hs => (World.cell?_of_block (a := ⟨g, o + i, none⟩) (k.2 g hf).2).trans (hc i s hs)⟩
def catL (ss : List ByteArray) : List UInt8 := ss.flatMap fun s => s.data.toList
theorem byte_str (s : ByteArray) : Lib.strCells s = Lib.byteCells s.data.toList := rfl
theorem byte_app (l m : List UInt8) : Lib.byteCells (l ++ m) = Lib.byteCells l ++ Lib.byteCells m := by simp [Lib.byteCells]
set_option maxRecDepth 100000 in
set_option maxHeartbeats 2000000 in
theorem put_at (B b : Nat) (l : List UInt8) (ss : List ByteArray) (a : Option Addr) (cap : Nat) (w : World) (h : Pg B b (Lib.byteCells l) w) (hs : StrsAt b w a ss) (hl : l.length + (catL ss).length ≤ 1000000000000) (hn : ss.length ≤ 1000) (hc : ss.length ≤ cap) (hBw : B ≤ w.heap.size) :
    Calls Tryz.prog 24 #[.pointer (some ⟨b, 0, none⟩), .slice a ss.length cap] w fun e w' => e = .returned (.tuple #[]) ∧ Pg B b (Lib.byteCells (l ++ catL ss)) w' ∧ Below B w w' ∧ KeepF b w w' := by
  go_enter Tryz.func24, Tryz.ntmps24
  go_wp2_with fail
  go_loopg [8] ss.length (fun g z wr => ∃ k : Nat, z = .int .i64 k ∧ g + k = ss.length ∧ Pg B b (Lib.byteCells (l ++ catL (ss.take k))) wr ∧ Below B w wr ∧ KeepF b w wr)
  case atStart => exact ⟨0, rfl, by omega, by simpa [catL] using h, Below.refl _ _, KeepF.refl _ _⟩
  case round =>
    obtain ⟨k, rfl, hgk, hP, hb, hk⟩ := hrel
    cases gk with
    | zero =>
      have hkk : ¬ ((k : Int) < (ss.length : Int)) := by omega
      have hke : k = ss.length := by omega
      rw [hke, List.take_length] at hP
      go_wp2_with fail
      go_end0
      exact ⟨rfl, hP, hb, hk⟩
    | succ m =>
      have hlt : k < ss.length := by omega
      have hkk : ((k : Int) < (ss.length : Int)) := by omega
      obtain ⟨s, hsk⟩ : ∃ s, ss[k]? = some s := ⟨_, List.getElem?_eq_getElem hlt⟩
      obtain ⟨g, o, rfl, hf, hcell⟩ := hs.keep hk
      have hck := hcell k s hsk
      have htk : ss.take (k + 1) = ss.take k ++ [s] := by rw [List.take_add_one, hsk]; rfl
      have hcat : catL (ss.take (k + 1)) = catL (ss.take k) ++ s.data.toList := by rw [htk]; simp [catL]
      have hsub : (catL (ss.take k)).length + s.data.toList.length ≤ (catL ss).length := by
        have e : catL ss = catL (ss.take (k + 1)) ++ catL (ss.drop (k + 1)) := by
          unfold catL
          rw [← List.flatMap_append, List.take_append_drop]
        rw [e, hcat, List.length_append, List.length_append]; omega
      have hsz : s.size = s.data.toList.length := rfl
      have hws := wstr_at B b _ s wr hP (by simp only [Lib.byteCells, List.length_map, List.length_append]; omega) (by have := hk.1; omega)
      have HC := Lib.hid hcat
      clear hcell hf hcat htk hsub hsz hP hsk
      go_wp2_with (go_at_call 38; refine hws.mono ?_; rintro e W1 ⟨rfl, hP1, hb1, hk1⟩)
      go_roundg m
      case measure => omega
      case rel => exact ⟨k + 1, by simp, by omega, .inr (by rw [HC.out, ← List.append_assoc, byte_app]; exact hP1), hb.trans hb1, hk.trans hk1⟩
end Go.Proofs.YtfencolokfghfaaGreatDoor
namespace Go.Proofs.YtfencolokfghfaaGreatDoor
open Go.Shelf Go.RowKit Go.Sort
set_option linter.unusedVariables false

def fnL (l : List UInt8) : List UInt8 := if l = [91, 93] then [39, 91, 93, 39] else quoteL l
mutual
/-- The text of a term. -/
def Tm.txt : Tm → List UInt8
  | .mk k n s ks =>
    if k = 1 then 95 :: Lib.itoa n
    else if k = 2 then Lib.itoa n
    else if k = 3 then (if ks.length = 0 then quoteL s.data.toList else fnL s.data.toList ++ 40 :: (Tm.txtc ks).tail ++ [41])
    else if k = 4 ∧ ks.length = 1 then [64, 40] ++ (Tm.txtc ks).tail ++ (44 :: Lib.itoa n ++ [41])
    else [63]
/-- Texts, each with a comma ahead. -/
def Tm.txtc : List Tm → List UInt8
  | [] => []
  | t :: ts => 44 :: (t.txt ++ Tm.txtc ts)
end
mutual
/-- How many bytes the names have. -/
def Tm.byt : Tm → Nat
  | .mk _ _ s ks => s.size + Tm.byts ks
def Tm.byts : List Tm → Nat
  | [] => 0
  | t :: ts => t.byt + Tm.byts ts
end
theorem Tm.txt_mk (k n : Int) (s : ByteArray) (ks : List Tm) : (Tm.mk k n s ks).txt = if k = 1 then 95 :: Lib.itoa n
    else if k = 2 then Lib.itoa n
    else if k = 3 then (if ks.length = 0 then quoteL s.data.toList else fnL s.data.toList ++ 40 :: (Tm.txtc ks).tail ++ [41])
    else if k = 4 ∧ ks.length = 1 then [64, 40] ++ (Tm.txtc ks).tail ++ (44 :: Lib.itoa n ++ [41])
    else [63] := by rw [Tm.txt]
theorem Tm.txtc_nil : Tm.txtc [] = [] := by rw [Tm.txtc]
theorem Tm.txtc_cons (t : Tm) (ts : List Tm) : Tm.txtc (t :: ts) = 44 :: (t.txt ++ Tm.txtc ts) := by rw [Tm.txtc]
theorem Tm.byt_mk (k n : Int) (s : ByteArray) (ks : List Tm) : (Tm.mk k n s ks).byt = s.size + Tm.byts ks := by rw [Tm.byt]
theorem Tm.byts_nil : Tm.byts [] = 0 := by rw [Tm.byts]
theorem Tm.byts_cons (t : Tm) (ts : List Tm) : Tm.byts (t :: ts) = t.byt + Tm.byts ts := by rw [Tm.byts]
theorem Tm.txtc_append : ∀ xs ys, Tm.txtc (xs ++ ys) = Tm.txtc xs ++ Tm.txtc ys
  | [], ys => by rw [Tm.txtc_nil]; rfl
  | x :: xs, ys => by rw [List.cons_append, Tm.txtc_cons, Tm.txtc_cons, Tm.txtc_append xs ys]; simp
theorem Tm.byt_le {t : Tm} : ∀ {ks : List Tm}, t ∈ ks → t.byt ≤ Tm.byts ks
  | u :: us, h => by
    rw [Tm.byts_cons]
    rcases List.mem_cons.1 h with rfl | h
    · omega
    · have := Tm.byt_le h; omega
theorem quoteL_len (l : List UInt8) : (quoteL l).length ≤ 2 * l.length + 2 := by
  unfold quoteL
  split
  · omega
  · have := escL_length l; simp; omega
theorem fnL_len (l : List UInt8) : (fnL l).length ≤ 2 * l.length + 4 := by
  unfold fnL
  split
  · simp
  · have := quoteL_len l; omega
theorem itoa_len (n : Int) (h : i64ok n) : (Lib.itoa n).length ≤ 21 := Lib.itoa_length_le _ h.1 h.2
abbrev TabP (w : World) : Prop := Lib.TabIs Tryz.prog w "internal/strconv.uint64pow10" .u64 Lib.pow10Tab
theorem TabP.later {w W : World} (h : TabP w) (hb : Below w.heap.size w W) : TabP W := by
  unfold TabP Lib.TabIs World.var? at h ⊢
  cases hg : Tryz.prog.globalNamed "internal/strconv.uint64pow10" with
  | none => simp [hg] at h
  | some g =>
    simp only [hg, Option.bind_some] at h ⊢
    have hlt : g < w.heap.size := by
      rcases Nat.lt_or_ge g w.heap.size with h' | h'
      · exact h'
      · simp [Array.getElem?_eq_none h'] at h
    rw [hb.block g hlt]
    exact h
theorem grow_bel (w : World) (k : Nat) (os : Array Obj) : Below w.heap.size w (grow (w.drewN k) os) :=
  ⟨rfl, rfl, rfl, by show w.heap.size ≤ (w.heap ++ os).size; rw [Array.size_append]; omega, fun _ hj => Sort.heap_grow_old (w.drewN k) os hj⟩
set_option maxRecDepth 100000 in
theorem decimal_at (n : Int) (hn : i64ok n) (w : World) (h : TabP w) : Calls Tryz.prog 36 #[.int .i64 n] w fun e w' => e = .returned (.string (strV (Lib.itoa n))) ∧ Below w.heap.size w w' := by
  have hf := Tryz.strconv_FormatInt_10 n hn.1 hn.2 w h
  go_enter Tryz.func36, Tryz.ntmps36
  go_wp2_with (go_at_call 49; refine hf.mono ?_; rintro e W1 ⟨rfl, k, os, rfl⟩)
  go_ret
  exact ⟨rfl, grow_bel _ _ _⟩
theorem str_ext {s t : ByteArray} (h : s.data.toList = t.data.toList) : s = t := by
  obtain ⟨⟨s⟩⟩ := s
  obtain ⟨⟨t⟩⟩ := t
  simp at h
  rw [h]
set_option maxRecDepth 100000 in
set_option maxHeartbeats 1000000 in
theorem functor_at (s : ByteArray) (w : World) (hm : s.size ≤ 2000000) : Calls Tryz.prog 51 #[.string s] w fun e w' => e = .returned (.string (strV (fnL s.data.toList))) ∧ Below w.heap.size w w' := by
  by_cases hs : s.data.toList = [91, 93]
  · obtain rfl : s = ByteArray.mk #[91, 93] := str_ext hs
    go_enter Tryz.func51, Tryz.ntmps51
    go_wp2
    go_ret
    exact ⟨rfl, Below.refl _ _⟩
  · have hq := quote_at s s.data.toList rfl w hm
    have hne : (s.toList == [91, 93]) = false := by
      rw [ByteArray.toList_eq]
      simp only [beq_eq_false_iff_ne, ne_eq]
      exact hs
    have hf : fnL s.data.toList = quoteL s.data.toList := by unfold fnL; rw [if_neg hs]
    rw [hf]
    clear hs
    go_enter Tryz.func51, Tryz.ntmps51
    go_wp2_with (go_at_call 50; refine hq.mono ?_; rintro e W1 ⟨rfl, hb1⟩)
    go_ret
    exact ⟨rfl, hb1⟩
end Go.Proofs.YtfencolokfghfaaGreatDoor
namespace Go.Proofs.YtfencolokfghfaaGreatDoor
open Go.Shelf Go.RowKit Go.Sort
set_option linter.unusedVariables false

theorem PgAt.below {B b : Nat} {p : Value} {bs : List Value} {w w' : World} (h : PgAt B b p bs w) (k : Below w.heap.size w w') : PgAt B b p bs w' := by
  obtain ⟨hB, v, hb, ho, hne⟩ := id h
  exact ⟨hB, v, (k.block b h.lt).trans hb, owns_below ho k, hne⟩
theorem Pg.below {B b : Nat} {bs : List Value} {w w' : World} (h : Pg B b bs w) (k : Below w.heap.size w w') : Pg B b bs w' := h.imp (fun h => PgAt.below h k) (fun h => PgAt.below h k)
theorem Pg.any {B b : Nat} {bs : List Value} {w : World} (h : Pg B b bs w) : ∃ p, PgAt B b p bs w := by
  rcases h with h | h
  · exact ⟨_, h⟩
  · exact ⟨_, h⟩
theorem put_new (B b : Nat) (l : List UInt8) (ss : List ByteArray) (W : World) (hP : Pg B b (Lib.byteCells l) W) (hBw : B ≤ W.heap.size) (hl : l.length + (catL ss).length ≤ 1000000000000) (hn : ss.length ≤ 1000) :
    Calls Tryz.prog 24 #[.pointer (some ⟨b, 0, none⟩), .slice (some ⟨W.heap.size, 0, none⟩) ss.length ss.length] (W.alloc (.cells (ss.map Value.string).toArray 9)) fun e w' => e = .returned (.tuple #[]) ∧ Pg B b (Lib.byteCells (l ++ catL ss)) w' ∧ Below B W w' ∧ KeepF b W w' := by
  have hb := bel_al (Below.refl W.heap.size W) (.cells (ss.map Value.string).toArray 9)
  obtain ⟨p, hp⟩ := hP.any
  refine (put_at B b l ss _ ss.length _ (hP.below hb) ⟨W.heap.size, 0, rfl, hp.fresh hb (Nat.le_refl _) (by simp), fun i s hs => ?_⟩ hl hn (Nat.le_refl _) (by simp; omega)).mono ?_
  · have := alloc_new W (.cells (ss.map Value.string).toArray 9)
    rw [Lib.cell_of_heap this]
    simp [hs]
  · rintro e w' ⟨h1, h2, h3, h4⟩
    exact ⟨h1, h2, (hb.mono hBw).trans h3, (KeepF.below hb hp.lt).trans h4⟩
/-- The method value. -/
abbrev PV (b : Nat) : Value := .func (.func 24) #[.pointer (some ⟨b, 0, none⟩)] #[]
def WPost (w0 : World) (b : Nat) (l : List UInt8) (w : World) (e : Ending) (w' : World) : Prop := e = .returned (.tuple #[]) ∧ Pg w0.heap.size b (Lib.byteCells l) w' ∧ Below w0.heap.size w0 w' ∧ KeepF b w w'
/-- A text is put, out of a list of one, two, or three. -/
theorem put1 {w0 : World} {b : Nat} {l : List UInt8} (s : ByteArray) {W : World} (hP : Pg w0.heap.size b (Lib.byteCells l) W) (hB : Below w0.heap.size w0 W) (hl : l.length + s.data.toList.length ≤ 1000000000000) :
    Calls Tryz.prog 24 #[.pointer (some ⟨b, 0, none⟩), .slice (some ⟨W.heap.size, 0, none⟩) 1 1] (W.alloc (.cells #[.string s] 9)) (WPost w0 b (l ++ s.data.toList) W) :=
  (put_new w0.heap.size b l [s] W hP hB.size (by simpa [catL] using hl) (by simp)).mono fun e w' h => ⟨h.1, by simpa [catL] using h.2.1, hB.trans h.2.2.1, h.2.2.2⟩
theorem put2 {w0 : World} {b : Nat} {l : List UInt8} (s t : ByteArray) {W : World} (hP : Pg w0.heap.size b (Lib.byteCells l) W) (hB : Below w0.heap.size w0 W) (hl : l.length + (s.data.toList.length + t.data.toList.length) ≤ 1000000000000) :
    Calls Tryz.prog 24 #[.pointer (some ⟨b, 0, none⟩), .slice (some ⟨W.heap.size, 0, none⟩) 2 2] (W.alloc (.cells #[.string s, .string t] 9)) (WPost w0 b (l ++ (s.data.toList ++ t.data.toList)) W) :=
  (put_new w0.heap.size b l [s, t] W hP hB.size (by simpa [catL] using hl) (by simp)).mono fun e w' h => ⟨h.1, by simpa [catL] using h.2.1, hB.trans h.2.2.1, h.2.2.2⟩
theorem put3 {w0 : World} {b : Nat} {l : List UInt8} (s t u : ByteArray) {W : World} (hP : Pg w0.heap.size b (Lib.byteCells l) W) (hB : Below w0.heap.size w0 W) (hl : l.length + (s.data.toList.length + (t.data.toList.length + u.data.toList.length)) ≤ 1000000000000) :
    Calls Tryz.prog 24 #[.pointer (some ⟨b, 0, none⟩), .slice (some ⟨W.heap.size, 0, none⟩) 3 3] (W.alloc (.cells #[.string s, .string t, .string u] 9)) (WPost w0 b (l ++ (s.data.toList ++ (t.data.toList ++ u.data.toList))) W) :=
  (put_new w0.heap.size b l [s, t, u] W hP hB.size (by simpa [catL] using hl) (by simp)).mono fun e w' h => ⟨h.1, by simpa [catL] using h.2.1, hB.trans h.2.2.1, h.2.2.2⟩
/-- write, of one term. -/
def WOk (w0 : World) (b : Nat) (T : Tm) : Prop := ∀ (v : Value) (l : List UInt8) (w : World), TmIn (For b w) w v T → Pg w0.heap.size b (Lib.byteCells l) w → Below w0.heap.size w0 w → l.length + T.txt.length ≤ 1000000000 →
  Calls Tryz.prog 23 #[v, PV b] w (WPost w0 b (l ++ T.txt) w)
def wrt8 (s : List UInt8) (ks : List Tm) (k : Nat) : List UInt8 := if k = 0 then [] else fnL s ++ 40 :: (Tm.txtc (ks.take k)).tail
def bef8 (s : List UInt8) (k : Nat) : List UInt8 := if k = 0 then fnL s ++ [40] else [44]
theorem wrt8_succ {s : List UInt8} {ks : List Tm} {k : Nat} {t : Tm} (h : ks[k]? = some t) : wrt8 s ks (k + 1) = wrt8 s ks k ++ (bef8 s k ++ t.txt) := by
  have htk : ks.take (k + 1) = ks.take k ++ [t] := by rw [List.take_add_one, h]; rfl
  unfold wrt8 bef8
  rw [if_neg (by omega), htk, Tm.txtc_append, Tm.txtc_cons, Tm.txtc_nil]
  by_cases hk : k = 0
  · subst hk
    rw [if_pos rfl, if_pos rfl, List.take_zero, Tm.txtc_nil]
    simp
  · rw [if_neg hk, if_neg hk]
    have hne : Tm.txtc (ks.take k) ≠ [] := by
      have hlt := (List.getElem?_eq_some_iff.1 h).1
      cases hq : ks.take k with
      | nil =>
        have := congrArg List.length hq
        rw [List.length_take, List.length_nil] at this
        omega
      | cons u us => rw [Tm.txtc_cons]; simp
    rw [List.tail_append_of_ne_nil hne]
    simp
theorem wrt8_len (s : List UInt8) (ks : List Tm) (k : Nat) : (wrt8 s ks k).length ≤ (fnL s ++ 40 :: (Tm.txtc ks).tail).length := by
  unfold wrt8
  split
  · simp
  · have e : Tm.txtc ks = Tm.txtc (ks.take k) ++ Tm.txtc (ks.drop k) := by rw [← Tm.txtc_append, List.take_append_drop]
    have := congrArg List.length e
    rw [List.length_append] at this
    simp only [List.length_append, List.length_cons, List.length_tail]
    omega
theorem wrt8_all {s : List UInt8} {ks : List Tm} (h : ks.length ≠ 0) : wrt8 s ks ks.length = fnL s ++ 40 :: (Tm.txtc ks).tail := by
  unfold wrt8
  rw [if_neg h, List.take_length]
/-- A term put into a new box. -/
theorem box_new (w : World) (v0 v1 v2 v3 : Value) : ∃ V, V = w.alloc (.cells #[v0, v1, v2, v3] 24) ∧ V.heap[w.heap.size]? = some (.cells #[v0, v1, v2, v3] 24 (0, 0)) ∧ Below w.heap.size w V :=
  ⟨_, rfl, alloc_new w _, bel_al (Below.refl w.heap.size w) _⟩
set_option maxRecDepth 100000 in
set_option maxHeartbeats 4000000 in
theorem writeFun_nil {w0 : World} {b : Nat} (n : Int) (s : ByteArray) (hs : s.size ≤ 2000000) (v : Value) (l : List UInt8) (w : World) (ht : TmIn (For b w) w v (.mk 3 n s [])) (hP : Pg w0.heap.size b (Lib.byteCells l) w) (hB : Below w0.heap.size w0 w) (hl : l.length + (quoteL s.data.toList).length ≤ 1000000000) :
    Calls Tryz.prog 37 #[v, PV b] w (WPost w0 b (l ++ quoteL s.data.toList) w) := by
  obtain ⟨k, n', s', a, len, cap, ks', rfl, e, hlen, -⟩ := ht.form
  injection e with e1 e2 e3 e4
  subst e1 e2 e3 e4
  subst hlen
  obtain ⟨w1, hw1⟩ : ∃ w1, w1 = w.alloc (.cells #[.int .i64 3, .int .i64 n, .string s, .slice a 0 cap] 24) := ⟨_, rfl⟩
  have hb1 : Below w.heap.size w w1 := by rw [hw1]; exact bel_al (Below.refl _ _) _
  have hx1 : w1.heap[w.heap.size]? = some (.cells #[.int .i64 3, .int .i64 n, .string s, .slice a 0 cap] 24 (0, 0)) := by rw [hw1]; exact alloc_new _ _
  obtain ⟨t0, t1, t2, t3⟩ := tbox_cells hx1
  have hq := quote_at s s.data.toList rfl w1 hs
  obtain ⟨p, hp⟩ := hP.any
  have hk1 := KeepF.below hb1 hp.lt
  have hP1 := hP.below hb1
  have hB1 : Below w0.heap.size w0 w1 := bel hB hb1
  go_enter Tryz.func37, Tryz.ntmps37
  go_upto_region 1 with fail
  rw [← hw1]
  clear hw1
  go_wp2_with (first
    | (go_at_call 50; refine hq.mono ?_; rintro e W2 ⟨rfl, hb2⟩; have hk2 := hk1.trans (KeepF.below hb2 (hp.below hb1).lt); have hput := put1 (strV (quoteL s.data.toList)) (hP1.below hb2) (bel hB1 hb2) (by rw [strV_list]; omega))
    | (go_at_call 24; refine hput.mono ?_; rintro e W3 ⟨rfl, hP3, hB3, hk3⟩))
  rw [strV_list] at hP3
  exact bodyPost_ret (v := .tuple #[]) (by simp [results, Tryz.f37, go_sem]) rfl ⟨rfl, hP3, hB3, hk2.trans hk3⟩
set_option maxRecDepth 100000 in
set_option maxHeartbeats 4000000 in
theorem writeFun_kids {w0 : World} {b : Nat} (n : Int) (s : ByteArray) (ks : List Tm) (hne : ks.length ≠ 0) (hkl : ks.length ≤ 1000000) (hs : s.size ≤ 2000000) (ih : ∀ t ∈ ks, WOk w0 b t) (v : Value) (l : List UInt8) (w : World) (ht : TmIn (For b w) w v (.mk 3 n s ks)) (hP : Pg w0.heap.size b (Lib.byteCells l) w) (hB : Below w0.heap.size w0 w)
    (hl : l.length + (fnL s.data.toList ++ 40 :: (Tm.txtc ks).tail ++ [41]).length ≤ 1000000000) :
    Calls Tryz.prog 37 #[v, PV b] w (WPost w0 b (l ++ (fnL s.data.toList ++ 40 :: (Tm.txtc ks).tail ++ [41])) w) := by
  obtain ⟨k, n', s', a, len, cap, ks', rfl, e, hlen, -⟩ := ht.form
  injection e with e1 e2 e3 e4
  subst e1 e2 e3 e4
  subst hlen
  have hne' : ((ks.length : Int) == 0) = false := by rw [beq_eq_false_iff_ne]; omega
  obtain ⟨w1, hw1⟩ : ∃ w1, w1 = w.alloc (.cells #[.int .i64 3, .int .i64 n, .string s, .slice a ks.length cap] 24) := ⟨_, rfl⟩
  have hb1 : Below w.heap.size w w1 := by rw [hw1]; exact bel_al (Below.refl _ _) _
  have hx1 : w1.heap[w.heap.size]? = some (.cells #[.int .i64 3, .int .i64 n, .string s, .slice a ks.length cap] 24 (0, 0)) := by rw [hw1]; exact alloc_new _ _
  obtain ⟨t0, t1, t2, t3⟩ := tbox_cells hx1
  have hq := functor_at s w1 hs
  obtain ⟨p, hp⟩ := hP.any
  have hk1 := KeepF.below hb1 hp.lt
  have hP1 := hP.below hb1
  have hB1 : Below w0.heap.size w0 w1 := bel hB hb1
  have hsz : w.heap.size < w1.heap.size := (Array.getElem?_eq_some_iff.1 hx1).1
  have hfl : (strV (fnL s.data.toList)).size ≤ 5000000 := by
    have h1 := fnL_len s.data.toList
    have h2 : (strV (fnL s.data.toList)).size = (fnL s.data.toList).length := strV_size _
    have h3 : s.data.toList.length = s.size := rfl
    omega
  go_enter Tryz.func37, Tryz.ntmps37
  go_upto_region 1 with fail
  rw [← hw1]
  clear hw1
  go_wp2_with (first
    | (go_at_call 51; refine hq.mono ?_; rintro e W2 ⟨rfl, hb2⟩; have hk2 := hk1.trans (KeepF.below hb2 (hp.below hb1).lt); have hx2 := (hb2.block _ hsz).trans hx1; obtain ⟨u0, u1, u2, u3⟩ := tbox_cells hx2))
  have hT2 : TsIn (For b W2) W2 (.slice a ks.length cap) ks := TsIn.carry (fun x hx => (hk2.2 x hx).2) (fun x hx => (hk2.2 x hx).1) ht.kids
  have hP2 : Pg w0.heap.size b (Lib.byteCells (l ++ wrt8 s.data.toList ks 0)) W2 := by
    have : wrt8 s.data.toList ks 0 = [] := rfl
    rw [this, List.append_nil]
    exact hP1.below hb2
  have hB2 : Below w0.heap.size w0 W2 := bel hB1 hb2
  have hl2 : l.length + ((fnL s.data.toList ++ 40 :: (Tm.txtc ks).tail).length + 1) ≤ 1000000000 := by
    rw [List.length_append] at hl
    simpa using hl
  have HE := Lib.hid (And.intro hk2 hl2)
  clear hk2 hl hl2 ht hx1 hx2 t0 t1 t2 t3 u0 u1 u2 u3 hq hP hP1 hB hB1 hk1 hp hb1 hb2
  go_loopg [4, 24] ks.length (fun g x z wr => ∃ (k : Nat) (S : ByteArray), x = .string S ∧ z = .int .i64 k ∧ g + k = ks.length ∧ S.data.toList = bef8 s.data.toList k ∧ Pg w0.heap.size b (Lib.byteCells (l ++ wrt8 s.data.toList ks k)) wr ∧ Below w0.heap.size w0 wr ∧ KeepF b W2 wr)
  case atStart => exact ⟨0, _, rfl, rfl, by omega, by rw [show (strV (fnL s.data.toList) ++ ByteArray.mk #[40]).data.toList = (strV (fnL s.data.toList)).data.toList ++ [40] by rw [ByteArray.data_append]; simp, strV_list]; rfl, hP2, hB2, KeepF.refl _ _⟩
  case round =>
    obtain ⟨k, S, rfl, rfl, hgk, hS, hPk, hBk, hkk⟩ := hrel
    obtain ⟨hk2, hl2⟩ := HE.out
    have hwl := wrt8_len s.data.toList ks k
    cases gk with
    | zero =>
      have hlt : ¬ ((k : Int) < (ks.length : Int)) := by omega
      have hke : k = ks.length := by omega
      have hput := put1 (ByteArray.mk #[41]) hPk hBk (by rw [List.length_append]; have : (ByteArray.mk #[41]).data.toList.length = 1 := rfl; omega)
      rw [hke, wrt8_all hne] at hput
      have HPU := Lib.hid hput
      clear hput hwl hl2
      go_wp2_with (first | (go_at_call 24; (with_reducible refine HPU.out.mono ?_); rintro e W3 ⟨rfl, hP3, hB3, hk3⟩))
      go_end0
      refine ⟨rfl, ?_, hB3, hk2.trans (hkk.trans hk3)⟩
      rw [← List.append_assoc]
      exact hP3
    | succ m =>
      have hlt : k < ks.length := by omega
      have hlt' : ((k : Int) < (ks.length : Int)) := by omega
      obtain ⟨t, hkt⟩ : ∃ t, ks[k]? = some t := ⟨_, List.getElem?_eq_getElem hlt⟩
      have hte : ks[k] = t := by rw [List.getElem?_eq_getElem hlt] at hkt; exact Option.some.inj hkt
      have hok := ih t (by rw [← hte]; exact List.getElem_mem hlt)
      obtain ⟨a', cap', hv, -, -, -, hx⟩ := TsIn.carry (fun x hx => (hkk.2 x hx).2) (fun x hx => (hkk.2 x hx).1) hT2
      obtain ⟨bk, o, k', n', s', a2, l2, c2, he, hfor, q0, q1, q2, q3, hTm⟩ := hx k hlt
      injection hv with hv1 hv2 hv3
      subst hv1 hv3
      subst he
      rw [hte] at hTm
      have hws := wrt8_succ (s := s.data.toList) hkt
      have hwl2 := wrt8_len s.data.toList ks (k + 1)
      rw [hws, List.length_append, List.length_append] at hwl2
      have hzt := zeroTerm
      obtain ⟨V, hV, hxV, hbV⟩ := box_new wr (.int .i64 k') (.int .i64 n') (.string s') (.slice a2 l2 c2)
      have HV := Lib.hid hV
      have Hws := Lib.hid hws
      have Hwl := Lib.hid hwl2
      clear hws hwl2 hwl hV hx hl2
      go_upto_region 7 with fail
      rw [← HV.out]
      obtain ⟨p, hp⟩ := hPk.any
      have hkV := KeepF.below hbV hp.lt
      have hput := put1 S (hPk.below hbV) (bel hBk hbV) (by rw [hS, List.length_append]; have := Hwl.out; have := HE.out.2; omega)
      rw [hS] at hput
      have hFV : For b V wr.heap.size := hp.fresh hbV (Nat.le_refl _) ((Array.getElem?_eq_some_iff.1 hxV).1)
      have hTV : TmIn (For b V) V (.agg #[.int .i64 k', .int .i64 n', .string s', .slice a2 l2 c2]) t := TmIn.carry (fun x hx => (hkV.2 x hx).2) (fun x hx => (hkV.2 x hx).1) hTm
      have HPU := Lib.hid hput
      clear hput HV q0 q1 q2 q3 hTm hfor hkt
      go_wp2_with (first
        | (go_at_call 24; (with_reducible refine HPU.out.mono ?_); rintro e W3 ⟨rfl, hP3, hB3, hk3⟩; have hx3 := (hk3.2 _ hFV).2.trans hxV; obtain ⟨y0, y1, y2, y3⟩ := tbox_cells hx3; have hT3 : TmIn (For b W3) W3 (.agg #[.int .i64 k', .int .i64 n', .string s', .slice a2 l2 c2]) t := TmIn.carry (fun x hx => (hk3.2 x hx).2) (fun x hx => (hk3.2 x hx).1) hTV; have hwr := hok _ _ W3 hT3 hP3 hB3 (by rw [List.length_append, List.length_append]; have := Hwl.out; have := HE.out.2; omega))
        | (go_at_call 23; (with_reducible refine hwr.mono ?_); rintro e W4 ⟨rfl, hP4, hB4, hk4⟩))
      go_roundg m
      case measure => omega
      case rel =>
        refine ⟨k + 1, _, rfl, by simp, by omega, ?_, ?_, hB4, hkk.trans (hkV.trans (hk3.trans hk4))⟩
        · unfold bef8; rw [if_neg (by omega)]
        · rw [Hws.out]
          simpa [List.append_assoc] using hP4
end Go.Proofs.YtfencolokfghfaaGreatDoor
