/-
  A region that draws its order, whose last operation waits for all others: the others in whatever order, then the last one.
-/
import Derived.StillTail
import Derived.OrdersHeld
import Derived.Deep.Quiet
import Derived.Tactics
import Derived.KernelRfl
import Derived.Test.YtnkfjomnpnbidaaZSealM
import Derived.Test.YtnkfjomnpnbidaaZShiftn3
import Derived.Test.YtnkfjomnpnbidaaZRefAn3
import Derived.Test.YtnkfjomnpnbidaaZLatn3
import Derived.Deep.RegionHeld3
namespace Go.Proofs.Ytnkfjomnpnbidaa

/-- What is asked ahead of the last operation. -/
def lastPost (P : Program) (ops : Array Oper) (n : Nat) (Q : Exit → Act → World → Prop) : Exit → Act → World → Prop
  | .normal, a, w => wpOp P ops Q n (fun a' w' => Q .normal a' w') a w
  | e, a, w => Q e a w

theorem lets_last {P : Program} {ops : Array Oper} {n : Nat} {Q : Exit → Act → World → Prop} (h : LetsOut (lastPost P ops n Q)) : LetsOut Q := by
  obtain ⟨a, w, h⟩ := h
  exact ⟨a, w, h⟩

theorem wp_last {P : Program} {ops : Array Oper} {n : Nat} {Q : Exit → Act → World → Prop} {o : Oper} {a : Act} {w : World} {K K' : Act → World → Prop} (h : ∀ a w, K a w → K' a w)
    (hh : o.wp P a w K (lastPost P ops n Q)) : o.wp P a w K' Q := by
  unfold Oper.wp at *
  generalize (execOp a.eval o).run P w = r at *
  cases r with
  | ok x w' =>
    cases x with
    | enter f args =>
      simp only [Oper.upon] at hh ⊢
      refine Calls.mono hh fun e w'' he => ?_
      cases e with
      | returned v => exact h _ _ he
      | panicked c => exact he
      | outgrown => exact lets_last he
    | row r args =>
      simp only [Oper.upon] at hh ⊢
      exact Rows.mono hh (fun _ _ he => h _ _ he)
    | _ => simp only [Oper.upon] at hh ⊢ <;> first | exact h _ _ hh | exact hh
  | halt x w' => cases x <;> simp only [Oper.upon] at hh ⊢ <;> exact hh

/-- Is operation n the last one, does it wait for all others, and do all wait for earlier ones alone? -/
def lastB (l : List Oper) (n : Nat) : Bool :=
  decide (l.length = n + 1) && ((List.range n).all fun i => Region.waitsFor .any l.toArray n i) &&
    (List.range (n + 1)).all fun i => match l[i]? with
      | some o => (o.after.all fun e => decide (e.on < i)) && (match o.guard with | some (g, _) => decide (g < n) | none => true)
      | none => false

structure LastOk (l : List Oper) (n : Nat) : Prop where
  len : l.length = n + 1
  waits : ∀ i, i < n → ∃ o, l[n]? = some o ∧ ∃ e ∈ o.after, Region.binds .any e = true ∧ e.on = i
  after : ∀ (i : Nat) (o : Oper), l[i]? = some o → ∀ e ∈ o.after, e.on < i
  guard : ∀ (i : Nat) (o : Oper), l[i]? = some o → ∀ g b, o.guard = some (g, b) → g < n

theorem lastB_spec {l : List Oper} {n : Nat} (h : lastB l n = true) : LastOk l n := by
  simp only [lastB, Bool.and_eq_true, decide_eq_true_eq] at h
  obtain ⟨⟨h1, h2⟩, h3⟩ := h
  have hall : ∀ (i : Nat) (o : Oper), l[i]? = some o → (o.after.all fun e => decide (e.on < i)) = true ∧ (match o.guard with | some (g, _) => decide (g < n) | none => true) = true := fun i o ho => by
    have hi : i < n + 1 := by rw [← h1]; exact (List.getElem?_eq_some_iff.1 ho).1
    have h4 := List.all_eq_true.1 h3 i (List.mem_range.2 hi)
    rw [ho] at h4
    simpa using h4
  refine ⟨h1, fun i hi => ?_, fun i o ho e he => ?_, fun i o ho g b hg => ?_⟩
  · obtain ⟨o, ho, e, he, hb, hon⟩ := Region.waitsFor_spec (List.all_eq_true.1 h2 i (List.mem_range.2 hi))
    exact ⟨o, by simpa using ho, e, he, hb, hon⟩
  · have := Array.all_eq_true_iff_forall_mem.1 (hall i o ho).1 e he
    simpa using this
  · have := (hall i o ho).2
    rw [hg] at this
    simpa using this

theorem push_getD {listed : Array Bool} {n i : Nat} (hs : listed.size = n) (hi : i < n) (b d : Bool) : (listed.push b).getD i d = listed.getD i d := by
  have h : i < listed.size := by omega
  simp [Array.getElem?_push, h, Nat.ne_of_lt h]

theorem take_get {l : List Oper} {n i : Nat} (hi : i < n) : (l.take n).toArray[i]? = l.toArray[i]? := by simp [hi]

section
variable {P : Program} {Q : Exit → Act → World → Prop} {l : List Oper} {n : Nat}

theorem ready_trunc (L : LastOk l n) {listed : Array Bool} (hs : listed.size = n) {i : Nat} (hi : i < n) : i ∈ Region.ready .any l.toArray (listed.push false) ↔ i ∈ Region.ready .any (l.take n).toArray listed := by
  rw [mem_ready, mem_ready, push_getD hs hi, take_get hi]
  refine and_congr Iff.rfl ⟨?_, ?_⟩
  · rintro ⟨o, ho, h⟩
    refine ⟨o, ho, fun e he hb => ?_⟩
    have h1 := L.after i o (by simpa using ho) e he
    have := h e he hb
    rwa [push_getD hs (by omega)] at this
  · rintro ⟨o, ho, h⟩
    refine ⟨o, ho, fun e he hb => ?_⟩
    have h1 := L.after i o (by simpa using ho) e he
    rw [push_getD hs (by omega)]
    exact h e he hb

theorem last_ready (L : LastOk l n) {listed : Array Bool} (hs : listed.size = n) (h : n ∈ Region.ready .any l.toArray (listed.push false)) : ∀ i, i < n → listed.getD i false = true := by
  obtain ⟨_, o, ho, hall⟩ := mem_ready.1 h
  intro i hi
  obtain ⟨o', ho', e, he, hb, hon⟩ := L.waits i hi
  have : o' = o := Option.some.inj (ho'.symm.trans (by simpa using ho))
  subst this
  have h1 := hall e he hb
  rw [hon, push_getD hs hi] at h1
  exact h1

theorem all_listed (L : LastOk l n) {listed : Array Bool} (hs : listed.size = n) (h : Region.ready .any (l.take n).toArray listed = []) : ∀ i, i < n → listed.getD i false = true := by
  intro i
  induction i using Nat.strongRecOn with
  | _ i ih =>
    intro hi
    cases hl : listed.getD i false with
    | true => rfl
    | false =>
      exfalso
      have hlt : i < l.length := by rw [L.len]; omega
      have : i ∈ Region.ready .any (l.take n).toArray listed := mem_ready.2 ⟨getD_in (by omega) hl, l[i], by rw [take_get hi]; simp [hlt], fun e he hb => ih e.on (L.after i _ (List.getElem?_eq_getElem hlt) e he) (by have := L.after i _ (List.getElem?_eq_getElem hlt) e he; omega)⟩
      rw [h] at this
      cases this

theorem is_ready (L : LastOk l n) {listed : Array Bool} (hs : listed.size = n) (h : ∀ i, i < n → listed.getD i false = true) : n ∈ Region.ready .any l.toArray (listed.push false) := by
  have hlt : n < l.length := by rw [L.len]; omega
  refine mem_ready.2 ⟨by subst hs; simp, l[n], by simp [hlt], fun e he _ => ?_⟩
  have h1 := L.after n _ (List.getElem?_eq_getElem hlt) e he
  rw [push_getD hs h1]
  exact h _ h1

theorem none_trunc {listed : Array Bool} (h : ∀ i, i < n → listed.getD i false = true) : Region.ready .any (l.take n).toArray listed = [] := by
  refine List.eq_nil_iff_forall_not_mem.2 fun i hi => ?_
  obtain ⟨h1, o, ho, _⟩ := mem_ready.1 hi
  have hin : i < n := by
    have := (Array.getElem?_eq_some_iff.1 ho).1
    simp at this
    omega
  have := getD_both h1
  rw [h i hin] at this
  cases this

theorem none_full (L : LastOk l n) {listed : Array Bool} (hs : listed.size = n) (h : ∀ i, i < n → listed.getD i false = true) : Region.ready .any l.toArray ((listed.push false).setIfInBounds n true) = [] := by
  refine List.eq_nil_iff_forall_not_mem.2 fun i hi => ?_
  obtain ⟨h1, o, ho, _⟩ := mem_ready.1 hi
  have hin : i < n + 1 := by
    have := (Array.getElem?_eq_some_iff.1 ho).1
    have h2 := L.len
    simp at this
    omega
  by_cases e : i = n
  · subst e
    have h2 := getD_both h1
    simp [hs] at h2
  · rw [getD_set_ne true (Ne.symm e), push_getD hs (by omega)] at h1
    have := getD_both h1
    rw [h i (by omega)] at this
    cases this

theorem wanted_trunc (L : LastOk l n) {i : Nat} {o : Oper} (ho : l[i]? = some o) (t : Array Value) : Region.wanted o (yielded (l.take n).toArray t) = Region.wanted o (yielded l.toArray t) := by
  unfold Region.wanted
  cases hg : o.guard with
  | none => rfl
  | some gb =>
    obtain ⟨g, b⟩ := gb
    have := L.guard i o ho g b hg
    simp only [yielded, take_get this]

theorem wpOp_trunc (L : LastOk l n) {i : Nat} (hi : i < n) {K K' : Act → World → Prop} (h : ∀ a w, K a w → K' a w) {a : Act} {w : World} (hh : wpOp P (l.take n).toArray (lastPost P l.toArray n Q) i K a w) : wpOp P l.toArray Q i K' a w := by
  have hlt : i < l.length := by rw [L.len]; omega
  have h0 : l.toArray[i]? = some l[i] := by simp [hlt]
  unfold wpOp at *
  rw [take_get hi, h0] at hh
  rw [h0]
  simp only at hh ⊢
  rw [wanted_trunc L (List.getElem?_eq_getElem hlt)] at hh
  split
  · rename_i hw
    simp only [hw, if_true] at hh
    rcases hh with hh | ⟨h1, h2⟩
    · exact .inl (wp_last h hh)
    · exact .inr ⟨h1, lets_last h2⟩
  · rename_i hw
    simp only [hw] at hh
    exact h _ _ hh

theorem wpAny_done {listed : Array Bool} {a : Act} {w : World} {ops : Array Oper} (hr : Region.ready .any ops listed = []) (h : Q .normal a w) : ∀ f, wpAny P .any ops Q f listed a w
  | 0 => ⟨hr, h⟩
  | f + 1 => ⟨fun _ => h, fun i hi => by rw [hr] at hi; cases hi⟩

theorem push_set {listed : Array Bool} {i : Nat} (hi : i < listed.size) : (listed.push false).setIfInBounds i true = (listed.setIfInBounds i true).push false := by
  refine Array.ext (by simp) fun j h1 h2 => ?_
  simp at h1
  rw [Array.getElem_setIfInBounds (by simpa using h1)]
  by_cases e : i = j
  · subst e; simp [Array.getElem_push, hi]
  · by_cases hj : j < listed.size
    · simp [e, Array.getElem_push, hj]
    · simp [e, Array.getElem_push, hj]

theorem wpAny_last (L : LastOk l n) : ∀ (f : Nat) (listed : Array Bool) (a : Act) (w : World), listed.size = n →
    wpAny P .any (l.take n).toArray (lastPost P l.toArray n Q) f listed a w → wpAny P .any l.toArray Q (f + 1) (listed.push false) a w := by
  intro f
  have step : ∀ (listed : Array Bool) (a : Act) (w : World) (g : Nat), listed.size = n → (∀ i, i < n → listed.getD i false = true) → lastPost P l.toArray n Q .normal a w →
      wpOp P l.toArray Q n (wpAny P .any l.toArray Q g ((listed.push false).setIfInBounds n true)) a w := fun listed a w g hs hall h =>
    wpOp_mono (fun a' w' h' => wpAny_done (none_full L hs hall) h' g) h
  induction f with
  | zero =>
    intro listed a w hs h
    have hall := all_listed L hs h.1
    refine ⟨fun h0 => ?_, fun i hi => ?_⟩
    · have := is_ready L hs hall
      rw [h0] at this
      cases this
    · have hin : i < n + 1 := by
        obtain ⟨_, o, ho, _⟩ := mem_ready.1 hi
        have := (Array.getElem?_eq_some_iff.1 ho).1
        have h2 := L.len
        simp at this
        omega
      by_cases e : i = n
      · subst e
        exact step listed a w 0 hs hall h.2
      · have := (ready_trunc L hs (show i < n by omega)).1 hi
        rw [h.1] at this
        cases this
  | succ f ih =>
    intro listed a w hs h
    refine ⟨fun h0 => ?_, fun i hi => ?_⟩
    · exfalso
      have h1 : Region.ready .any (l.take n).toArray listed = [] := List.eq_nil_iff_forall_not_mem.2 fun i hi => by
        have hin : i < n := by
          obtain ⟨_, o, ho, _⟩ := mem_ready.1 hi
          have := (Array.getElem?_eq_some_iff.1 ho).1
          simp at this
          omega
        have := (ready_trunc L hs hin).2 hi
        rw [h0] at this
        cases this
      have := is_ready L hs (all_listed L hs h1)
      rw [h0] at this
      cases this
    · have hin : i < n + 1 := by
        obtain ⟨_, o, ho, _⟩ := mem_ready.1 hi
        have := (Array.getElem?_eq_some_iff.1 ho).1
        have h2 := L.len
        simp at this
        omega
      by_cases e : i = n
      · subst e
        have hall := last_ready L hs hi
        exact step listed a w (f + 1) hs hall (h.1 (none_trunc hall))
      · have hin' : i < n := by omega
        refine wpOp_trunc L hin' (fun a' w' h' => ?_) (h.2 i ((ready_trunc L hs hin').1 hi))
        rw [push_set (by omega)]
        exact ih _ a' w' (by simp [hs]) h'

/-- The region by its parts: all but the last operation under a condition S, then the last one. -/
theorem wp_region_last {id : Nat} {a : Act} {w : World} {S : World → Prop} (n : Nat) (hm : P.follows .mixedOrders = true) (hB : lastB l n = true) (hS : S w.drew)
    (h : S w.drew → wpAnyH P .any (l.take n).toArray (lastPost P l.toArray n Q) S n (Array.replicate n false) a w.drew) : (Code.region id l.toArray true).wp P Q a w := by
  have L := lastB_spec hB
  have h1 := wpAny_last L n (Array.replicate n false) a w.drew (by simp) (wpAny_of_held _ _ _ _ (h hS))
  refine wp_region_any hm ?_
  have e : l.toArray.size = n + 1 := by simpa using L.len
  rw [e, show Array.replicate (n + 1) false = (Array.replicate n false).push false from Array.replicate_succ]
  exact h1

/-- The last operation, as a list of one. -/
theorem last_of_list {o : Oper} {a : Act} {w : World} (ho : l.toArray[n]? = some o) (h : wpList P l.toArray Q [o] a w) : lastPost P l.toArray n Q .normal a w := by
  show wpOp P l.toArray Q n (fun a' w' => Q .normal a' w') a w
  unfold wpOp
  rw [ho]
  exact h

/-- The region by its parts: all but the last operation quiet in a family of worlds, then the last one. -/
theorem wp_region_fam_last {id : Nat} {a : Act} {w : World} {I : Type} (F : I → World) (n0 : I) (n : Nat) (o : Oper) (h0 : w.drew = F n0) (hm : P.follows .mixedOrders = true) (hB : lastB l n = true) (hL : Region.lexB .any (l.take n).toArray = true) (ho : l.toArray[n]? = some o)
    (h : wpQuiet P (l.take n).toArray (fun w' => ∃ i, w' = F i) (fun a' => ∀ w', (∃ i, w' = F i) → wpList P l.toArray Q [o] a' w') (l.take n) a) : (Code.region id l.toArray true).wp P Q a w := by
  have L := lastB_spec hB
  simp only [Region.lexB, Bool.and_eq_true] at hL
  have hn : (l.take n).length = n := by have := L.len; simp; omega
  have h2 := wpAnyQ_lex (C := fun w' => ∃ i, w' = F i) (md := .any) hL.1 (l.take n) 0 (Array.replicate (l.take n).toArray.size false) a (by simp) (by simpa using hL.2) h
  rw [List.size_toArray, hn] at h2
  have h3 := wpAny_of_quiet (Q' := lastPost P l.toArray n Q) (fun a' w' hC' h' => last_of_list ho (h' w' hC')) _ _ _ _ ⟨n0, h0⟩ h2
  have h1 := wpAny_last L n (Array.replicate n false) a w.drew (by simp) h3
  refine wp_region_any hm ?_
  have e : l.toArray.size = n + 1 := by simpa using L.len
  rw [e, show Array.replicate (n + 1) false = (Array.replicate n false).push false from Array.replicate_succ]
  exact h1
end

end Go.Proofs.Ytnkfjomnpnbidaa

namespace Go.Proofs.Ytnkfjomnpnbidaa
open Go.RowKit Go.Shelf
set_option linter.unusedVariables false

/-- A term that is stored whole into a box of one's own, and handed back. -/
theorem boxed_result {w w4 : World} {B : Nat} {c0 c1 c2 c3 : Value} (y : w4.heap[B]? = some (.cells #[c0, c1, c2, c3] 24 (0, 0))) {v0 v1 v2 v3 : Value} {T : Tm} {p : Nat → Prop} (hT : TmIn p w4 (.agg #[v0, v1, v2, v3]) T)
    (hp : ∀ b, p b → B < b ∧ b < w4.heap.size) (hB : Below w.heap.size w w4) (hw : w.heap.size ≤ B) :
    ((((w4.setCell ⟨B, 0, none⟩ v0).setCell ⟨B, 1, none⟩ v1).setCell ⟨B, 2, none⟩ v2).setCell ⟨B, 3, none⟩ v3).heap[B]? = some (.cells #[v0, v1, v2, v3] 24 (0, 0)) ∧ NewTm w T (.returned (.agg #[v0, v1, v2, v3])) ((((w4.setCell ⟨B, 0, none⟩ v0).setCell ⟨B, 1, none⟩ v1).setCell ⟨B, 2, none⟩ v2).setCell ⟨B, 3, none⟩ v3) := by
  refine ⟨four_block y v0 v1 v2 v3, _, rfl, hT.carry (fun b hb => ?_) (fun b hb => ?_), (((hB.setCell (p := ⟨B, 0, none⟩) hw v0).setCell (p := ⟨B, 1, none⟩) hw v1).setCell (p := ⟨B, 2, none⟩) hw v2).setCell (p := ⟨B, 3, none⟩) hw v3⟩
  · have := (hp b hb).1
    rw [Below.heap_setCell _ _ _ _ (by simp; omega), Below.heap_setCell _ _ _ _ (by simp; omega), Below.heap_setCell _ _ _ _ (by simp; omega), Below.heap_setCell _ _ _ _ (by simp; omega)]
  · have := hp b hb
    simp
    omega

theorem gets_of_reads {w : World} {v : Value} {e : Ending} {w' : World} (h : Reads w v e w') : Gets w v e w' := h.below

set_option maxRecDepth 100000 in
theorem wraps_at (v : Value) (T : Tm) (w : World) (hv : Has w v T) : Calls Try.prog 44 #[v] w (Gets w (.bool T.wrapsT)) := by
  obtain ⟨k, n, s, a, len, cap, ks, rfl, rfl, rfl, -⟩ := hv.form
  have hb : Below w.heap.size w (w.alloc (.cells #[.int .i64 k, .int .i64 n, .string s, .slice a ks.length cap] 24)) := (Below.refl _ w).alloc (Nat.le_refl _) _
  have HB := Lib.hid hb
  clear hb hv
  show Calls _ _ _ _ (Gets w (.bool (decide (k = 4 ∧ ks.length = 1))))
  generalize ks.length = len at HB ⊢
  by_cases h4 : k = 4
  · subst h4
    have hd : ((len : Int) == 1) = decide ((4 : Int) = 4 ∧ len = 1) := by
      by_cases h : len = 1
      · subst h; rfl
      · rw [decide_eq_false (fun e => h e.2)]; simp; omega
    rw [← hd]
    clear hd
    go_enter Try.func44, Try.ntmps44
    go_wp2_with fail
    go_ret
    exact ⟨rfl, HB.out⟩
  · rw [decide_eq_false (fun e => h4 e.1)]
    have h4' : (k == 4) = false := by simpa using h4
    go_enter Try.func44, Try.ntmps44
    go_wp2_with fail
    go_ret
    exact ⟨rfl, HB.out⟩

set_option maxRecDepth 100000 in
set_option maxHeartbeats 1000000 in
theorem whole_at (v : Value) (T : Tm) (w : World) (hv : Has w v T) (hs : T.size ≤ 1000000000000) : Calls Try.prog 58 #[v] w (NewTm w T) := by
  obtain ⟨k, n, s, a, len, cap, ks, rfl, e, -⟩ := hv.form
  obtain ⟨w2, hw2⟩ : ∃ w2, w2 = (w.alloc (.cells #[.int .i64 k, .int .i64 n, .string s, .slice a len cap] 24)).alloc (.cells #[.int .i64 0, .int .i64 0, .string (ByteArray.mk #[]), .slice none 0 0] 24) := ⟨_, rfl⟩
  have hb : Below w.heap.size w w2 := by rw [hw2]; exact ((Below.refl _ w).alloc (Nat.le_refl _) _).alloc (by simp) _
  have hx2 : w2.heap[w.heap.size + 1]? = some (.cells #[.int .i64 0, .int .i64 0, .string (ByteArray.mk #[]), .slice none 0 0] 24 (0, 0)) := by rw [hw2]; simpa using World.alloc_heap_new (w.alloc (.cells #[.int .i64 k, .int .i64 n, .string s, .slice a len cap] 24)) (.cells #[.int .i64 0, .int .i64 0, .string (ByteArray.mk #[]), .slice none 0 0] 24)
  have hsz2 : w2.heap.size = w.heap.size + 2 := by rw [hw2]; simp
  have hsh := (shift_at 0 T _ w2 (Has.below hv hb) hs).mono (R' := fun e w4 => ∃ k4 n4 s4 a4 l4 c4, e = .returned (.agg #[.int .i64 k4, .int .i64 n4, .string s4, .slice a4 l4 c4]) ∧ w4.cell? ⟨w.heap.size + 1, 0, none⟩ = some (.int .i64 0) ∧ w4.cell? ⟨w.heap.size + 1, 1, none⟩ = some (.int .i64 0) ∧ w4.cell? ⟨w.heap.size + 1, 2, none⟩ = some (.string (ByteArray.mk #[])) ∧ w4.cell? ⟨w.heap.size + 1, 3, none⟩ = some (.slice none 0 0) ∧ (∀ j, w4.frozen? ⟨w.heap.size + 1, j, none⟩ = false) ∧
      w4.heap[w.heap.size + 1]? = some (.cells #[.int .i64 0, .int .i64 0, .string (ByteArray.mk #[]), .slice none 0 0] 24 (0, 0)) ∧ TmIn (fun b => w2.heap.size ≤ b ∧ b < w4.heap.size) w4 (.agg #[.int .i64 k4, .int .i64 n4, .string s4, .slice a4 l4 c4]) T ∧ Below w.heap.size w w4) (fun e w4 h4 => by
    obtain ⟨r, rfl, hr, hb4⟩ := h4
    rw [TmIn.shift_zero hv] at hr
    obtain ⟨k4, n4, s4, a4, l4, c4, ks4, rfl, -⟩ := hr.form
    have y2 := tbox_below hx2 hb4
    obtain ⟨x0, x1, x2, x3⟩ := tbox_cells y2
    exact ⟨k4, n4, s4, a4, l4, c4, rfl, x0, x1, x2, x3, (fun j => by simp [World.frozen?, y2]), y2, hr, hb.trans (hb4.mono hb.size)⟩)
  have hz := zeroTerm
  have HS := Lib.hid hsz2
  have HW := Lib.hid hw2
  clear hv hb hx2 hsz2 e
  rw [hw2] at hsh
  clear hw2
  go_enter Try.func58, Try.ntmps58
  go_wp2_with (go_at_call 69; refine hsh.mono ?_; clear hsh; rintro e w4 ⟨k4, n4, s4, a4, l4, c4, rfl, x0, x1, x2, x3, xf, y2, hT, hB⟩)
  rw [← HW.out] at hT
  have h5 := boxed_result y2 hT (fun b hb => by have := HS.out; have := hb.1; have := hb.2; omega) hB (Nat.le_succ _)
  generalize ((((w4.setCell ⟨w.heap.size + 1, 0, none⟩ (.int .i64 k4)).setCell ⟨w.heap.size + 1, 1, none⟩ (.int .i64 n4)).setCell ⟨w.heap.size + 1, 2, none⟩ (.string s4)).setCell ⟨w.heap.size + 1, 3, none⟩ (.slice a4 l4 c4)) = w5 at h5 ⊢
  obtain ⟨hb5, h5⟩ := h5
  obtain ⟨f0, f1, f2, f3⟩ := tbox_cells hb5
  refine bodyPost_ret (v := .agg #[.int .i64 k4, .int .i64 n4, .string s4, .slice a4 l4 c4]) (by simp [results, Try.f58, go_sem, f0, f1, f2, f3]) rfl ?_
  exact h5

set_option maxRecDepth 100000 in
set_option maxHeartbeats 1000000 in
theorem level_at (v : Value) (k n : Int) (s : ByteArray) (ks : List Tm) (w : World) (b N : Nat) (hL : ChainAt w b N) (hv : Has w v (.mk k n s ks)) : Calls Try.prog 54 #[.pointer (some ⟨b, 0, none⟩), v] w (Gets w (.int .i64 (lvC N n : Nat))) := by
  obtain ⟨k_, n_, s_, a, len, cap, ks_, rfl, e, -, -, hn, -⟩ := hv.form
  injection e with e1 e2 e3 e4
  subst e1 e2 e3 e4
  obtain ⟨w2, hw2⟩ : ∃ w2, w2 = w.alloc (.cells #[.int .i64 k, .int .i64 n, .string s, .slice a len cap] 24) := ⟨_, rfl⟩
  have hb : Below w.heap.size w w2 := by rw [hw2]; exact (Below.refl _ w).alloc (Nat.le_refl _) _
  have hx2 : w2.heap[w.heap.size]? = some (.cells #[.int .i64 k, .int .i64 n, .string s, .slice a len cap] 24 (0, 0)) := by rw [hw2]; exact World.alloc_heap_new _ _
  have hL2 := hL.below hb
  have hlt : w.heap.size < w2.heap.size := (Array.getElem?_eq_some_iff.1 hx2).1
  obtain ⟨x0, x1, x2, x3⟩ := tbox_cells hx2
  obtain ⟨I, inst, F, n0, hF0, hFb, hFc⟩ := later_family w2
  have K1 := fun i => ((hFb i).cell (p := ⟨w.heap.size, 1, none⟩) hlt).trans x1
  have C1 := Lib.hid (fun i => calls_fam hFc i ((ch_len (hL2.below (hFb i))).mono fun _ _ h => gets_of_reads h))
  have C2 := Lib.hid (fun i => (ch_top (hL2.below (hFb i))).mono fun _ _ h => gets_of_reads h)
  have HB := Lib.hid (And.intro hb (And.intro hlt (And.intro hFb hw2)))
  have hN := hL.pos
  clear hb hx2 hL2 hlt x0 x1 x2 x3 hFb hFc hv hL hw2
  by_cases h0 : n < 0
  · have h0' : decide (n < 0) = true := decide_eq_true h0
    have e : lvC N n = N - 1 := by unfold lvC; rw [if_neg (by omega)]
    rw [e]
    go_enter Try.func54, Try.ntmps54
    go_wp2_with fail
    rw [← HB.out.2.2.2]
    refine wp_region_fam F n0 hF0 (by kernel_rfl) (by kernel_rfl) ?_
    clear hF0
    repeat (go_big_quiet_step (fail))
    refine wpQuiet_nil ?_
    intro _ hw'
    obtain ⟨nq, hw''⟩ := hw'
    subst hw''
    go_wp2_with (go_at_call 68; refine (C2.out nq).mono ?_; rintro e w3 ⟨rfl, hb3⟩)
    go_ret
    have h1 := HB.out.1.trans ((HB.out.2.2.1 nq).mono HB.out.1.size)
    exact ⟨rfl, h1.trans (hb3.mono h1.size)⟩
  · have h0' : decide (n < 0) = false := decide_eq_false h0
    by_cases h1 : (N : Int) ≤ n
    · have h1' : decide ((N : Int) ≤ n) = true := decide_eq_true h1
      have e : lvC N n = N - 1 := by unfold lvC; rw [if_neg (by omega)]
      rw [e]
      go_enter Try.func54, Try.ntmps54
      go_wp2_with fail
      rw [← HB.out.2.2.2]
      refine wp_region_fam F n0 hF0 (by kernel_rfl) (by kernel_rfl) ?_
      clear hF0
      repeat (go_big_quiet_step (first | (go_at_call 66; exact C1.out _)))
      refine wpQuiet_nil ?_
      intro _ hw'
      obtain ⟨nq, hw''⟩ := hw'
      subst hw''
      go_wp2_with (go_at_call 68; refine (C2.out nq).mono ?_; rintro e w3 ⟨rfl, hb3⟩)
      go_ret
      have h1 := HB.out.1.trans ((HB.out.2.2.1 nq).mono HB.out.1.size)
      exact ⟨rfl, h1.trans (hb3.mono h1.size)⟩
    · have h1' : decide ((N : Int) ≤ n) = false := decide_eq_false h1
      have e : lvC N n = n.toNat := by unfold lvC; rw [if_pos (by omega)]
      have e2 : ((n.toNat : Nat) : Int) = n := by omega
      rw [e, e2]
      go_enter Try.func54, Try.ntmps54
      go_wp2_with fail
      rw [← HB.out.2.2.2]
      refine wp_region_fam F n0 hF0 (by kernel_rfl) (by kernel_rfl) ?_
      clear hF0
      repeat (go_big_quiet_step (first | (go_at_call 66; exact C1.out _)))
      refine wpQuiet_nil ?_
      intro _ hw'
      obtain ⟨nq, hw''⟩ := hw'
      subst hw''
      have h2 := K1 nq
      go_wp2_with fail
      go_ret
      exact ⟨rfl, HB.out.1.trans ((HB.out.2.2.1 nq).mono HB.out.1.size)⟩

set_option maxRecDepth 100000 in
set_option maxHeartbeats 1000000 in
theorem put_at (v : Value) (T : Tm) (l : Int) (w : World) (hl : i64ok l) (hv : Has w v T) (hs : T.size ≤ 1000000000000) : Calls Try.prog 28 #[v, .int .i64 l] w (NewTm w (putT T l)) := by
  obtain ⟨k, n, s, a, len, cap, ks, rfl, e, -⟩ := hv.form
  obtain ⟨w2, hw2⟩ : ∃ w2, w2 = (w.alloc (.cells #[.int .i64 k, .int .i64 n, .string s, .slice a len cap] 24)).alloc (.cells #[.int .i64 0, .int .i64 0, .string (ByteArray.mk #[]), .slice none 0 0] 24) := ⟨_, rfl⟩
  have hb : Below w.heap.size w w2 := by rw [hw2]; exact ((Below.refl _ w).alloc (Nat.le_refl _) _).alloc (by simp) _
  have hx2 : w2.heap[w.heap.size + 1]? = some (.cells #[.int .i64 0, .int .i64 0, .string (ByteArray.mk #[]), .slice none 0 0] 24 (0, 0)) := by rw [hw2]; simpa using World.alloc_heap_new (w.alloc (.cells #[.int .i64 k, .int .i64 n, .string s, .slice a len cap] 24)) (.cells #[.int .i64 0, .int .i64 0, .string (ByteArray.mk #[]), .slice none 0 0] 24)
  have hsz2 : w2.heap.size = w.heap.size + 2 := by rw [hw2]; simp
  have hsh := (whole_at _ T w2 (Has.below hv hb) hs).mono (R' := fun e w4 => ∃ k4 n4 s4 a4 l4 c4, e = .returned (.agg #[.int .i64 k4, .int .i64 n4, .string s4, .slice a4 l4 c4]) ∧ (∀ o : Obj, (w4.alloc o).cell? ⟨w.heap.size + 1, 0, none⟩ = some (.int .i64 0)) ∧ (∀ o : Obj, (w4.alloc o).cell? ⟨w.heap.size + 1, 1, none⟩ = some (.int .i64 0)) ∧ (∀ o : Obj, (w4.alloc o).cell? ⟨w.heap.size + 1, 2, none⟩ = some (.string (ByteArray.mk #[]))) ∧ (∀ o : Obj, (w4.alloc o).cell? ⟨w.heap.size + 1, 3, none⟩ = some (.slice none 0 0)) ∧ (∀ (o : Obj) j, (w4.alloc o).frozen? ⟨w.heap.size + 1, j, none⟩ = false) ∧
      (∀ o : Obj, (w4.alloc o).heap[w.heap.size + 1]? = some (.cells #[.int .i64 0, .int .i64 0, .string (ByteArray.mk #[]), .slice none 0 0] 24 (0, 0))) ∧ TmIn (fun b => w2.heap.size ≤ b ∧ b < w4.heap.size) w4 (.agg #[.int .i64 k4, .int .i64 n4, .string s4, .slice a4 l4 c4]) T ∧ Below w.heap.size w w4 ∧ w2.heap.size ≤ w4.heap.size) (fun e w4 h4 => by
    obtain ⟨r, rfl, hr, hb4⟩ := h4
    obtain ⟨k4, n4, s4, a4, l4, c4, ks4, rfl, -⟩ := hr.form
    have y2 : ∀ o : Obj, (w4.alloc o).heap[w.heap.size + 1]? = some (.cells #[.int .i64 0, .int .i64 0, .string (ByteArray.mk #[]), .slice none 0 0] 24 (0, 0)) := fun o => (Below.heap_alloc _ _ _ (by have := hb4.size; omega)).trans (tbox_below hx2 hb4)
    exact ⟨k4, n4, s4, a4, l4, c4, rfl, fun o => (tbox_cells (y2 o)).1, fun o => (tbox_cells (y2 o)).2.1, fun o => (tbox_cells (y2 o)).2.2.1, fun o => (tbox_cells (y2 o)).2.2.2, (fun o j => by simp [World.frozen?, y2 o]), y2, hr, hb.trans (hb4.mono hb.size), hb4.size⟩)
  have hz := zeroTerm
  have HS := Lib.hid hsz2
  have HW := Lib.hid hw2
  clear hv hb hx2 hsz2 e
  rw [hw2] at hsh
  clear hw2
  go_enter Try.func28, Try.ntmps28
  go_wp2_with (go_at_call 58; refine hsh.mono ?_; clear hsh; rintro e w4 ⟨k4, n4, s4, a4, l4, c4, rfl, x0, x1, x2, x3, xf, y2, hT, hB, hz4⟩)
  rw [← HW.out] at hT hz4
  have hS := HS.out
  have hone : TsIn (fun b => w2.heap.size ≤ b ∧ b < (w4.alloc (.cells #[.int .i64 k4, .int .i64 n4, .string s4, .slice a4 l4 c4] 24)).heap.size) (w4.alloc (.cells #[.int .i64 k4, .int .i64 n4, .string s4, .slice a4 l4 c4] 24)) (.slice (some ⟨w4.heap.size, 0, none⟩) 1 1) [T] := by
    obtain ⟨c0', c1', c2', c3'⟩ := tbox_cells (World.alloc_heap_new w4 (.cells #[.int .i64 k4, .int .i64 n4, .string s4, .slice a4 l4 c4] 24))
    refine ⟨some ⟨w4.heap.size, 0, none⟩, 1, rfl, by simp, by unfold maxLen; omega, (fun h => by cases h), fun i hi => ?_⟩
    have hi' : i = 0 := by simp at hi; omega
    subst hi'
    exact ⟨w4.heap.size, 0, k4, n4, s4, a4, l4, c4, rfl, ⟨hz4, by simp⟩, c0', c1', c2', c3', hT.carry (fun b' hb' => Below.heap_alloc _ _ _ hb'.2) (fun b' hb' => ⟨hb'.1, by have := hb'.2; simp; omega⟩)⟩
  have h5 := boxed_result (w := w) (y2 _) (hone.term (k := 4) (n := l) (s := ByteArray.mk #[]) ⟨by decide, by decide⟩ hl (Nat.zero_le _)) (fun b hb => ⟨by have := hb.1; omega, hb.2⟩) (hB.alloc (by omega) _) (Nat.le_succ _)
  generalize (((((w4.alloc (.cells #[.int .i64 k4, .int .i64 n4, .string s4, .slice a4 l4 c4] 24)).setCell ⟨w.heap.size + 1, 0, none⟩ (.int .i64 4)).setCell ⟨w.heap.size + 1, 1, none⟩ (.int .i64 l)).setCell ⟨w.heap.size + 1, 2, none⟩ (.string (ByteArray.mk #[]))).setCell ⟨w.heap.size + 1, 3, none⟩ (.slice (some ⟨w4.heap.size, 0, none⟩) 1 1)) = w5 at h5 ⊢
  obtain ⟨hb5, h5⟩ := h5
  obtain ⟨f0, f1, f2, f3⟩ := tbox_cells hb5
  refine bodyPost_ret (v := .agg #[.int .i64 4, .int .i64 l, .string (ByteArray.mk #[]), .slice (some ⟨w4.heap.size, 0, none⟩) 1 1]) (by simp [results, Try.f28, go_sem, f0, f1, f2, f3]) rfl ?_
  exact h5

end Go.Proofs.Ytnkfjomnpnbidaa
