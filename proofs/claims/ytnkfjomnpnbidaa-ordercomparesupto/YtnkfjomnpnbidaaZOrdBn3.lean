/-
  order.compareOwn: two parts without what is in their kids.
-/
import Derived.Test.YtnkfjomnpnbidaaZShiftn3
import Derived.StillTailTactics
import Derived.Deep.QuietTactic
import Derived.BigQuiet
import Derived.Deep.Heap
namespace Go.Proofs.Ytnkfjomnpnbidaa
open Go.RowKit Go.Shelf
set_option linter.unusedVariables false

theorem has_al {w w2 : World} {v : Value} {T : Tm} (h : Has w v T) (k : Below w.heap.size w w2) : Has w2 v T := h.below k

set_option maxRecDepth 100000 in
set_option maxHeartbeats 4000000 in
theorem own_at (u v : Value) (T U : Tm) (w : World) (hu : Has w u T) (hv : Has w v U) (hs : T.size ≤ 1000000000000) (ht : U.size ≤ 1000000000000) :
    Calls Try.prog 59 #[u, v] w (Gets w (.int .i64 (ownC T.kind T.num T.name T.kids.length U.kind U.num U.name U.kids.length))) := by
  obtain ⟨k, n, s, a, len, cap, ks, rfl, rfl, rfl, hk, hn, hs', hc, hm, ha⟩ := hu.form
  obtain ⟨k', n', s', a', len', cap', ks', rfl, rfl, rfl, hk', hn', hs'', hc', hm', ha'⟩ := hv.form
  show Calls _ _ _ _ (Gets w (.int .i64 (ownC k n s ks.length k' n' s' ks'.length)))
  have hl1 : ks.length ≤ 1000000000000 := by have := Tm.length_le_sizes ks; rw [Tm.size_mk] at hs; omega
  have hl2 : ks'.length ≤ 1000000000000 := by have := Tm.length_le_sizes ks'; rw [Tm.size_mk] at ht; omega
  obtain ⟨w2, hw2⟩ : ∃ w2, w2 = (w.alloc (.cells #[.int .i64 k, .int .i64 n, .string s, .slice a ks.length cap] 24)).alloc (.cells #[.int .i64 k', .int .i64 n', .string s', .slice a' ks'.length cap'] 24) := ⟨_, rfl⟩
  have hB2 : Below w.heap.size w w2 := by rw [hw2]; exact ((Below.refl _ w).alloc (Nat.le_refl _) _).alloc (by simp) _
  have hu2 : Has w2 (.agg #[.int .i64 k, .int .i64 n, .string s, .slice a ks.length cap]) (.mk k n s ks) := hu.below hB2
  have y1 : w2.heap[w.heap.size]? = some (.cells #[.int .i64 k, .int .i64 n, .string s, .slice a ks.length cap] 24 (0, 0)) := by rw [hw2, Below.heap_alloc _ _ _ (by simp)]; exact World.alloc_heap_new w _
  have y2 : w2.heap[w.heap.size + 1]? = some (.cells #[.int .i64 k', .int .i64 n', .string s', .slice a' ks'.length cap'] 24 (0, 0)) := by rw [hw2]; have := World.alloc_heap_new (w.alloc (.cells #[.int .i64 k, .int .i64 n, .string s, .slice a ks.length cap] 24)) (.cells #[.int .i64 k', .int .i64 n', .string s', .slice a' ks'.length cap'] 24); rw [World.size_alloc] at this; exact this
  clear hu hv hs ht hk hn hs' hc hm ha hk' hn' hs'' hc' hm' ha'
  by_cases hkk : k = k'
  case neg =>
    have e : ownC k n s ks.length k' n' s' ks'.length = c3 k k' := by unfold ownC lx; rw [if_neg (fun h => hkk ((c3_zero _ _).1 h))]
    rw [e]; clear e
    have hkk' : (k == k') = false := by simpa using hkk
    clear hkk
    subst hw2
    go_enter Try.func59, Try.ntmps59
    go_wp2_with (go_at_call 70; refine (cmp_at _ _ _).mono ?_; rintro e w' ⟨rfl, rfl⟩)
    go_ret
    exact ⟨rfl, hB2⟩
  subst hkk
  have hkk' : (k == k) = true := by simp
  have eown : ownC k n s ks.length k n' s' ks'.length = if isN k then c3 n n' else lx (c3 ks.length ks'.length) (lx (if k = 3 then 0 else c3 n n') (cB s s')) := by unfold ownC; rw [c3_self]; rfl
  rw [eown]; clear eown
  have num := numbered_at _ _ w2 hu2
  clear hu2
  have hKIND : (Tm.mk k n s ks).kind = k := rfl
  rw [hKIND] at num
  clear hKIND
  by_cases hN : isN k
  case pos =>
    rw [if_pos hN]
    rw [decide_eq_true hN] at num
    clear hN
    subst hw2
    go_enter Try.func59, Try.ntmps59
    go_wp2_with (first | (go_at_call 60;  refine num.mono ?_; clear num; rintro e w4 ⟨rfl, hb⟩; have Z1 := (hb.block _ (by simp <;> omega)).trans y1; have Z2 := (hb.block _ (by simp <;> omega)).trans y2; have HB := Lib.hid (hB2.trans (hb.mono hB2.size)); obtain ⟨d0, d1, d2, d3⟩ := tbox_cells Z1; obtain ⟨e0, e1, e2, e3⟩ := tbox_cells Z2; clear Z1 Z2 y1 y2 hb hB2) | (go_at_call 71; refine (cmp64_at _ _ _).mono ?_; rintro e w' ⟨rfl, rfl⟩))
    go_ret
    exact ⟨rfl, HB.out⟩
  rw [if_neg hN]
  rw [decide_eq_false hN] at num
  clear hN
  by_cases hl : ks.length = ks'.length
  case neg =>
    have e : lx (c3 ks.length ks'.length) (lx (if k = 3 then 0 else c3 n n') (cB s s')) = c3 ks.length ks'.length := by unfold lx; rw [if_neg (fun h => hl (by have := (c3_zero _ _).1 h; omega))]
    rw [e]; clear e
    have hl' : ((ks.length : Int) == (ks'.length : Int)) = false := beq_eq_false_iff_ne.2 (by omega)
    clear hl
    subst hw2
    go_enter Try.func59, Try.ntmps59
    go_wp2_with (first | (go_at_call 60;  refine num.mono ?_; clear num; rintro e w4 ⟨rfl, hb⟩; have Z1 := (hb.block _ (by simp <;> omega)).trans y1; have Z2 := (hb.block _ (by simp <;> omega)).trans y2; have HB := Lib.hid (hB2.trans (hb.mono hB2.size)); obtain ⟨d0, d1, d2, d3⟩ := tbox_cells Z1; obtain ⟨e0, e1, e2, e3⟩ := tbox_cells Z2; clear Z1 Z2 y1 y2 hb hB2) | (go_at_call 70; refine (cmp_at _ _ _).mono ?_; rintro e w' ⟨rfl, rfl⟩))
    go_ret
    exact ⟨rfl, HB.out⟩
  have el : lx (c3 ks.length ks'.length) (lx (if k = 3 then 0 else c3 n n') (cB s s')) = lx (if k = 3 then 0 else c3 n n') (cB s s') := by rw [hl, c3_self]; rfl
  rw [el]; clear el
  have hl' : ((ks.length : Int) == (ks'.length : Int)) = true := beq_iff_eq.2 (by omega)
  clear hl
  by_cases h3 : k = 3
  case pos =>
    rw [if_pos h3]
    show Calls _ _ _ _ (Gets w (.int .i64 (cB s s')))
    subst h3
    clear hkk'
    generalize hcb : cB s s' = z
    have scmp : ∀ W, Calls Try.prog 72 #[.string s, .string s'] W fun e w' => e = .returned (.int .i64 z) ∧ w' = W := fun W => by rw [← hcb]; exact scmp_at s s' W
    clear hcb
    subst hw2
    go_enter Try.func59, Try.ntmps59
    go_wp2_with (first | (go_at_call 60;  refine num.mono ?_; clear num; rintro e w4 ⟨rfl, hb⟩; have Z1 := (hb.block _ (by simp <;> omega)).trans y1; have Z2 := (hb.block _ (by simp <;> omega)).trans y2; have HB := Lib.hid (hB2.trans (hb.mono hB2.size)); obtain ⟨d0, d1, d2, d3⟩ := tbox_cells Z1; obtain ⟨e0, e1, e2, e3⟩ := tbox_cells Z2; clear Z1 Z2 y1 y2 hb hB2) | (go_at_call 72; refine (scmp _).mono ?_; rintro e w' ⟨rfl, rfl⟩))
    go_ret
    exact ⟨rfl, HB.out⟩
  rw [if_neg h3]
  have h3' : (k != 3) = true := by simpa using h3
  by_cases hn : n = n'
  case neg =>
    have e : lx (c3 n n') (cB s s') = c3 n n' := by unfold lx; rw [if_neg (fun h => hn ((c3_zero _ _).1 h))]
    rw [e]; clear e
    have hn' : (n != n') = true := by simpa using hn
    subst hw2
    go_enter Try.func59, Try.ntmps59
    go_wp2_with (first | (go_at_call 60;  refine num.mono ?_; clear num; rintro e w4 ⟨rfl, hb⟩; have Z1 := (hb.block _ (by simp <;> omega)).trans y1; have Z2 := (hb.block _ (by simp <;> omega)).trans y2; have HB := Lib.hid (hB2.trans (hb.mono hB2.size)); obtain ⟨d0, d1, d2, d3⟩ := tbox_cells Z1; obtain ⟨e0, e1, e2, e3⟩ := tbox_cells Z2; clear Z1 Z2 y1 y2 hb hB2) | (go_at_call 71; refine (cmp64_at _ _ _).mono ?_; rintro e w' ⟨rfl, rfl⟩))
    go_ret
    exact ⟨rfl, HB.out⟩
  have en : lx (c3 n n') (cB s s') = cB s s' := by rw [hn, c3_self]; rfl
  rw [en]; clear en
  subst hn
  generalize hcb : cB s s' = z
  have scmp : ∀ W, Calls Try.prog 72 #[.string s, .string s'] W fun e w' => e = .returned (.int .i64 z) ∧ w' = W := fun W => by rw [← hcb]; exact scmp_at s s' W
  clear hcb
  subst hw2
  go_enter Try.func59, Try.ntmps59
  go_wp2_with (first | (go_at_call 60;  refine num.mono ?_; clear num; rintro e w4 ⟨rfl, hb⟩; have Z1 := (hb.block _ (by simp <;> omega)).trans y1; have Z2 := (hb.block _ (by simp <;> omega)).trans y2; have HB := Lib.hid (hB2.trans (hb.mono hB2.size)); obtain ⟨d0, d1, d2, d3⟩ := tbox_cells Z1; obtain ⟨e0, e1, e2, e3⟩ := tbox_cells Z2; clear Z1 Z2 y1 y2 hb hB2) | (go_at_call 72; refine (scmp _).mono ?_; rintro e w' ⟨rfl, rfl⟩))
  go_ret
  exact ⟨rfl, HB.out⟩
end Go.Proofs.Ytnkfjomnpnbidaa

namespace Go.Proofs.Ytnkfjomnpnbidaa
open Go.RowKit

/-- What is quiet in one world alone is still in it. -/
theorem quiet_still {P : Program} {ops : Array Oper} {w : World} {Q : Act → Prop} : ∀ (l : List Oper) (a : Act), wpQuiet P ops (fun w' => w' = w) Q l a → wpStill P ops w Q l a
  | [], _, h => h
  | o :: rest, a, h => by
    unfold wpQuiet at h
    unfold wpStill
    split at h
    · rename_i hw
      rw [if_pos hw]
      obtain ⟨v, h1, h2⟩ := h
      have h3 := h1 w rfl
      have h4 := quiet_still rest _ h2
      unfold Oper.quietAt at h3
      unfold Oper.still
      generalize (execOp a.eval o).run P w = res at h3
      cases res with
      | ok nx w' =>
        cases nx with
        | value u => obtain ⟨e1, e2⟩ := h3; subst e2; exact ⟨e1, h4⟩
        | skip => obtain ⟨e1, e2⟩ := h3; subst e2; exact ⟨e1, h4⟩
        | enter f args => exact ⟨h3.1, v, h3.2, h4⟩
        | _ => exact h3.elim
      | _ => exact h3.elim
    · rename_i hw
      rw [if_neg hw]
      exact quiet_still rest _ h

/-- A region that draws its order: its first n operations quiet, the rest in one order. -/
theorem wp_region_quiet_tail {P : Program} {id : Nat} {Q : Exit → Act → World → Prop} {a : Act} {w : World} {l : List Oper} (n : Nat) (hm : P.follows .mixedOrders = true) (hB : Region.lexTailB .any l.toArray n = true) (w1 : World) (hw : w.drew = w1)
    (h : wpQuiet P l.toArray (fun w' => w' = w1) (fun a' => wpList P l.toArray Q (l.drop n) a' w1) (l.take n) a) : (Code.region id l.toArray true).wp P Q a w := by
  subst hw
  exact wp_region_still_tail n hm hB (quiet_still _ _ h)
end Go.Proofs.Ytnkfjomnpnbidaa

namespace Go.Proofs.Ytnkfjomnpnbidaa
open Go.RowKit Go.Shelf
set_option linter.unusedVariables false

/-- The four cells of a term. -/
structure Q4 where
  k : Int
  n : Int
  s : ByteArray
  a : Option Addr
  l : Nat
  c : Nat
abbrev Q4.val (q : Q4) : Value := .agg #[.int .i64 q.k, .int .i64 q.n, .string q.s, .slice q.a q.l q.c]
/-- Two terms side by side: eight cells. -/
structure Q8 where
  p : Q4
  r : Q4
def Q8.cells (x : Q8) : List Value := [.int .i64 x.p.k, .int .i64 x.p.n, .string x.p.s, .slice x.p.a x.p.l x.p.c, .int .i64 x.r.k, .int .i64 x.r.n, .string x.r.s, .slice x.r.a x.r.l x.r.c]
theorem Q8.cells_length (x : Q8) : x.cells.length = 8 := rfl
theorem Q8.cells_one (x : Q8) : ∀ u ∈ x.cells, u.oneCell' = true := by
  intro u hu
  simp only [Q8.cells, List.mem_cons, List.not_mem_nil, or_false] at hu
  rcases hu with rfl | rfl | rfl | rfl | rfl | rfl | rfl | rfl <;> rfl
def flat8 : List Q8 → List Value
  | [] => []
  | x :: r => x.cells ++ flat8 r
theorem flat8_length : ∀ xs, (flat8 xs).length = xs.length * 8
  | [] => rfl
  | x :: r => by rw [flat8, List.length_append, flat8_length r, Q8.cells_length, List.length_cons]; omega
theorem flat8_append : ∀ xs ys, flat8 (xs ++ ys) = flat8 xs ++ flat8 ys
  | [], ys => rfl
  | x :: r, ys => by rw [List.cons_append, flat8, flat8, flat8_append r ys, List.append_assoc]
theorem flat8_top (xs : List Q8) (x : Q8) (j : Nat) : (flat8 (xs ++ [x]))[xs.length * 8 + j]? = x.cells[j]? := by
  rw [flat8_append, ← flat8_length xs, List.getElem?_append_right (by omega), Nat.add_sub_cancel_left, flat8, flat8, List.append_nil]
abbrev OwnP (w : World) (base : Nat) (v : Value) (xs : List Q8) : Prop := w.ownsRow base 80 8 v xs.length (flat8 xs)
theorem OwnP.pop {w : World} {base : Nat} {v : Value} {xs : List Q8} {x : Q8} (h : OwnP w base v (xs ++ [x])) : ∃ g cap, v = .slice (some ⟨g, 0, none⟩) (xs.length + 1) cap ∧ base ≤ g ∧ g < w.heap.size ∧ xs.length + 1 ≤ cap ∧ cap ≤ maxLen ∧ OwnP w base (.slice (some ⟨g, 0, none⟩) xs.length cap) xs ∧
    ∀ j u, x.cells[j]? = some u → w.cell? ⟨g, xs.length * 8 + j, none⟩ = some u := by
  have hl : (xs ++ [x]).length = xs.length + 1 := by simp
  unfold OwnP at h
  rw [hl] at h
  obtain ⟨h1, ⟨_, h0⟩ | ⟨g, cap, cur, rfl, hg, hh, hn, hcap, hsz, htake⟩⟩ := h
  · omega
  · refine ⟨g, cap, rfl, hg, (Array.getElem?_eq_some_iff.1 hh).1, hn, hcap, ⟨by rw [flat8_length], .inr ⟨g, cap, cur, rfl, hg, hh, by omega, hcap, hsz, ?_⟩⟩, fun j u hj => ?_⟩
    · have h3 : (cur.toList.take ((xs.length + 1) * 8)).take (xs.length * 8) = (flat8 (xs ++ [x])).take (xs.length * 8) := by rw [htake]
      rw [List.take_take, Nat.min_eq_left (by omega)] at h3
      rw [h3, flat8_append, ← flat8_length xs, List.take_left']
      rfl
    · have hj8 : j < 8 := by have := (List.getElem?_eq_some_iff.1 hj).1; rw [Q8.cells_length] at this; exact this
      have h4 := flat8_top xs x j
      rw [← htake, List.getElem?_take_of_lt (by omega), hj] at h4
      simp only [World.cell?, hh]
      simpa using h4
theorem OwnP.later {w w' : World} {base : Nat} {v : Value} {xs : List Q8} (h : OwnP w base v xs) (k : Below w.heap.size w w') : OwnP w' base v xs := by
  obtain ⟨h1, ⟨h2, h0⟩ | ⟨g, cap, cur, rfl, hg, hh, r⟩⟩ := h
  · exact ⟨h1, .inl ⟨h2, h0⟩⟩
  · exact ⟨h1, .inr ⟨g, cap, cur, rfl, hg, (k.block g (Array.getElem?_eq_some_iff.1 hh).1).trans hh, r⟩⟩
theorem OwnP.form {w : World} {base : Nat} {v : Value} {xs : List Q8} (h : OwnP w base v xs) : ∃ a c, v = .slice a xs.length c := by
  obtain ⟨h1, ⟨h2, h0⟩ | ⟨g, cap, cur, rfl, hg, hh, r⟩⟩ := h
  · exact ⟨none, 0, by rw [h0]; exact h2⟩
  · exact ⟨_, _, rfl⟩
theorem OwnP.lt {w : World} {base : Nat} {v : Value} {xs : List Q8} (h : OwnP w base v xs) : ∀ k, v.ownBlock = some k → base ≤ k ∧ k < w.heap.size := World.ownsRow.lt h
theorem cell8 {W : World} {B : Nat} {x : Q8} {z : Nat} (h : W.heap[B]? = some (.cells x.cells.toArray z (0, 0))) (j : Nat) : W.cell? ⟨B, j, none⟩ = x.cells[j]? := by simp [World.cell?, h]
theorem addr_off (B j : Nat) : (Addr.add ⟨B, 0, none⟩ j) = ⟨B, j, none⟩ := by
  by_cases e : j = 0
  · subst e; simp [Addr.add]
  · simp [Addr.add, e]
theorem infoPair : (Try.prog.info? 80).map (fun i => (i.zero, i.size, i.bytes)) = some (some (.agg #[.int .i64 0, .int .i64 0, .string (ByteArray.mk #[]), .slice none 0 0, .int .i64 0, .int .i64 0, .string (ByteArray.mk #[]), .slice none 0 0]), 8, 112) := by kernel_rfl
/-- append onto a stack of one's own, of one pair that lies in a block. -/
theorem wpList_push {w : World} {ops : Array Oper} {rest : List Oper} {o : Oper} {a : Act} {Q : Exit → Act → World → Prop} (hgd : o.guard = none) (s x : Operand)
    (ho : o.op = .call { callee := .builtin .append, args := #[s, x], argTypes := #[81, 81] })
    (base : Nat) (v : Value) (xs : List Q8) (hs : a.eval s = v) (hown : OwnP w base v xs) (B : Nat) (p : Q8) (hx : a.eval x = .slice (some ⟨B, 0, none⟩) 1 1)
    (hr : w.heap[B]? = some (.cells p.cells.toArray 80 (0, 0)))
    (hl : xs.length + 1 ≤ 1000000000000) (hbase : base ≤ w.heap.size)
    (h : ∀ v' w', OwnP w' base v' (xs ++ [p]) → w.grownBy w' v.ownBlock → (v'.ownBlock = v.ownBlock ∨ v'.ownBlock = some w.heap.size) → wpList Try.prog ops Q rest (a.put o.dst v') w') : wpList Try.prog ops Q (o :: rest) a w := by
  obtain ⟨i0, hi, hz0, hz1, hz2⟩ := info_parts infoPair
  obtain ⟨v', w', hrun, ho', hg, _, hat⟩ := run_append_own_at (P := Try.prog) w base 81 o.type 80 i0 _ 8 112 Try.underlying81 hi hz0 hz1 hz2 rfl (by decide) v xs.length (flat8 xs) hown ⟨B, 0, none⟩ 1 1 p.cells (by rw [Q8.cells_length]) (fun j u hj => by rw [addr_off, cell8 hr]; exact hj) p.cells_one (by unfold maxLen; omega) (by omega) hbase
  have h2 := h v' w' (by unfold OwnP; rw [flat8_append]; simpa [flat8] using ho') hg hat
  refine wpList_plain hgd fun _ hK => ?_
  unfold Oper.wp execOp
  simp only [ho, resolve, invoke, builtin, Sem.run_bind, Sem.run_pure, Result.andThen_ok, List.map_toArray, List.map_cons, List.map_nil, hs, hx, hrun]
  exact hK _ _ h2
/-- append onto a stack, at a step of a region that draws its order. -/
theorem step_push {w : World} {ops : Array Oper} {o : Oper} {a : Act} {K : Act → World → Prop} {Q : Exit → Act → World → Prop} {E : Prop} (hgd : o.guard = none) (s x : Operand)
    (ho : o.op = .call { callee := .builtin .append, args := #[s, x], argTypes := #[81, 81] })
    (base : Nat) (v : Value) (xs : List Q8) (hs : a.eval s = v) (hown : OwnP w base v xs) (B : Nat) (p : Q8) (hx : a.eval x = .slice (some ⟨B, 0, none⟩) 1 1)
    (hr : w.heap[B]? = some (.cells p.cells.toArray 80 (0, 0)))
    (hl : xs.length + 1 ≤ 1000000000000) (hbase : base ≤ w.heap.size)
    (h : ∀ v' w', OwnP w' base v' (xs ++ [p]) → w.grownBy w' v.ownBlock → (v'.ownBlock = v.ownBlock ∨ v'.ownBlock = some w.heap.size) → K (a.put o.dst v') w') :
    if Region.wanted o (yielded ops a.tmps) = true then Oper.wp Try.prog o a w K Q else E := by
  have hw : Region.wanted o (yielded ops a.tmps) = true := by simp [Region.wanted, hgd]
  rw [if_pos hw]
  obtain ⟨i0, hi, hz0, hz1, hz2⟩ := info_parts infoPair
  obtain ⟨v', w', hrun, ho', hg, _, hat⟩ := run_append_own_at (P := Try.prog) w base 81 o.type 80 i0 _ 8 112 Try.underlying81 hi hz0 hz1 hz2 rfl (by decide) v xs.length (flat8 xs) hown ⟨B, 0, none⟩ 1 1 p.cells (by rw [Q8.cells_length]) (fun j u hj => by rw [addr_off, cell8 hr]; exact hj) p.cells_one (by unfold maxLen; omega) (by omega) hbase
  have h2 := h v' w' (by unfold OwnP; rw [flat8_append]; simpa [flat8] using ho') hg hat
  unfold Oper.wp execOp
  simp only [ho, resolve, invoke, builtin, Sem.run_bind, Sem.run_pure, Result.andThen_ok, List.map_toArray, List.map_cons, List.map_nil, hs, hx, hrun]
  exact h2
end Go.Proofs.Ytnkfjomnpnbidaa
