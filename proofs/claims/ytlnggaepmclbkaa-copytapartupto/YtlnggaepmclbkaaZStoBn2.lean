/-
  store: value, end, Walk, Mark, New.
-/
import Derived.Test.YtlnggaepmclbkaaZOwnTn2
namespace Go.Proofs.Ytlnggaepmclbkaa
open Go.RowKit Go.Shelf
set_option linter.unusedVariables false

theorem zeroVar (w : World) : (zeroValue 72).run Try.prog w = .ok (.agg #[.bool false, .int .i64 0, .int .i64 0, .string (ByteArray.mk #[]), .slice none 0 0]) w := by kernel_rfl
theorem zeroStore (w : World) : (zeroValue 70).run Try.prog w = .ok (.agg #[.slice none 0 0, .slice none 0 0]) w := by kernel_rfl

theorem cell_al {W : World} {a : Addr} {v : Value} (h : W.cell? a = some v) (o : Obj) : (W.alloc o).cell? a = some v := by
  have hlt : a.block < W.heap.size := by
    unfold World.cell? at h
    split at h
    · rename_i hb; exact (Array.getElem?_eq_some_iff.1 hb).1
    · cases h
  rw [World.cell?_of_block (w := W) (Below.heap_alloc W o _ hlt)]
  exact h
theorem dr_cell {W : World} {a : Addr} {v : Value} (h : W.cell? a = some v) (n : Nat) : (W.drewN n).cell? a = some v := h
theorem dr_below {m : Nat} {w W : World} (h : Below m w W) (n : Nat) : Below m w (W.drewN n) := h.trans ⟨rfl, rfl, rfl, Nat.le_refl _, fun _ _ => rfl⟩
/-- What value answers. -/
def GotV (p : Nat → Prop) (σ : St) (T : Tm) (w : World) (e : Ending) (w' : World) : Prop :=
  ∃ k n s a l c, e = .returned (.tuple #[.agg #[.int .i64 k, .int .i64 n, .string s, .slice a l c], .bool (σ.val T).isSome]) ∧ (∀ U, σ.val T = some U → TmIn p w' (.agg #[.int .i64 k, .int .i64 n, .string s, .slice a l c]) U) ∧ Below w.heap.size w w'

theorem two_cells {W : World} {B : Nat} {c0 c1 : Value} {z : Nat} (h : W.heap[B]? = some (.cells #[c0, c1] z (0, 0))) : W.cell? ⟨B, 0, none⟩ = some c0 ∧ W.cell? ⟨B, 1, none⟩ = some c1 := by
  refine ⟨?_, ?_⟩ <;> simp [World.cell?, h]

set_option maxRecDepth 100000 in
set_option maxHeartbeats 2000000 in
/-- No variable of the store. -/
theorem value_no {p : Nat → Prop} {n₀ : Nat} {w : World} {b : Nat} {V L : Value} {σ : St} (h : StAt p n₀ w b V L σ) (v : Value) (T : Tm) (hv : Has w v T) (hno : ¬ (T.kind = 1 ∧ 0 ≤ T.num ∧ T.num < (σ.vs.length : Int))) :
    Calls Try.prog 44 #[.pointer (some ⟨b, 0, none⟩), v] w (GotV p σ T w) := by
  have hnone : σ.val T = none := by
    cases hx : σ.val T with
    | none => rfl
    | some U =>
      obtain ⟨h1, x, h2, h3⟩ := St.val_some hx
      exact absurd ⟨h1, by omega, by have := (List.getElem?_eq_some_iff.1 h3).1; omega⟩ hno
  obtain ⟨k, n, s, a, len, cap, ks, rfl, rfl, -⟩ := hv.form
  obtain ⟨xs, hrow, hok⟩ := h.rV
  obtain ⟨va, vc, rfl⟩ := hrow.form
  obtain ⟨w2, hw2⟩ : ∃ w2, w2 = (w.alloc (.cells #[.int .i64 k, .int .i64 n, .string s, .slice a len cap] 24)).alloc (.cells #[.int .i64 0, .int .i64 0, .string (ByteArray.mk #[]), .slice none 0 0] 24) := ⟨_, rfl⟩
  have hb2 : Below w.heap.size w w2 := by rw [hw2]; exact ((Below.refl _ w).alloc (Nat.le_refl _) _).alloc (by simp) _
  have hx2 : w2.heap[w.heap.size + 1]? = some (.cells #[.int .i64 0, .int .i64 0, .string (ByteArray.mk #[]), .slice none 0 0] 24 (0, 0)) := by rw [hw2]; simpa using World.alloc_heap_new (w.alloc (.cells #[.int .i64 k, .int .i64 n, .string s, .slice a len cap] 24)) (.cells #[.int .i64 0, .int .i64 0, .string (ByteArray.mk #[]), .slice none 0 0] 24)
  have hx1 : w2.heap[w.heap.size]? = some (.cells #[.int .i64 k, .int .i64 n, .string s, .slice a len cap] 24 (0, 0)) := by rw [hw2]; exact (Below.heap_alloc _ _ _ (by simp)).trans (World.alloc_heap_new _ _)
  obtain ⟨c0, c1⟩ := two_cells ((hb2.block b h.lt).trans h.box)
  obtain ⟨x0, x1, x2, x3⟩ := tbox_cells hx1
  obtain ⟨z0, z1, z2, z3⟩ := tbox_cells hx2
  have zf : ∀ j, w2.frozen? ⟨w.heap.size + 1, j, none⟩ = false := fun j => by simp [World.frozen?, hx2]
  have hz := zeroTerm
  have hlen : xs.length ≤ 4096 := by rw [hok.len]; exact h.ok.len
  have hno' : ¬ (k = 1 ∧ 0 ≤ n ∧ n < (xs.length : Int)) := by rw [hok.len]; exact hno
  have HB := Lib.hid (And.intro hb2 (And.intro hx2 hnone))
  have HW := Lib.hid hw2
  clear hb2 hx2 hx1 h hrow hok hv hnone hno hw2
  obtain ⟨m, hm⟩ : ∃ m, m = xs.length := ⟨_, rfl⟩
  rw [← hm] at hlen hno' c0
  clear hm
  have fin : ∀ nq : Nat, Hid (∃ w5, w5 = (((((w2.drewN nq).setCell ⟨w.heap.size + 1, 0, none⟩ (.int .i64 0)).setCell ⟨w.heap.size + 1, 1, none⟩ (.int .i64 0)).setCell ⟨w.heap.size + 1, 2, none⟩ (.string (ByteArray.mk #[]))).setCell ⟨w.heap.size + 1, 3, none⟩ (.slice none 0 0)) ∧
      w5.heap[w.heap.size + 1]? = some (.cells #[.int .i64 0, .int .i64 0, .string (ByteArray.mk #[]), .slice none 0 0] 24 (0, 0)) ∧ Below w.heap.size w w5) := fun nq => by
    refine ⟨_, rfl, four_block (W := w2.drewN nq) HB.out.2.1 _ _ _ _, ?_⟩
    have hB : Below w.heap.size w (w2.drewN nq) := HB.out.1.trans ⟨rfl, rfl, rfl, Nat.le_refl _, fun _ _ => rfl⟩
    exact (((hB.setCell (p := ⟨w.heap.size + 1, 0, none⟩) (Nat.le_succ _) _).setCell (p := ⟨w.heap.size + 1, 1, none⟩) (Nat.le_succ _) _).setCell (p := ⟨w.heap.size + 1, 2, none⟩) (Nat.le_succ _) _).setCell (p := ⟨w.heap.size + 1, 3, none⟩) (Nat.le_succ _) _
  by_cases hk : k = 1
  case neg =>
    have hk1 : (k != 1) = true := by simpa using hk
    clear hno'
    clear hk
    go_enter Try.func44, Try.ntmps44
    go_wp2_with fail
    rw [← HW.out]
    go_quiet (fail)
    go_wp2_with fail
    obtain ⟨w5, hw5, hb5, hB5⟩ := (fin nq).out
    rw [← hw5]
    obtain ⟨f0, f1, f2, f3⟩ := tbox_cells hb5
    refine bodyPost_ret (v := .tuple #[.agg #[.int .i64 0, .int .i64 0, .string (ByteArray.mk #[]), .slice none 0 0], .bool false]) (by simp [results, Try.f44, go_sem, f0, f1, f2, f3]) rfl ?_
    exact ⟨_, _, _, _, _, _, by rw [HB.out.2.2]; rfl, fun U hU => (by rw [HB.out.2.2] at hU; cases hU), hB5⟩
  subst hk
  by_cases hn : n < 0
  case pos =>
    clear hno'
    skip
    go_enter Try.func44, Try.ntmps44
    go_wp2_with fail
    rw [← HW.out]
    go_quiet (fail)
    go_wp2_with fail
    obtain ⟨w5, hw5, hb5, hB5⟩ := (fin nq).out
    rw [← hw5]
    obtain ⟨f0, f1, f2, f3⟩ := tbox_cells hb5
    refine bodyPost_ret (v := .tuple #[.agg #[.int .i64 0, .int .i64 0, .string (ByteArray.mk #[]), .slice none 0 0], .bool false]) (by simp [results, Try.f44, go_sem, f0, f1, f2, f3]) rfl ?_
    exact ⟨_, _, _, _, _, _, by rw [HB.out.2.2]; rfl, fun U hU => (by rw [HB.out.2.2] at hU; cases hU), hB5⟩
  have hn1 : decide (n < 0) = false := decide_eq_false hn
  have hge : (m : Int) ≤ n := by
    have := fun h => hno' ⟨rfl, by omega, h⟩
    omega
  have hge1 : decide (n ≥ (m : Int)) = true := decide_eq_true hge
  clear hno' hn
  skip
  go_enter Try.func44, Try.ntmps44
  go_wp2_with fail
  rw [← HW.out]
  go_quiet (fail)
  go_wp2_with fail
  obtain ⟨w5, hw5, hb5, hB5⟩ := (fin nq).out
  rw [← hw5]
  obtain ⟨f0, f1, f2, f3⟩ := tbox_cells hb5
  refine bodyPost_ret (v := .tuple #[.agg #[.int .i64 0, .int .i64 0, .string (ByteArray.mk #[]), .slice none 0 0], .bool false]) (by simp [results, Try.f44, go_sem, f0, f1, f2, f3]) rfl ?_
  exact ⟨_, _, _, _, _, _, by rw [HB.out.2.2]; rfl, fun U hU => (by rw [HB.out.2.2] at hU; cases hU), hB5⟩

set_option maxRecDepth 100000 in
set_option maxHeartbeats 2000000 in
/-- A variable of the store. -/
theorem value_yes {p : Nat → Prop} {n₀ : Nat} {w : World} {b : Nat} {V L : Value} {σ : St} (h : StAt p n₀ w b V L σ) (v : Value) (T : Tm) (hv : Has w v T) (x : Nat) (h1 : T.kind = 1) (hx : T.num = (x : Int)) (hlt : x < σ.vs.length) :
    Calls Try.prog 44 #[.pointer (some ⟨b, 0, none⟩), v] w (GotV p σ T w) := by
  have hval : σ.val T = (σ.vs[x]?).join := by unfold St.val; rw [if_pos h1, hx, St.look_nat]
  obtain ⟨k, n, s, a, len, cap, ks, rfl, rfl, -⟩ := hv.form
  obtain ⟨xs, hrow, hok⟩ := h.rV
  have hxl : x < xs.length := by rw [hok.len]; exact hlt
  obtain ⟨q, hq⟩ : ∃ q, xs[x]? = some q := ⟨_, List.getElem?_eq_getElem hxl⟩
  obtain ⟨o, ho⟩ : ∃ o, σ.vs[x]? = some o := ⟨_, List.getElem?_eq_getElem hlt⟩
  obtain ⟨hqb, hqT⟩ := hok.at_ x q o hq ho
  rw [ho] at hval
  have hval : σ.val (.mk k n s ks) = o := hval
  obtain ⟨h1_, ⟨_, h0⟩ | ⟨g, cp, cur, rfl, hg, hh, hn, hcap, hsz, htake⟩⟩ := id hrow
  · rw [h0] at hxl; exact absurd hxl (Nat.not_lt_zero _)
  have hcell : ∀ j, j < 5 → w.cell? ⟨g, x * 5 + j, none⟩ = q.cells[j]? := fun j hj => by
    have h3 := flat5_get xs x q hq j hj
    rw [← htake, List.getElem?_take_of_lt (by omega)] at h3
    rw [← h3]
    simp [World.cell?, hh]
  have hglt := (Array.getElem?_eq_some_iff.1 hh).1
  obtain ⟨w2, hw2⟩ : ∃ w2, w2 = (w.alloc (.cells #[.int .i64 k, .int .i64 n, .string s, .slice a len cap] 24)).alloc (.cells #[.int .i64 0, .int .i64 0, .string (ByteArray.mk #[]), .slice none 0 0] 24) := ⟨_, rfl⟩
  have hb2 : Below w.heap.size w w2 := by rw [hw2]; exact ((Below.refl _ w).alloc (Nat.le_refl _) _).alloc (by simp) _
  have hx2 : w2.heap[w.heap.size + 1]? = some (.cells #[.int .i64 0, .int .i64 0, .string (ByteArray.mk #[]), .slice none 0 0] 24 (0, 0)) := by rw [hw2]; simpa using World.alloc_heap_new (w.alloc (.cells #[.int .i64 k, .int .i64 n, .string s, .slice a len cap] 24)) (.cells #[.int .i64 0, .int .i64 0, .string (ByteArray.mk #[]), .slice none 0 0] 24)
  have hx1 : w2.heap[w.heap.size]? = some (.cells #[.int .i64 k, .int .i64 n, .string s, .slice a len cap] 24 (0, 0)) := by rw [hw2]; exact (Below.heap_alloc _ _ _ (by simp)).trans (World.alloc_heap_new _ _)
  obtain ⟨c0, c1⟩ := two_cells ((hb2.block b h.lt).trans h.box)
  obtain ⟨x0, x1, x2, x3⟩ := tbox_cells hx1
  obtain ⟨z0, z1, z2, z3⟩ := tbox_cells hx2
  have zf : ∀ j, w2.frozen? ⟨w.heap.size + 1, j, none⟩ = false := fun j => by simp [World.frozen?, hx2]
  have hz := zeroTerm
  have hlen : xs.length ≤ 4096 := by rw [hok.len]; exact h.ok.len
  have y0 : w2.cell? ⟨g, x * 5, none⟩ = some (.bool q.b) := (hb2.cell (p := ⟨g, _, none⟩) hglt).trans (hcell 0 (by omega))
  have y1 : w2.cell? ⟨g, x * 5 + 1, none⟩ = some (.int .i64 q.k) := (hb2.cell (p := ⟨g, _, none⟩) hglt).trans (hcell 1 (by omega))
  have y2 : w2.cell? ⟨g, x * 5 + 2, none⟩ = some (.int .i64 q.n) := (hb2.cell (p := ⟨g, _, none⟩) hglt).trans (hcell 2 (by omega))
  have y3 : w2.cell? ⟨g, x * 5 + 3, none⟩ = some (.string q.s) := (hb2.cell (p := ⟨g, _, none⟩) hglt).trans (hcell 3 (by omega))
  have y4 : w2.cell? ⟨g, x * 5 + 4, none⟩ = some (.slice q.a q.l q.c) := (hb2.cell (p := ⟨g, _, none⟩) hglt).trans (hcell 4 (by omega))
  have h1 : k = 1 := h1
  have hx : n = (x : Int) := hx
  subst h1 hx
  have HT : ∀ U, o = some U → TmIn p w q.val U := hqT
  have hsub := fun c hc => (h.sub c hc).1
  have HB := Lib.hid (And.intro hb2 (And.intro hx2 (And.intro hval (And.intro HT (And.intro hqb hsub)))))
  have HW := Lib.hid hw2
  have hzv := zeroVar
  clear hsub hb2 hx2 hx1 h hrow hok hv hw2 HT hqT hqb hval hcell ho hq htake hsz hh hg h1_
  obtain ⟨qb, qk, qn, qs, qa, ql, qc⟩ := q
  obtain ⟨m, hm⟩ : ∃ m, m = xs.length := ⟨_, rfl⟩
  have HM := Lib.hid hm
  rw [← hm] at hlen c0 hxl
  clear hm
  have hn1 : decide ((x : Int) < 0) = false := by simp
  have hge1 : decide ((x : Int) ≥ (m : Int)) = false := by simp; omega
  have hix : (x : Int) < (m : Int) := by omega
  go_enter Try.func44, Try.ntmps44
  go_wp2_with fail
  rw [← HW.out]
  go_quiet (fail)
  go_wp2_with fail
  have c0 := dr_cell c0 nq
  have x1 := dr_cell x1 nq
  have y0 := dr_cell y0 nq
  have y1 := dr_cell y1 nq
  have y2 := dr_cell y2 nq
  have y3 := dr_cell y3 nq
  have y4 := dr_cell y4 nq
  have z0 := dr_cell z0 nq
  have z1 := dr_cell z1 nq
  have z2 := dr_cell z2 nq
  have z3 := dr_cell z3 nq
  have zf : ∀ j, (w2.drewN nq).frozen? ⟨w.heap.size + 1, j, none⟩ = false := zf
  have HX2 : Hid ((w2.drewN nq).heap[w.heap.size + 1]? = some (.cells #[.int .i64 0, .int .i64 0, .string (ByteArray.mk #[]), .slice none 0 0] 24 (0, 0))) := HB.out.2.1
  have HB3 : Hid (Below w.heap.size w (w2.drewN nq)) := dr_below HB.out.1 nq
  clear x0 x2 x3 c1
  generalize w2.drewN nq = w3 at c0 x1 y0 y1 y2 y3 y4 z0 z1 z2 z3 zf HX2 HB3 ⊢
  have c0' := fun o => cell_al c0 o
  have x1' := fun o => cell_al x1 o
  have y0' := fun o => cell_al y0 o
  have y1' := fun o => cell_al y1 o
  have y2' := fun o => cell_al y2 o
  have y3' := fun o => cell_al y3 o
  have y4' := fun o => cell_al y4 o
  go_region
  clear c0 x1 y0 y1 y2 y3 y4 c0' x1' y0' y1' y2' y3' y4'
  obtain ⟨w4, hw4⟩ : ∃ w4, w4 = (w3.alloc (.cells #[.bool qb, .int .i64 qk, .int .i64 qn, .string qs, .slice qa ql qc] 72)).drew := ⟨_, rfl⟩
  have b34 : Below w3.heap.size w3 w4 := by rw [hw4]; exact (((Below.refl _ w3).alloc (Nat.le_refl _) _)).drew
  have hn4 : w4.heap[w3.heap.size]? = some (.cells #[.bool qb, .int .i64 qk, .int .i64 qn, .string qs, .slice qa ql qc] 72 (0, 0)) := by rw [hw4]; exact World.alloc_heap_new w3 _
  have hx4 := tbox_below HX2.out b34
  obtain ⟨z0, z1, z2, z3⟩ := tbox_cells hx4
  have zf : ∀ j, w4.frozen? ⟨w.heap.size + 1, j, none⟩ = false := fun j => by simp [World.frozen?, hx4]
  have u0 : w4.cell? ⟨w3.heap.size, 0, none⟩ = some (.bool qb) := by simp [World.cell?, hn4]
  have u1 : w4.cell? ⟨w3.heap.size, 1, none⟩ = some (.int .i64 qk) := by simp [World.cell?, hn4]
  have u2 : w4.cell? ⟨w3.heap.size, 2, none⟩ = some (.int .i64 qn) := by simp [World.cell?, hn4]
  have u3 : w4.cell? ⟨w3.heap.size, 3, none⟩ = some (.string qs) := by simp [World.cell?, hn4]
  have u4 : w4.cell? ⟨w3.heap.size, 4, none⟩ = some (.slice qa ql qc) := by simp [World.cell?, hn4]
  have hne : w.heap.size + 1 ≠ w3.heap.size := Nat.ne_of_lt (Array.getElem?_eq_some_iff.1 HX2.out).1
  have HB4 : Hid (Below w.heap.size w w4) := HB3.out.trans (b34.mono HB3.out.size)
  have HX4 := Lib.hid hx4
  rw [← hw4]
  clear hw4 hn4 hx4 b34
  generalize w3.heap.size = B3 at *
  go_wp2_with fail
  go_region
  go_wp2_with fail
  have hb5 := four_block HX4.out (.int .i64 qk) (.int .i64 qn) (.string qs) (.slice qa ql qc)
  have hB5 := (((HB4.out.setCell (p := ⟨w.heap.size + 1, 0, none⟩) (Nat.le_succ _) (.int .i64 qk)).setCell (p := ⟨w.heap.size + 1, 1, none⟩) (Nat.le_succ _) (.int .i64 qn)).setCell (p := ⟨w.heap.size + 1, 2, none⟩) (Nat.le_succ _) (.string qs)).setCell (p := ⟨w.heap.size + 1, 3, none⟩) (Nat.le_succ _) (.slice qa ql qc)
  have hB5 := hB5.drew
  obtain ⟨w5, hw5⟩ : ∃ w5, w5 = ((((w4.setCell ⟨w.heap.size + 1, 0, none⟩ (.int .i64 qk)).setCell ⟨w.heap.size + 1, 1, none⟩ (.int .i64 qn)).setCell ⟨w.heap.size + 1, 2, none⟩ (.string qs)).setCell ⟨w.heap.size + 1, 3, none⟩ (.slice qa ql qc)).drew := ⟨_, rfl⟩
  have hb5 : w5.heap[w.heap.size + 1]? = some (.cells #[.int .i64 qk, .int .i64 qn, .string qs, .slice qa ql qc] 24 (0, 0)) := by rw [hw5]; exact hb5
  rw [← hw5] at hB5 ⊢
  obtain ⟨f0, f1, f2, f3⟩ := tbox_cells hb5
  refine bodyPost_ret (v := .tuple #[.agg #[.int .i64 qk, .int .i64 qn, .string qs, .slice qa ql qc], .bool qb]) (by simp [results, Try.f44, go_sem, f0, f1, f2, f3]) rfl ?_
  have hval := HB.out.2.2.1
  have hqb : qb = o.isSome := HB.out.2.2.2.2.1
  have hHT := HB.out.2.2.2.1
  refine ⟨_, _, _, _, _, _, by rw [hval, hqb], fun U hU => ?_, hB5⟩
  exact (hHT U (by rw [← hval]; exact hU)).carry (fun c hc => hB5.block c (HB.out.2.2.2.2.2 c hc)) fun c hc => hc

theorem value_at {p : Nat → Prop} {n₀ : Nat} {w : World} {b : Nat} {V L : Value} {σ : St} (h : StAt p n₀ w b V L σ) (v : Value) (T : Tm) (hv : Has w v T) :
    Calls Try.prog 44 #[.pointer (some ⟨b, 0, none⟩), v] w (GotV p σ T w) := by
  by_cases hy : T.kind = 1 ∧ 0 ≤ T.num ∧ T.num < (σ.vs.length : Int)
  · exact value_yes h v T hv T.num.toNat hy.1 (by omega) (by omega)
  · exact value_no h v T hv hy
end Go.Proofs.Ytlnggaepmclbkaa

namespace Go.Proofs.Ytlnggaepmclbkaa
open Go.RowKit Go.Shelf
set_option linter.unusedVariables false

/-- A term, somewhere. -/
def GotT (q : Nat → Prop) (T : Tm) (w : World) (e : Ending) (w' : World) : Prop :=
  ∃ k n s a l c, e = .returned (.agg #[.int .i64 k, .int .i64 n, .string s, .slice a l c]) ∧ TmIn q w' (.agg #[.int .i64 k, .int .i64 n, .string s, .slice a l c]) T ∧ Below w.heap.size w w'

theorem EndsN.look {σ : St} {n : Nat} {T X : Tm} (h : EndsN σ n T X) : (σ.val T = none ∧ X = T) ∨ ∃ m U, n = m + 1 ∧ σ.val T = some U ∧ EndsN σ m U X := by
  cases h with
  | stop h => exact .inl ⟨h, rfl⟩
  | step h g => exact .inr ⟨_, _, rfl, h, g⟩

set_option maxRecDepth 100000 in
set_option maxHeartbeats 4000000 in
theorem end_at {p : Nat → Prop} {n₀ : Nat} {w : World} {b : Nat} {V L : Value} {σ : St} (h : StAt p n₀ w b V L σ) (v : Value) (T : Tm) (q : Nat → Prop) (hpq : ∀ k, p k → q k) (hq : ∀ k, q k → k < w.heap.size) (hv : TmIn q w v T) :
    Calls Try.prog 39 #[.pointer (some ⟨b, 0, none⟩), v] w (GotT q (σ.fin T) w) := by
  obtain ⟨k, n, s, a, len, cap, ks, rfl, e, -⟩ := hv.form
  obtain ⟨N, hN⟩ := h.ok.ranked.fin T
  obtain ⟨w2, hw2⟩ : ∃ w2, w2 = (w.alloc (.cells #[.int .i64 k, .int .i64 n, .string s, .slice a len cap] 24)).alloc (.cells #[.int .i64 0, .int .i64 0, .string (ByteArray.mk #[]), .slice none 0 0] 24) := ⟨_, rfl⟩
  have hb2 : Below w.heap.size w w2 := by rw [hw2]; exact ((Below.refl _ w).alloc (Nat.le_refl _) _).alloc (by simp) _
  have hx2 : w2.heap[w.heap.size + 1]? = some (.cells #[.int .i64 0, .int .i64 0, .string (ByteArray.mk #[]), .slice none 0 0] 24 (0, 0)) := by rw [hw2]; simpa using World.alloc_heap_new (w.alloc (.cells #[.int .i64 k, .int .i64 n, .string s, .slice a len cap] 24)) (.cells #[.int .i64 0, .int .i64 0, .string (ByteArray.mk #[]), .slice none 0 0] 24)
  have hx1 : w2.heap[w.heap.size]? = some (.cells #[.int .i64 k, .int .i64 n, .string s, .slice a len cap] 24 (0, 0)) := by rw [hw2]; exact (Below.heap_alloc _ _ _ (by simp)).trans (World.alloc_heap_new _ _)
  have H2 := h.below hb2
  have hT2 : TmIn q w2 (.agg #[.int .i64 k, .int .i64 n, .string s, .slice a len cap]) T := hv.carry (fun c hc => hb2.block c (hq c hc)) fun c hc => hc
  have HH := Lib.hid (And.intro hb2 (And.intro hx2 (And.intro hx1 (And.intro hT2 hN))))
  have HW := Lib.hid hw2
  generalize σ.fin T = X at *
  have hz := zeroTerm
  have HS := Lib.hid h
  clear hv h e hb2 hx2 hx1 H2 hT2 hw2
  go_enter Try.func39, Try.ntmps39
  go_wp2_with fail
  rw [← HW.out]
  go_loopg [] N (fun gg wr => ∃ k n s a l c T', wr.heap[w.heap.size]? = some (.cells #[.int .i64 k, .int .i64 n, .string s, .slice a l c] 24 (0, 0)) ∧ wr.heap[w.heap.size + 1]? = some (.cells #[.int .i64 0, .int .i64 0, .string (ByteArray.mk #[]), .slice none 0 0] 24 (0, 0)) ∧
    TmIn q wr (.agg #[.int .i64 k, .int .i64 n, .string s, .slice a l c]) T' ∧ EndsN σ gg T' X ∧ Below w.heap.size w wr)
  case atStart => exact ⟨k, n, s, a, len, cap, T, HH.out.2.2.1, HH.out.2.1, HH.out.2.2.2.1, HH.out.2.2.2.2, HH.out.1⟩
  case round =>
    obtain ⟨k1, n1, s1, a1, l1, c1, T1, hy1, hy2, hT, hE, hB⟩ := hrel
    obtain ⟨x0, x1, x2, x3⟩ := tbox_cells hy1
    have hcall := value_at (HS.out.below hB) _ T1 (hT.carry (fun _ _ => rfl) fun c hc => Nat.lt_of_lt_of_le (hq c hc) hB.size)
    have g3 : Hid (wr.heap[w.heap.size]? = some (.cells #[.int .i64 k1, .int .i64 n1, .string s1, .slice a1 l1 c1] 24 (0, 0)) ∧ wr.heap[w.heap.size + 1]? = some (.cells #[.int .i64 0, .int .i64 0, .string (ByteArray.mk #[]), .slice none 0 0] 24 (0, 0))) := ⟨hy1, hy2⟩
    have call : ∀ o, σ.val T1 = o → Calls Try.prog 44 #[.pointer (some ⟨b, 0, none⟩), .agg #[.int .i64 k1, .int .i64 n1, .string s1, .slice a1 l1 c1]] wr fun e w5 => ∃ k5 n5 s5 a5 l5 c5, e = .returned (.tuple #[.agg #[.int .i64 k5, .int .i64 n5, .string s5, .slice a5 l5 c5], .bool o.isSome]) ∧
        (w5.alloc (.cells #[.int .i64 k5, .int .i64 n5, .string s5, .slice a5 l5 c5] 24)).cell? ⟨w.heap.size, 0, none⟩ = some (.int .i64 k1) ∧ (w5.alloc (.cells #[.int .i64 k5, .int .i64 n5, .string s5, .slice a5 l5 c5] 24)).cell? ⟨w.heap.size, 1, none⟩ = some (.int .i64 n1) ∧ (w5.alloc (.cells #[.int .i64 k5, .int .i64 n5, .string s5, .slice a5 l5 c5] 24)).cell? ⟨w.heap.size, 2, none⟩ = some (.string s1) ∧ (w5.alloc (.cells #[.int .i64 k5, .int .i64 n5, .string s5, .slice a5 l5 c5] 24)).cell? ⟨w.heap.size, 3, none⟩ = some (.slice a1 l1 c1) ∧
          (w5.alloc (.cells #[.int .i64 k5, .int .i64 n5, .string s5, .slice a5 l5 c5] 24)).cell? ⟨w.heap.size + 1, 0, none⟩ = some (.int .i64 0) ∧ (w5.alloc (.cells #[.int .i64 k5, .int .i64 n5, .string s5, .slice a5 l5 c5] 24)).cell? ⟨w.heap.size + 1, 1, none⟩ = some (.int .i64 0) ∧ (w5.alloc (.cells #[.int .i64 k5, .int .i64 n5, .string s5, .slice a5 l5 c5] 24)).cell? ⟨w.heap.size + 1, 2, none⟩ = some (.string (ByteArray.mk #[])) ∧ (w5.alloc (.cells #[.int .i64 k5, .int .i64 n5, .string s5, .slice a5 l5 c5] 24)).cell? ⟨w.heap.size + 1, 3, none⟩ = some (.slice none 0 0) ∧ (∀ j, (w5.alloc (.cells #[.int .i64 k5, .int .i64 n5, .string s5, .slice a5 l5 c5] 24)).frozen? ⟨w.heap.size + 1, j, none⟩ = false) ∧ (∀ j, (w5.alloc (.cells #[.int .i64 k5, .int .i64 n5, .string s5, .slice a5 l5 c5] 24)).frozen? ⟨w.heap.size, j, none⟩ = false) ∧
          (w5.alloc (.cells #[.int .i64 k5, .int .i64 n5, .string s5, .slice a5 l5 c5] 24)).cell? ⟨w5.heap.size, 0, none⟩ = some (.int .i64 k5) ∧ (w5.alloc (.cells #[.int .i64 k5, .int .i64 n5, .string s5, .slice a5 l5 c5] 24)).cell? ⟨w5.heap.size, 1, none⟩ = some (.int .i64 n5) ∧ (w5.alloc (.cells #[.int .i64 k5, .int .i64 n5, .string s5, .slice a5 l5 c5] 24)).cell? ⟨w5.heap.size, 2, none⟩ = some (.string s5) ∧ (w5.alloc (.cells #[.int .i64 k5, .int .i64 n5, .string s5, .slice a5 l5 c5] 24)).cell? ⟨w5.heap.size, 3, none⟩ = some (.slice a5 l5 c5) ∧
          Hid ((w5.alloc (.cells #[.int .i64 k5, .int .i64 n5, .string s5, .slice a5 l5 c5] 24)).heap[w.heap.size]? = some (.cells #[.int .i64 k1, .int .i64 n1, .string s1, .slice a1 l1 c1] 24 (0, 0)) ∧ (w5.alloc (.cells #[.int .i64 k5, .int .i64 n5, .string s5, .slice a5 l5 c5] 24)).heap[w.heap.size + 1]? = some (.cells #[.int .i64 0, .int .i64 0, .string (ByteArray.mk #[]), .slice none 0 0] 24 (0, 0)) ∧ Below wr.heap.size wr (w5.alloc (.cells #[.int .i64 k5, .int .i64 n5, .string s5, .slice a5 l5 c5] 24)) ∧ ∀ U, o = some U → TmIn p (w5.alloc (.cells #[.int .i64 k5, .int .i64 n5, .string s5, .slice a5 l5 c5] 24)) (.agg #[.int .i64 k5, .int .i64 n5, .string s5, .slice a5 l5 c5]) U) := by
      intro o ho
      refine hcall.mono ?_
      rintro e w5 ⟨k5, n5, s5, a5, l5, c5, rfl, hU, hb5⟩
      have hb6 := hb5.alloc hb5.size (.cells #[.int .i64 k5, .int .i64 n5, .string s5, .slice a5 l5 c5] 24)
      have g1 := tbox_below g3.out.1 hb6
      have g2 := tbox_below g3.out.2 hb6
      have g5 := World.alloc_heap_new w5 (.cells #[.int .i64 k5, .int .i64 n5, .string s5, .slice a5 l5 c5] 24)
      obtain ⟨p0, p1, p2, p3⟩ := tbox_cells g1
      obtain ⟨r0, r1, r2, r3⟩ := tbox_cells g2
      obtain ⟨t0, t1, t2, t3⟩ := tbox_cells g5
      refine ⟨k5, n5, s5, a5, l5, c5, by rw [ho], p0, p1, p2, p3, r0, r1, r2, r3, (fun j => by simp [World.frozen?, g2]), (fun j => by simp [World.frozen?, g1]), t0, t1, t2, t3, g1, g2, hb6, fun U hU' => ?_⟩
      exact (hU U (by rw [ho]; exact hU')).carry (fun c hc => Below.heap_alloc w5 _ c (Nat.lt_of_lt_of_le (hq c (hpq c hc)) (Nat.le_trans hB.size hb5.size))) fun c hc => hc
    have HV := Lib.hid (And.intro hT hB)
    clear hy1 hy2 hT hB hcall g3
    rcases hE.look with ⟨hval, hX⟩ | ⟨m, U, rfl, hval, hE2⟩
    · have hcall := call none hval
      have HX := Lib.hid hX
      clear hval hX call hE
      go_wp2_with (go_at_call 44; refine hcall.mono ?_; clear hcall; rintro e w5 ⟨k5, n5, s5, a5, l5, c5, rfl, p0, p1, p2, p3, r0, r1, r2, r3, rf, pf, t0, t1, t2, t3, HZ⟩)
      obtain ⟨w6, hw6⟩ : ∃ w6, w6 = (w5.alloc (.cells #[.int .i64 k5, .int .i64 n5, .string s5, .slice a5 l5 c5] 24)) := ⟨_, rfl⟩
      rw [← hw6] at HZ ⊢
      have hb6 : Below w.heap.size w w6 := HV.out.2.trans (HZ.out.2.2.1.mono HV.out.2.size)
      have hb5 := four_block HZ.out.2.1 (.int .i64 k1) (.int .i64 n1) (.string s1) (.slice a1 l1 c1)
      have hB5 := (((hb6.setCell (p := ⟨w.heap.size + 1, 0, none⟩) (Nat.le_succ _) (.int .i64 k1)).setCell (p := ⟨w.heap.size + 1, 1, none⟩) (Nat.le_succ _) (.int .i64 n1)).setCell (p := ⟨w.heap.size + 1, 2, none⟩) (Nat.le_succ _) (.string s1)).setCell (p := ⟨w.heap.size + 1, 3, none⟩) (Nat.le_succ _) (.slice a1 l1 c1)
      generalize (((w6.setCell ⟨w.heap.size + 1, 0, none⟩ (.int .i64 k1)).setCell ⟨w.heap.size + 1, 1, none⟩ (.int .i64 n1)).setCell ⟨w.heap.size + 1, 2, none⟩ (.string s1)).setCell ⟨w.heap.size + 1, 3, none⟩ (.slice a1 l1 c1) = w7 at hb5 hB5 ⊢
      obtain ⟨f0, f1, f2, f3⟩ := tbox_cells hb5
      refine bodyPost_ret (v := .agg #[.int .i64 k1, .int .i64 n1, .string s1, .slice a1 l1 c1]) (by simp [results, Try.f39, go_sem, f0, f1, f2, f3]) rfl ?_
      have hX := HX.out
      rw [hX]
      exact ⟨_, _, _, _, _, _, rfl, HV.out.1.carry (fun c hc => by rw [hB5.block c (hq c hc), HV.out.2.block c (hq c hc)]) fun c hc => hc, hB5⟩
    · have hcall := call (some U) hval
      have HE := Lib.hid hE2
      clear hval hE2 call hE
      go_wp2_with (go_at_call 44; refine hcall.mono ?_; clear hcall; rintro e w5 ⟨k5, n5, s5, a5, l5, c5, rfl, p0, p1, p2, p3, r0, r1, r2, r3, rf, pf, t0, t1, t2, t3, HZ⟩)
      obtain ⟨w6, hw6⟩ : ∃ w6, w6 = (w5.alloc (.cells #[.int .i64 k5, .int .i64 n5, .string s5, .slice a5 l5 c5] 24)) := ⟨_, rfl⟩
      rw [← hw6] at HZ ⊢
      have hb6 : Below w.heap.size w w6 := HV.out.2.trans (HZ.out.2.2.1.mono HV.out.2.size)
      have hb5 := four_block HZ.out.1 (.int .i64 k5) (.int .i64 n5) (.string s5) (.slice a5 l5 c5)
      have hB5 := (((hb6.setCell (p := ⟨w.heap.size, 0, none⟩) (Nat.le_refl _) (.int .i64 k5)).setCell (p := ⟨w.heap.size, 1, none⟩) (Nat.le_refl _) (.int .i64 n5)).setCell (p := ⟨w.heap.size, 2, none⟩) (Nat.le_refl _) (.string s5)).setCell (p := ⟨w.heap.size, 3, none⟩) (Nat.le_refl _) (.slice a5 l5 c5)
      have ho : ∀ c, c ≠ w.heap.size → ((((w6.setCell ⟨w.heap.size, 0, none⟩ (.int .i64 k5)).setCell ⟨w.heap.size, 1, none⟩ (.int .i64 n5)).setCell ⟨w.heap.size, 2, none⟩ (.string s5)).setCell ⟨w.heap.size, 3, none⟩ (.slice a5 l5 c5)).heap[c]? = w6.heap[c]? := fun c hc => by
        rw [Below.heap_setCell _ _ _ _ (by simpa using hc), Below.heap_setCell _ _ _ _ (by simpa using hc), Below.heap_setCell _ _ _ _ (by simpa using hc), Below.heap_setCell _ _ _ _ (by simpa using hc)]
      generalize (((w6.setCell ⟨w.heap.size, 0, none⟩ (.int .i64 k5)).setCell ⟨w.heap.size, 1, none⟩ (.int .i64 n5)).setCell ⟨w.heap.size, 2, none⟩ (.string s5)).setCell ⟨w.heap.size, 3, none⟩ (.slice a5 l5 c5) = w7 at hb5 hB5 ho ⊢
      go_roundg m
      case measure => omega
      case rel => exact ⟨k5, n5, s5, a5, l5, c5, U, hb5, (ho _ (by omega)).trans HZ.out.2.1, (HZ.out.2.2.2 U rfl).carry (fun c hc => ho c (Nat.ne_of_lt (hq c (hpq c hc)))) (fun c hc => hpq c hc), HE.out, hB5⟩

end Go.Proofs.Ytlnggaepmclbkaa
