/-
  A stack of terms, in memory of one's own; store.Has.
-/
import Derived.Test.YtlnggaepmclbkaaZStoBn2
import Derived.Test.YtlnggaepmclbkaaZVarsn3
namespace Go.Proofs.Ytlnggaepmclbkaa
open Go.RowKit Go.Shelf
set_option linter.unusedVariables false

/-- The four cells of a term. -/
structure C4 where
  k : Int
  n : Int
  s : ByteArray
  a : Option Addr
  l : Nat
  c : Nat
abbrev C4.val (x : C4) : Value := .agg #[.int .i64 x.k, .int .i64 x.n, .string x.s, .slice x.a x.l x.c]
def C4.cells (x : C4) : List Value := [.int .i64 x.k, .int .i64 x.n, .string x.s, .slice x.a x.l x.c]
theorem C4.cells_length (x : C4) : x.cells.length = 4 := rfl
theorem C4.cells_one (x : C4) : ∀ u ∈ x.cells, u.oneCell' = true := by
  intro u hu
  simp only [C4.cells, List.mem_cons, List.not_mem_nil, or_false] at hu
  rcases hu with rfl | rfl | rfl | rfl <;> rfl
def flat4 : List C4 → List Value
  | [] => []
  | x :: r => x.cells ++ flat4 r
theorem flat4_length : ∀ xs, (flat4 xs).length = xs.length * 4
  | [] => rfl
  | x :: r => by rw [flat4, List.length_append, flat4_length r, C4.cells_length, List.length_cons]; omega
theorem flat4_append : ∀ xs ys, flat4 (xs ++ ys) = flat4 xs ++ flat4 ys
  | [], ys => rfl
  | x :: r, ys => by rw [List.cons_append, flat4, flat4, flat4_append r ys, List.append_assoc]
theorem flat4_one : ∀ xs, ∀ u ∈ flat4 xs, u.oneCell' = true
  | [], u, h => by cases h
  | x :: r, u, h => by
    rw [flat4] at h
    rcases List.mem_append.1 h with h | h
    · exact x.cells_one u h
    · exact flat4_one r u h
theorem flat4_top (xs : List C4) (x : C4) (j : Nat) : (flat4 (xs ++ [x]))[xs.length * 4 + j]? = x.cells[j]? := by
  rw [flat4_append, ← flat4_length xs, List.getElem?_append_right (by omega), Nat.add_sub_cancel_left, flat4, flat4, List.append_nil]
abbrev OwnC (w : World) (base : Nat) (v : Value) (xs : List C4) : Prop := w.ownsRow base 24 4 v xs.length (flat4 xs)
theorem OwnC.pop {w : World} {base : Nat} {v : Value} {xs : List C4} {x : C4} (h : OwnC w base v (xs ++ [x])) : ∃ g cap, v = .slice (some ⟨g, 0, none⟩) (xs.length + 1) cap ∧ base ≤ g ∧ g < w.heap.size ∧ xs.length + 1 ≤ cap ∧ cap ≤ maxLen ∧ OwnC w base (.slice (some ⟨g, 0, none⟩) xs.length cap) xs ∧
    ∀ j u, x.cells[j]? = some u → w.cell? ⟨g, xs.length * 4 + j, none⟩ = some u := by
  have hl : (xs ++ [x]).length = xs.length + 1 := by simp
  unfold OwnC at h
  rw [hl] at h
  obtain ⟨h1, ⟨_, h0⟩ | ⟨g, cap, cur, rfl, hg, hh, hn, hcap, hsz, htake⟩⟩ := h
  · omega
  · refine ⟨g, cap, rfl, hg, (Array.getElem?_eq_some_iff.1 hh).1, hn, hcap, ⟨by rw [flat4_length], .inr ⟨g, cap, cur, rfl, hg, hh, by omega, hcap, hsz, ?_⟩⟩, fun j u hj => ?_⟩
    · have h3 : (cur.toList.take ((xs.length + 1) * 4)).take (xs.length * 4) = (flat4 (xs ++ [x])).take (xs.length * 4) := by rw [htake]
      rw [List.take_take, Nat.min_eq_left (by omega)] at h3
      rw [h3, flat4_append, ← flat4_length xs, List.take_left']
      rfl
    · have hj8 : j < 4 := by have := (List.getElem?_eq_some_iff.1 hj).1; rw [C4.cells_length] at this; exact this
      have h4 := flat4_top xs x j
      rw [← htake, List.getElem?_take_of_lt (by omega), hj] at h4
      simp only [World.cell?, hh]
      simpa using h4
theorem OwnC.later {w w' : World} {base : Nat} {v : Value} {xs : List C4} (h : OwnC w base v xs) (k : Below w.heap.size w w') : OwnC w' base v xs := by
  obtain ⟨h1, ⟨h2, h0⟩ | ⟨g, cap, cur, rfl, hg, hh, r⟩⟩ := h
  · exact ⟨h1, .inl ⟨h2, h0⟩⟩
  · exact ⟨h1, .inr ⟨g, cap, cur, rfl, hg, (k.block g (Array.getElem?_eq_some_iff.1 hh).1).trans hh, r⟩⟩
theorem OwnC.grown {w w' : World} {base : Nat} {v : Value} {xs : List C4} {row : Option Nat} (h : OwnC w base v xs) (k : w.grownBy w' row) (hr : v.ownBlock ≠ row ∨ v.ownBlock = none) : OwnC w' base v xs := by
  obtain ⟨h1, ⟨h2, h0⟩ | ⟨g, cap, cur, rfl, hg, hh, r⟩⟩ := h
  · exact ⟨h1, .inl ⟨h2, h0⟩⟩
  · refine ⟨h1, .inr ⟨g, cap, cur, rfl, hg, (k.block g (Array.getElem?_eq_some_iff.1 hh).1 (fun e => ?_)).trans hh, r⟩⟩
    rcases hr with hr | hr
    · exact hr e
    · cases hr
theorem OwnC.form {w : World} {base : Nat} {v : Value} {xs : List C4} (h : OwnC w base v xs) : ∃ a c, v = .slice a xs.length c := by
  obtain ⟨h1, ⟨h2, h0⟩ | ⟨g, cap, cur, rfl, hg, hh, r⟩⟩ := h
  · exact ⟨none, 0, by rw [h0]; exact h2⟩
  · exact ⟨_, _, rfl⟩
theorem OwnC.lt {w : World} {base : Nat} {v : Value} {xs : List C4} (h : OwnC w base v xs) : ∀ k, v.ownBlock = some k → base ≤ k ∧ k < w.heap.size := World.ownsRow.lt h
theorem addr4 (B j : Nat) : (Addr.add ⟨B, 0, none⟩ j) = ⟨B, j, none⟩ := by
  by_cases e : j = 0
  · subst e; simp [Addr.add]
  · simp [Addr.add, e]

/-- append onto a stack of one's own, of terms that lie in a row. -/
theorem wpList_pushes {w : World} {ops : Array Oper} {rest : List Oper} {o : Oper} {a : Act} {Q : Exit → Act → World → Prop} (hgd : o.guard = none) (s x : Operand)
    (ho : o.op = .call { callee := .builtin .append, args := #[s, x], argTypes := #[22, 22] })
    (base : Nat) (v : Value) (xs : List C4) (hs : a.eval s = v) (hown : OwnC w base v xs) (ad : Option Addr) (m c : Nat) (ys : List C4) (hx : a.eval x = .slice ad m c) (hm : ys.length = m) (hnone : ad = none → c = 0 ∧ m = 0)
    (hr : ∀ b, ad = some b → ∀ j u, (flat4 ys)[j]? = some u → w.cell? (b.add j) = some u)
    (hl : xs.length + m ≤ 1000000000000) (hbase : base ≤ w.heap.size)
    (h : ∀ v' w', OwnC w' base v' (xs ++ ys) → w.grownBy w' v.ownBlock → (v'.ownBlock = v.ownBlock ∨ v'.ownBlock = some w.heap.size) → wpList Try.prog ops Q rest (a.put o.dst v') w') : wpList Try.prog ops Q (o :: rest) a w := by
  obtain ⟨i0, hi, hz0, hz1, hz2⟩ := info_parts infoTerm
  have hrun : ∃ v' w', (Builtin.append_ #[22, 22] o.type #[v, .slice ad m c]).run Try.prog w = .ok v' w' ∧ OwnC w' base v' (xs ++ ys) ∧ w.grownBy w' v.ownBlock ∧ (v'.ownBlock = v.ownBlock ∨ v'.ownBlock = some w.heap.size) := by
    cases ad with
    | none =>
      obtain ⟨rfl, rfl⟩ := hnone rfl
      have hy : ys = [] := List.eq_nil_of_length_eq_zero hm
      subst hy
      exact ⟨v, w, run_append_owned_none w base 22 o.type 24 i0 4 Try.underlying22 hi v xs.length (flat4 xs) hown, by rw [List.append_nil]; exact hown, ⟨rfl, rfl, rfl, Nat.le_refl _, fun _ _ _ => rfl⟩, Or.inl rfl⟩
    | some ad =>
      obtain ⟨v', w', hrun, ho', hg, _, hat⟩ := run_append_own_at (P := Try.prog) w base 22 o.type 24 i0 _ 4 56 Try.underlying22 hi hz0 hz1 hz2 rfl (by decide) v xs.length (flat4 xs) hown ad m c (flat4 ys) (by rw [flat4_length, hm]) (hr ad rfl) (flat4_one ys) (by unfold maxLen; omega) (by omega) hbase
      refine ⟨v', w', hrun, ?_, hg, hat⟩
      unfold OwnC
      rw [flat4_append, List.length_append, hm]
      exact ho'
  obtain ⟨v', w', hrun, h1, h2, h3⟩ := hrun
  have h2 := h v' w' h1 h2 h3
  refine wpList_plain hgd fun _ hK => ?_
  unfold Oper.wp execOp
  simp only [ho, resolve, invoke, builtin, Sem.run_bind, Sem.run_pure, Result.andThen_ok, List.map_toArray, List.map_cons, List.map_nil, hs, hx, hrun]
  exact hK _ _ h2

/-- Terms in a list. -/
theorem src_cells {p : Nat → Prop} {w : World} {v : Value} {ks : List Tm} (h : TsIn p w v ks) : ∃ a cap qs, v = .slice a ks.length cap ∧ (a = none → cap = 0 ∧ ks.length = 0) ∧ qs.length = ks.length ∧ (∀ (i : Nat) (q : C4) (t : Tm), qs[i]? = some q → ks[i]? = some t → TmIn p w q.val t) ∧ ∀ ad, a = some ad → ∀ j u, (flat4 qs)[j]? = some u → w.cell? (ad.add j) = some u := by
  obtain ⟨a, cap, qs, rfl, h1, h2, h3⟩ := src_quads h
  have hx : ∀ q : Quad, q ∈ qs → ∃ x : C4, q = (x.k, x.n, x.s, .slice x.a x.l x.c) := fun q hq => by
    obtain ⟨i, hi⟩ := List.getElem?_of_mem hq
    have hlt : i < ks.length := by rw [← h2.1]; exact (List.getElem?_eq_some_iff.1 hi).1
    obtain ⟨⟨a', l', c', e⟩, -⟩ := h2.2 i q ks[i] hi (List.getElem?_eq_getElem hlt)
    exact ⟨⟨q.1, q.2.1, q.2.2.1, a', l', c'⟩, by rw [← e]⟩
  have hy : ∃ xs : List C4, qs = xs.map fun x => ((x.k, x.n, x.s, .slice x.a x.l x.c) : Quad) := by
    clear h1 h2 h3
    induction qs with
    | nil => exact ⟨[], rfl⟩
    | cons q r ih =>
      obtain ⟨x, rfl⟩ := hx q (by simp)
      obtain ⟨xs, rfl⟩ := ih fun q hq => hx q (by simp [hq])
      exact ⟨x :: xs, rfl⟩
  obtain ⟨xs, rfl⟩ := hy
  have hf : ∀ xs : List C4, flatQ (xs.map fun x => ((x.k, x.n, x.s, .slice x.a x.l x.c) : Quad)) = flat4 xs := by
    intro xs
    induction xs with
    | nil => rfl
    | cons x r ih => rw [List.map_cons, flatQ, flat4, ih]; rfl
  refine ⟨a, cap, xs, rfl, fun e => ⟨(h1 e).1, by rw [(h1 e).2]; rfl⟩, by have := h2.1; simpa using this, fun i q t hq ht => ?_, by rw [hf] at h3; exact h3⟩
  exact (h2.2 i _ t (by rw [List.getElem?_map, hq]; rfl) ht).2

/-- A term in memory that lay there. -/
structure PT (n₀ : Nat) (w : World) where
  x : C4
  T : Tm
  h : IsTm n₀ w x.val T
def totT {n₀ : Nat} {w : World} : List (PT n₀ w) → Nat
  | [] => 0
  | z :: r => z.T.size + totT r
theorem totT_append {n₀ : Nat} {w : World} : ∀ (xs ys : List (PT n₀ w)), totT (xs ++ ys) = totT xs + totT ys
  | [], ys => by simp [totT]
  | x :: r, ys => by rw [List.cons_append, totT, totT, totT_append r ys]; omega
theorem length_totT {n₀ : Nat} {w : World} : ∀ (xs : List (PT n₀ w)), xs.length ≤ totT xs
  | [] => by simp
  | x :: r => by have := length_totT r; have := x.T.size_pos; rw [List.length_cons, totT]; omega
theorem totT_map {n₀ : Nat} {w : World} : ∀ ys : List (PT n₀ w), totT ys = Tm.sizes (ys.map PT.T)
  | [] => by simp [totT, Tm.sizes_nil]
  | y :: r => by rw [totT, totT_map r, List.map_cons, Tm.sizes_cons]
/-- A list of terms, one by one. -/
theorem list_pts {n₀ : Nat} {w : World} : ∀ (qs : List C4) (ks : List Tm), qs.length = ks.length → (∀ (i : Nat) (q : C4) (t : Tm), qs[i]? = some q → ks[i]? = some t → IsTm n₀ w q.val t) → ∃ zs : List (PT n₀ w), zs.map PT.x = qs ∧ zs.map PT.T = ks
  | [], [], _, _ => ⟨[], rfl, rfl⟩
  | q :: r, t :: ts, hl, h => by
    obtain ⟨zs, h1, h2⟩ := list_pts r ts (by simpa using hl) fun i q' t' hq ht => h (i + 1) q' t' (by simpa using hq) (by simpa using ht)
    exact ⟨⟨q, t, h 0 q t rfl rfl⟩ :: zs, by rw [List.map_cons, h1], by rw [List.map_cons, h2]⟩
  | [], _ :: _, hl, _ => by simp at hl
  | _ :: _, [], hl, _ => by simp at hl
end Go.Proofs.Ytlnggaepmclbkaa

namespace Go.Proofs.Ytlnggaepmclbkaa
open Go.RowKit Go.Shelf
set_option linter.unusedVariables false

theorem unv_nat (σ : St) {P U : Tm} (h : σ.val P = some U) (vis : List Int) (hv : vis.contains P.num = false) : unv (vis ++ [P.num]) 0 σ.vs + U.size ≤ unv vis 0 σ.vs := by
  obtain ⟨-, x, hx, hs⟩ := St.val_some h
  rw [hx] at hv ⊢
  have := unv_add vis σ.vs 0 x U hs (by rw [Nat.zero_add]; exact hv)
  rw [Nat.zero_add] at this
  exact this

theorem cell_later {w w' : World} (h : Below w.heap.size w w') {a : Addr} {v : Value} (hc : w.cell? a = some v) : w'.cell? a = some v := by
  have hlt : a.block < w.heap.size := by
    unfold World.cell? at hc
    split at hc
    · rename_i hb; exact (Array.getElem?_eq_some_iff.1 hb).1
    · cases hc
  rw [World.cell?_of_block (w := w) (h.block _ hlt)]
  exact hc

theorem own8 {w w5 w8 : World} {M g m cp : Nat} {xs : List C4} {k5 n5 : Int} {s5 : ByteArray} {a5 : Option Addr} {l5 c5 : Nat} (hm : m = xs.length) (ho : OwnC (w5.alloc (.cells #[.int .i64 k5, .int .i64 n5, .string s5, .slice a5 l5 c5] 24)) w.heap.size (.slice (some ⟨g, 0, none⟩) m cp) xs) (hB : Below w.heap.size w (w5.alloc (.cells #[.int .i64 k5, .int .i64 n5, .string s5, .slice a5 l5 c5] 24))) (hM : M < w5.heap.size) (hM0 : w.heap.size ≤ M) (hgM : g ≠ M)
    (hg : ((w5.alloc (.cells #[.int .i64 k5, .int .i64 n5, .string s5, .slice a5 l5 c5] 24)).alloc (.cells #[] 66)).grownBy w8 (some M)) : (w8.cell? ⟨w5.heap.size, 0, none⟩ = some (.int .i64 k5) ∧ w8.cell? ⟨w5.heap.size, 1, none⟩ = some (.int .i64 n5) ∧ w8.cell? ⟨w5.heap.size, 2, none⟩ = some (.string s5) ∧ w8.cell? ⟨w5.heap.size, 3, none⟩ = some (.slice a5 l5 c5)) ∧
    OwnC (w8.alloc (.cells #[.int .i64 k5, .int .i64 n5, .string s5, .slice a5 l5 c5] 24)) w.heap.size (.slice (some ⟨g, 0, none⟩) m cp) xs ∧ (∀ b, some (⟨w8.heap.size, 0, none⟩ : Addr) = some b → ∀ j u, (flat4 [(⟨k5, n5, s5, a5, l5, c5⟩ : C4)])[j]? = some u → (w8.alloc (.cells #[.int .i64 k5, .int .i64 n5, .string s5, .slice a5 l5 c5] 24)).cell? (b.add j) = some u) ∧ w.heap.size ≤ (w8.alloc (.cells #[.int .i64 k5, .int .i64 n5, .string s5, .slice a5 l5 c5] 24)).heap.size ∧ Below w.heap.size w w8 := by
  have hB7 := hB.alloc hB.size (.cells #[] 66)
  have hB8 : Below w.heap.size w w8 := hB7.grown hg hB7.size (fun k e => by cases e; exact hM0)
  have g5 : w8.heap[w5.heap.size]? = some (.cells #[.int .i64 k5, .int .i64 n5, .string s5, .slice a5 l5 c5] 24 (0, 0)) := by
    rw [hg.block _ (by simp; omega) (fun e => by injection e with e; omega), Below.heap_alloc _ _ _ (by simp)]
    exact World.alloc_heap_new w5 _
  refine ⟨tbox_cells g5, ?_, ?_, ?_, hB8⟩
  · subst hm
    exact ((ho.later ((Below.refl _ _).alloc (Nat.le_refl _) _)).grown hg (.inl fun e => hgM (by injection e))).later ((Below.refl _ _).alloc (Nat.le_refl _) _)
  · intro b e j u hu
    cases e
    rw [addr4]
    have g9 := World.alloc_heap_new w8 (.cells #[.int .i64 k5, .int .i64 n5, .string s5, .slice a5 l5 c5] 24)
    have hj : (C4.cells ⟨k5, n5, s5, a5, l5, c5⟩)[j]? = some u := by simpa [flat4] using hu
    simp only [World.cell?, g9]
    simpa [C4.cells] using hj
  · have := hB8.size; simp; omega

set_option maxRecDepth 100000 in
set_option maxHeartbeats 8000000 in
open Classical in
theorem has_at10 {p : Nat → Prop} {n₀ : Nat} {w : World} {b : Nat} {V L : Value} {σ : St} (h : StAt p n₀ w b V L σ) (t : Value) (T : Tm) (hv : Has w t T) (v : Int) (hs : T.size ≤ 1000000000) :
    Calls Try.prog 36 #[.pointer (some ⟨b, 0, none⟩), t, .int .i64 v] w (Gets w (.bool (decide (Met σ v T)))) := by
  obtain ⟨k, n, s, a, len, cap, ks, rfl, eT, -⟩ := hv.form
  obtain ⟨z0, hz0⟩ : ∃ z : PT w.heap.size w, z = ⟨⟨k, n, s, a, len, cap⟩, T, hv⟩ := ⟨_, rfl⟩
  obtain ⟨w1, hw1⟩ : ∃ w1, w1 = (w.alloc (.cells #[.int .i64 k, .int .i64 n, .string s, .slice a len cap] 24)) := ⟨_, rfl⟩
  obtain ⟨w2, hw2⟩ : ∃ w2, w2 = w1.alloc (.map #[] 0) := ⟨_, rfl⟩
  obtain ⟨w3, hw3⟩ : ∃ w3, w3 = w2.alloc (.cells #[.int .i64 k, .int .i64 n, .string s, .slice a len cap] 24) := ⟨_, rfl⟩
  have s1 : w1.heap.size = w.heap.size + 1 := by rw [hw1]; simp
  have s2 : w2.heap.size = w.heap.size + 1 + 1 := by rw [hw2]; simp [s1]
  have hb1 : Below w.heap.size w w1 := by rw [hw1]; exact (Below.refl _ w).alloc (Nat.le_refl _) _
  have hb3 : Below w.heap.size w w3 := by rw [hw3, hw2]; exact (hb1.alloc hb1.size _).alloc (by rw [← hw2, s2]; omega) _
  have hm3 : w3.ownsMap Try.prog 2 (unitElem (H := Unit)) (w.heap.size + 1) 0 (.map []) := by
    have := World.ownsMap_made w1 Try.prog 2 (unitElem (H := Unit))
    rw [s1, ← hw2] at this
    rw [hw3]; exact this.alloc _
  have hr3 : OwnC w3 w.heap.size (.slice (some ⟨w.heap.size + 1 + 1, 0, none⟩) 1 1) [z0.x] := by
    refine ⟨by simp [flat4, C4.cells], .inr ⟨_, 1, z0.x.cells.toArray, rfl, by omega, ?_, Nat.le_refl _, by unfold maxLen; omega, by simp [C4.cells], by simp [flat4, C4.cells]⟩⟩
    have := World.alloc_heap_new w2 (.cells #[.int .i64 k, .int .i64 n, .string s, .slice a len cap] 24)
    rw [s2, ← hw3] at this
    rw [hz0]
    exact this
  obtain ⟨N0, hN0⟩ : ∃ N0, N0 = T.size + unv [] 0 σ.vs := ⟨_, rfl⟩
  have hN1 : N0 ≤ 100000000000 := by
    have h1 := unv_small 2000000 σ.vs 0 h.ok.small
    have h2 := h.ok.len
    have h3 : σ.vs.length * 2000000 ≤ 4096 * 2000000 := Nat.mul_le_mul_right _ h2
    omega
  have hz0T : z0.T = T := by rw [hz0]
  have HH := Lib.hid (And.intro hb3 (And.intro hm3 (And.intro hr3 (And.intro hN0 (And.intro hN1 hz0T)))))
  have HW := Lib.hid (And.intro hw3 (And.intro hw2 hw1))
  have HS := Lib.hid h
  have hmm := @run_makeMap Try.prog
  clear hv eT hz0 h hs hw1 hw2 hw3 s1 s2 hb1 hb3 hm3 hr3 hN0 hN1 hz0T
  go_enter Try.func36, Try.ntmps36
  go_wp2_with fail
  rw [← HW.out.2.2, ← HW.out.2.1, ← HW.out.1]
  go_loopg [8] N0 (fun gg r wr => ∃ (st : List (PT w.heap.size w)) (vis : List Int), OwnC wr w.heap.size r (st.map PT.x) ∧ wr.ownsMap Try.prog 2 (unitElem (H := Unit)) (w.heap.size + 1) vis.length (setV vis) ∧ Below w.heap.size w wr ∧
    Hid (SInv σ v T (st.map PT.T) vis ∧ totT st + unv vis 0 σ.vs ≤ gg ∧ vis.length + gg ≤ N0))
  case atStart =>
    refine ⟨[z0], [], HH.out.2.2.1, HH.out.2.1, HH.out.1, ?_, ?_, ?_⟩
    · show SInv σ v T [z0.T] []
      rw [HH.out.2.2.2.2.2]; exact SInv.start σ v T
    · show z0.T.size + 0 + _ ≤ _
      rw [HH.out.2.2.2.2.2]; have := HH.out.2.2.2.1; omega
    · simp
  case round =>
    obtain ⟨st, vis, hown, hmap, hB, HI⟩ := hrel
    clear HW
    rcases List.eq_nil_or_concat st with rfl | ⟨st', z, rfl⟩
    · obtain ⟨a0, c0, rfl⟩ := hown.form
      simp only [List.map_nil, List.length_nil]
      have HNO := Lib.hid (show ¬ Met σ v T from SInv.none HI.out.1)
      clear hown hmap
      go_wp2_with fail
      go_ret
      exact ⟨congrArg (fun b => Ending.returned (Value.bool b)) (decide_eq_false HNO.out).symm, hB⟩
    have hown' := hown
    simp only [List.concat_eq_append, List.map_append, List.map_cons, List.map_nil] at hown' HI
    obtain ⟨g, cp, rfl, hgb, hgs, hcp, hcm, hown2, hcell⟩ := hown'.pop
    clear hown hown'
    rw [List.length_map] at hcp hcell hown2 ⊢
    obtain ⟨⟨k1, n1, s1, a1, l1, c1⟩, T1, h1⟩ := z
    have y0 : wr.cell? ⟨g, st'.length * 4, none⟩ = some (.int .i64 k1) := hcell 0 _ rfl
    have y1 : wr.cell? ⟨g, st'.length * 4 + 1, none⟩ = some (.int .i64 n1) := hcell 1 _ rfl
    have y2 : wr.cell? ⟨g, st'.length * 4 + 2, none⟩ = some (.string s1) := hcell 2 _ rfl
    have y3 : wr.cell? ⟨g, st'.length * 4 + 3, none⟩ = some (.slice a1 l1 c1) := hcell 3 _ rfl
    have q1 : IsTm w.heap.size w (.agg #[.int .i64 k1, .int .i64 n1, .string s1, .slice a1 l1 c1]) T1 := h1
    have HI2 : Hid (SInv σ v T (st'.map PT.T ++ [T1]) vis ∧ T1.size + totT st' + unv vis 0 σ.vs ≤ gk ∧ vis.length + gk ≤ N0) := by
      refine ⟨HI.out.1, ?_, HI.out.2.2⟩
      have := HI.out.2.1
      rw [totT_append] at this
      have e : totT [(⟨⟨k1, n1, s1, a1, l1, c1⟩, T1, h1⟩ : PT w.heap.size w)] = T1.size := rfl
      omega
    have hlen := length_totT st'
    have hN0 : T1.size + totT st' + vis.length ≤ 100000000000 := by have := HI2.out.2; have := HH.out.2.2.2.2.1; omega
    have hT1p := T1.size_pos
    obtain ⟨m, hm⟩ : ∃ m, m = st'.length := ⟨_, rfl⟩
    rw [← hm] at hcp y0 y1 y2 y3 hlen ⊢
    have hm1 : m + 1 ≤ 1000000000000 := by omega
    have hm2 : (m : Int) < (m : Int) + 1 := by omega
    have hm3 : (0 : Int) < (m : Int) + 1 := by omega
    have hm4 : (0 : Int) ≤ (m : Int) := by omega
    have hm5 : IntKind.i64.wrap (m : Int) = (m : Int) := by rw [IntKind.wrap_i64]; omega
    have hm6 : m ≤ cp := by omega
    have hvm : vis.length < maxLen := by unfold maxLen; omega
    have hMlt : w.heap.size + 1 < wr.heap.size := hmap.lt
    obtain ⟨_, _, _, _, _, _, ks1, e1_, eT1, hl1, hk1, hn1, hs1, hc1, hm1', ha1⟩ := q1.form
    simp only [Value.agg.injEq, Array.mk.injEq, List.cons.injEq, Value.int.injEq, Value.string.injEq, Value.slice.injEq, true_and, and_true] at e1_
    obtain ⟨rfl, rfl, rfl, rfl, rfl, rfl⟩ := e1_
    have hkey : keyOf Try.prog 2 (.int .i64 n1) = some (.int .i64 n1) := Maps.keyOf_int_mk Try.underlying2 (WalkArith.wf_i64 hn1)
    have hbx := (Below.refl wr.heap.size wr).alloc (Nat.le_refl _) (.cells #[.int .i64 k1, .int .i64 n1, .string s1, .slice a1 l1 c1] 24)
    have hnew := World.alloc_heap_new wr (.cells #[.int .i64 k1, .int .i64 n1, .string s1, .slice a1 l1 c1] 24)
    have call : ∀ o, σ.val T1 = o → Calls Try.prog 44 #[.pointer (some ⟨b, 0, none⟩), .agg #[.int .i64 k1, .int .i64 n1, .string s1, .slice a1 l1 c1]] (wr.alloc (.cells #[.int .i64 k1, .int .i64 n1, .string s1, .slice a1 l1 c1] 24)) fun e w5 => ∃ k5 n5 s5 a5 l5 c5, e = .returned (.tuple #[.agg #[.int .i64 k5, .int .i64 n5, .string s5, .slice a5 l5 c5], .bool o.isSome]) ∧
        (w5.alloc (.cells #[.int .i64 k5, .int .i64 n5, .string s5, .slice a5 l5 c5] 24)).cell? ⟨wr.heap.size, 0, none⟩ = some (.int .i64 k1) ∧ (w5.alloc (.cells #[.int .i64 k5, .int .i64 n5, .string s5, .slice a5 l5 c5] 24)).cell? ⟨wr.heap.size, 1, none⟩ = some (.int .i64 n1) ∧ (w5.alloc (.cells #[.int .i64 k5, .int .i64 n5, .string s5, .slice a5 l5 c5] 24)).cell? ⟨wr.heap.size, 2, none⟩ = some (.string s1) ∧ (w5.alloc (.cells #[.int .i64 k5, .int .i64 n5, .string s5, .slice a5 l5 c5] 24)).cell? ⟨wr.heap.size, 3, none⟩ = some (.slice a1 l1 c1) ∧ (w5.alloc (.cells #[.int .i64 k5, .int .i64 n5, .string s5, .slice a5 l5 c5] 24)).cell? ⟨w5.heap.size, 0, none⟩ = some (.int .i64 k5) ∧ (w5.alloc (.cells #[.int .i64 k5, .int .i64 n5, .string s5, .slice a5 l5 c5] 24)).cell? ⟨w5.heap.size, 1, none⟩ = some (.int .i64 n5) ∧ (w5.alloc (.cells #[.int .i64 k5, .int .i64 n5, .string s5, .slice a5 l5 c5] 24)).cell? ⟨w5.heap.size, 2, none⟩ = some (.string s5) ∧ (w5.alloc (.cells #[.int .i64 k5, .int .i64 n5, .string s5, .slice a5 l5 c5] 24)).cell? ⟨w5.heap.size, 3, none⟩ = some (.slice a5 l5 c5) ∧ (w5.alloc (.cells #[.int .i64 k5, .int .i64 n5, .string s5, .slice a5 l5 c5] 24)).ownsMap Try.prog 2 (unitElem (H := Unit)) (w.heap.size + 1) vis.length (setV vis) ∧
          Hid (OwnC (w5.alloc (.cells #[.int .i64 k5, .int .i64 n5, .string s5, .slice a5 l5 c5] 24)) w.heap.size (.slice (some ⟨g, 0, none⟩) m cp) (st'.map PT.x) ∧ Below w.heap.size w (w5.alloc (.cells #[.int .i64 k5, .int .i64 n5, .string s5, .slice a5 l5 c5] 24)) ∧ wr.heap.size < w5.heap.size ∧ ∀ U, o = some U → IsTm w.heap.size w (.agg #[.int .i64 k5, .int .i64 n5, .string s5, .slice a5 l5 c5]) U) := by
      intro o ho
      refine (value_at (HS.out.below (hB.trans (hbx.mono hB.size))) _ T1 (IsTm.later (hB.trans (hbx.mono hB.size)) (Nat.le_trans hB.size hbx.size) q1)).mono ?_
      rintro e w5 ⟨k5, n5, s5, a5, l5, c5, rfl, hU, hb5⟩
      have hb6 := hb5.alloc hb5.size (.cells #[.int .i64 k5, .int .i64 n5, .string s5, .slice a5 l5 c5] 24)
      have g1 := tbox_below hnew hb6
      have g5 := World.alloc_heap_new w5 (.cells #[.int .i64 k5, .int .i64 n5, .string s5, .slice a5 l5 c5] 24)
      obtain ⟨p0, p1, p2, p3⟩ := tbox_cells g1
      obtain ⟨t0, t1, t2, t3⟩ := tbox_cells g5
      have hb16 : Below wr.heap.size wr (w5.alloc (.cells #[.int .i64 k5, .int .i64 n5, .string s5, .slice a5 l5 c5] 24)) := hbx.trans (hb6.mono hbx.size)
      have hbw := hB.trans (hb16.mono hB.size)
      refine ⟨k5, n5, s5, a5, l5, c5, by rw [ho], p0, p1, p2, p3, t0, t1, t2, t3, ?_, ?_, hbw, Nat.lt_of_lt_of_le (by simp) hb5.size, fun U hU' => ?_⟩
      · obtain ⟨es, ck, hh, r⟩ := hmap
        exact ⟨es, ck, (hb16.block _ hMlt).trans hh, r⟩
      · have := hown2.later hb16
        rw [hm]; exact this
      · have h5 := hU U (by rw [ho]; exact hU')
        refine h5.carry (fun c hc => ?_) (fun c hc => (HS.out.sub c hc).1)
        have hcl := (HS.out.sub c hc).1
        have h7 := hbw.block c hcl
        rw [Below.heap_alloc w5 _ c (Nat.lt_of_lt_of_le hcl (Nat.le_trans hB.size (Nat.le_trans hbx.size hb5.size)))] at h7
        exact h7.symm
    have HV := Lib.hid (And.intro q1 (And.intro hB (And.intro hlen (And.intro hN0 (And.intro hm (And.intro eT1 hl1))))))
    have hml : (st'.map PT.x).length + 1 ≤ 1000000000000 := by rw [List.length_map, ← hm]; exact hm1
    have hml0 : m = (st'.map PT.x).length := by rw [List.length_map, hm]
    have hgM : g ≠ w.heap.size + 1 := fun e => row_not_map hown2 hmap (by rw [e]; rfl)
    have HML0 := Lib.hid hml0
    clear hml0
    have HGB := Lib.hid hgb
    clear hown2 hcell HI q1 h1 hB hmap hlen hN0 hbx hnew hgs hgb hm eT1 hl1 hT1p hk1 hs1 hc1 hm1' ha1 hmm
    by_cases hb : ∃ U, σ.val T1 = some U
    · obtain ⟨U, hU⟩ := hb
      have hnum : T1.num = n1 := by rw [HV.out.2.2.2.2.2.1]; rfl
      have hcall := call (some U) hU
      clear call
      by_cases hin : vis.contains n1 = true
      · have HU := Lib.hid (And.intro hU hnum)
        clear hU hnum
        go_wp2_with (first
          | (at_lookup; refine wpList_lookup_own_unit _ rfl _ _ 62 rfl 2 66 keyed64 Try.underlying62 (zeroUnit _) (w.heap.size + 1) vis.length _ rfl hmp _ _ rfl hkey ?_; rw [has_setV, hin])
          | (go_at_call 44; refine hcall.mono ?_; clear hcall; rintro e w5 ⟨k5, n5, s5, a5, l5, c5, rfl, P0, P1, P2, P3, R0, R1, R2, R3, hmp, HZ⟩; have P0 := fun o => cell_al P0 o; have P1' := fun o => cell_al P1 o))
        have hb7 : Below w.heap.size w ((w5.alloc (.cells #[.int .i64 k5, .int .i64 n5, .string s5, .slice a5 l5 c5] 24)).alloc (.cells #[] 66)) := HZ.out.2.1.alloc HZ.out.2.1.size _
        go_roundg (totT st' + unv vis 0 σ.vs)
        case measure => have := HI2.out.2.1; have := T1.size_pos; omega
        case rel =>
          refine ⟨st', vis, ?_, hmp.alloc _, hb7, ?_, Nat.le_refl _, ?_⟩
          · have := HZ.out.1.later ((Below.refl _ (w5.alloc (.cells #[.int .i64 k5, .int .i64 n5, .string s5, .slice a5 l5 c5] 24))).alloc (Nat.le_refl _) (.cells #[] 66))
            exact this
          · exact HI2.out.1.old HU.out.1 (by rw [HU.out.2]; simpa using hin)
          · have := HI2.out.2.1; have := HI2.out.2.2; have := T1.size_pos; omega
      · have hin0 : vis.contains n1 = false := by simpa using hin
        have HU := Lib.hid (And.intro hU hnum)
        clear hU hnum hin
        go_wp2_with (first
          | (at_builtin; refine wpList_pushes rfl _ _ rfl w.heap.size (.slice (some ⟨g, 0, none⟩) m cp) (st'.map PT.x) rfl o9.out.1 (some ⟨w8.heap.size, 0, none⟩) 1 1 [⟨k5, n5, s5, a5, l5, c5⟩] rfl rfl (fun e => by cases e) o9.out.2.1 hml o9.out.2.2.1 ?_; intro v' w10 hown10 hg10 hat10)
          | (at_mapUpdate; refine wpList_mapUpdate_own _ rfl _ _ _ 62 rfl 2 66 keyed64 Try.underlying62 (unitElem (H := Unit)) (w.heap.size + 1) vis.length _ rfl (hmp.alloc _) hvm _ _ _ rfl rfl hkey _ [] unitElem_mk ?_; intro w8 hown8 hgrow8; obtain ⟨⟨u0, u1, u2, u3⟩, o9'⟩ := own8 HML0.out HZ.out.1 HZ.out.2.1 (Nat.lt_trans hMlt HZ.out.2.2.1) (Nat.le_succ _) hgM hgrow8; have o9 := Lib.hid o9'; clear o9')
          | (at_lookup; refine wpList_lookup_own_unit _ rfl _ _ 62 rfl 2 66 keyed64 Try.underlying62 (zeroUnit _) (w.heap.size + 1) vis.length _ rfl hmp _ _ rfl hkey ?_; rw [has_setV, hin0])
          | (go_at_call 44; refine hcall.mono ?_; clear hcall; rintro e w5 ⟨k5, n5, s5, a5, l5, c5, rfl, P0, P1, P2, P3, R0, R1, R2, R3, hmp, HZ⟩; have P0' := fun o => cell_al P0 o; have P1' := fun o => cell_al P1 o))
        have hUt := HZ.out.2.2.2 U rfl
        obtain ⟨zU, hzU⟩ : ∃ z : PT w.heap.size w, z = ⟨⟨k5, n5, s5, a5, l5, c5⟩, U, hUt⟩ := ⟨_, rfl⟩
        have hb8 := o9.out.2.2.2
        have hb9 := hb8.alloc hb8.size (.cells #[.int .i64 k5, .int .i64 n5, .string s5, .slice a5 l5 c5] 24)
        have hb10 : Below w.heap.size w w10 := hb9.grown hg10 hb9.size (fun k e => by cases e; exact HGB.out)
        go_roundg (totT (st' ++ [zU]) + unv (vis ++ [n1]) 0 σ.vs)
        case measure =>
          have h1 := unv_nat σ HU.out.1 vis (by rw [HU.out.2]; exact hin0)
          rw [HU.out.2] at h1
          rw [totT_append]
          have e : totT [zU] = U.size := by rw [hzU]; rfl
          have := HI2.out.2.1; have := T1.size_pos
          omega
        case rel =>
          refine ⟨st' ++ [zU], vis ++ [n1], ?_, ?_, hb10, ?_, Nat.le_refl _, ?_⟩
          · have e : (st' ++ [zU]).map PT.x = st'.map PT.x ++ [⟨k5, n5, s5, a5, l5, c5⟩] := by rw [List.map_append, hzU]; rfl
            rw [e]; exact hown10
          · rw [setV_snoc, List.length_append]
            exact (hown8.alloc (.cells #[.int .i64 k5, .int .i64 n5, .string s5, .slice a5 l5 c5] 24)).kept hg10 (fun e => hgM (by injection e with e; exact e.symm))
          · have := HI2.out.1.new HU.out.1
            rw [HU.out.2] at this
            have e : (st' ++ [zU]).map PT.T = st'.map PT.T ++ [U] := by rw [List.map_append, hzU]; rfl
            rw [e]; exact this
          · have h1 := unv_nat σ HU.out.1 vis (by rw [HU.out.2]; exact hin0)
            rw [HU.out.2] at h1
            rw [totT_append, List.length_append, List.length_singleton]
            have e : totT [zU] = U.size := by rw [hzU]; rfl
            have := HI2.out.2.1; have := HI2.out.2.2; have := T1.size_pos
            omega
    · have hnone : σ.val T1 = none := by
        cases hx : σ.val T1 with
        | none => rfl
        | some U => exact absurd ⟨U, hx⟩ hb
      have hcall := call none hnone
      have hkind : T1.kind = k1 := by rw [HV.out.2.2.2.2.2.1]; rfl
      have hnum : T1.num = n1 := by rw [HV.out.2.2.2.2.2.1]; rfl
      have HN := Lib.hid (And.intro hnone (And.intro hkind hnum))
      clear call hb hnone hkind hnum
      by_cases hk : k1 = 1
      · subst hk
        by_cases hn : n1 = v
        · subst hn
          have HM := Lib.hid (show Met σ n1 T from HI2.out.1.found HN.out.2.1 HN.out.1 HN.out.2.2)
          have hnn : (n1 == n1) = true := by simp
          go_wp2_with (go_at_call 44; refine hcall.mono ?_; clear hcall; rintro e w5 ⟨k5, n5, s5, a5, l5, c5, rfl, P0, P1, P2, P3, R0, R1, R2, R3, hmp, HZ⟩)
          go_ret
          exact ⟨congrArg (fun b => Ending.returned (Value.bool b)) (decide_eq_true HM.out).symm, HZ.out.2.1⟩
        · have hnn : (n1 == v) = false := by simpa using hn
          have HM := Lib.hid (show SInv σ v T (st'.map PT.T) vis from HI2.out.1.other HN.out.2.1 HN.out.1 (by rw [HN.out.2.2]; exact hn))
          clear hn
          go_wp2_with (go_at_call 44; refine hcall.mono ?_; clear hcall; rintro e w5 ⟨k5, n5, s5, a5, l5, c5, rfl, P0, P1, P2, P3, R0, R1, R2, R3, hmp, HZ⟩)
          go_roundg (totT st' + unv vis 0 σ.vs)
          case measure => have := HI2.out.2.1; have := T1.size_pos; omega
          case rel =>
            refine ⟨st', vis, HZ.out.1, hmp, HZ.out.2.1, HM.out, Nat.le_refl _, ?_⟩
            have := HI2.out.2.1; have := HI2.out.2.2; have := T1.size_pos; omega
      · have hk1 : (k1 == 1) = false := by simpa using hk
        by_cases hk4 : k1 = 4
        · subst hk4
          have HM := Lib.hid (show SInv σ v T (st'.map PT.T) vis from HI2.out.1.seal HN.out.2.1)
          go_wp2_with (go_at_call 44; refine hcall.mono ?_; clear hcall; rintro e w5 ⟨k5, n5, s5, a5, l5, c5, rfl, P0, P1, P2, P3, R0, R1, R2, R3, hmp, HZ⟩)
          go_roundg (totT st' + unv vis 0 σ.vs)
          case measure => have := HI2.out.2.1; have := T1.size_pos; omega
          case rel =>
            refine ⟨st', vis, HZ.out.1, hmp, HZ.out.2.1, HM.out, Nat.le_refl _, ?_⟩
            have := HI2.out.2.1; have := HI2.out.2.2; have := T1.size_pos; omega
        · have hk4' : (k1 != 4) = true := by simpa using hk4
          have HM := Lib.hid (show SInv σ v T (st'.map PT.T ++ T1.kids) vis from HI2.out.1.kids (by rw [HN.out.2.1]; exact hk) (by rw [HN.out.2.1]; exact hk4))
          have hT1e := HV.out.2.2.2.2.2.1
          have hkids : T1.kids = ks1 := by rw [hT1e]; rfl
          have q1 := HV.out.1
          rw [hT1e] at q1
          obtain ⟨ka, kc, qs, eq, hq1, hq2, hq3, hq4⟩ := src_cells q1.kids
          injection eq with eq1 eq2 eq3
          subst eq1 eq3
          obtain ⟨zs, hz1, hz2⟩ := list_pts qs ks1 hq2 hq3
          have hsz : T1.size = 1 + Tm.sizes ks1 := by rw [hT1e, Tm.size_mk]
          have hlk := Tm.length_le_sizes ks1
          have hql : qs.length = l1 := by rw [hq2, eq2]
          have hml2 : (st'.map PT.x).length + l1 ≤ 1000000000000 := by
            have := HV.out.2.2.2.1; have := HML0.out; have := HV.out.2.2.1
            omega
          have hq1' : a1 = none → c1 = 0 ∧ l1 = 0 := fun e => by rw [eq2]; exact hq1 e
          have HQ := Lib.hid (And.intro hq4 (And.intro hql (And.intro hz1 (And.intro hz2 (And.intro hsz hkids)))))
          clear hk hk4 hT1e hkids q1 hq1 hq2 hq3 hq4 hz1 hz2 hsz hlk hql eq2
          go_wp2_with (first
            | (at_builtin; refine wpList_pushes rfl _ _ rfl w.heap.size (.slice (some ⟨g, 0, none⟩) m cp) (st'.map PT.x) rfl HZ.out.1 a1 l1 c1 qs rfl HQ.out.2.1 hq1' (fun b e j u hu => cell_later HZ.out.2.1 (HQ.out.1 b e j u hu)) hml2 HZ.out.2.1.size ?_; intro v' w10 hown10 hg10 hat10)
            | (go_at_call 44; refine hcall.mono ?_; clear hcall; rintro e w5 ⟨k5, n5, s5, a5, l5, c5, rfl, P0, P1, P2, P3, R0, R1, R2, R3, hmp, HZ⟩))
          have hb10 : Below w.heap.size w w10 := HZ.out.2.1.grown hg10 HZ.out.2.1.size (fun k e => by cases e; exact HGB.out)
          have htot : totT (st' ++ zs) + 1 ≤ T1.size + totT st' := by
            rw [totT_append, totT_map zs, HQ.out.2.2.2.1, HQ.out.2.2.2.2.1]; omega
          go_roundg (totT (st' ++ zs) + unv vis 0 σ.vs)
          case measure => have := HI2.out.2.1; omega
          case rel =>
            refine ⟨st' ++ zs, vis, ?_, hmp.kept hg10 (fun e => hgM (by injection e with e; exact e.symm)), hb10, ?_, Nat.le_refl _, ?_⟩
            · rw [List.map_append, HQ.out.2.2.1]; exact hown10
            · rw [List.map_append, HQ.out.2.2.2.1, ← HQ.out.2.2.2.2.2]; exact HM.out
            · have := HI2.out.2.1; have := HI2.out.2.2; omega
end Go.Proofs.Ytlnggaepmclbkaa
