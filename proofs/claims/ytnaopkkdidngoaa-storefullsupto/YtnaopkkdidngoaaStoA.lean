/-
  Stores in memory; store.whole, value, end, Walk, Mark, New: what they answer.
-/
import Derived.Test.YtnaopkkdidngoaaStoG
import Derived.Test.YtnaopkkdidngoaaOwnT
import Derived.BigQuiet
import Derived.Deep.Heap
import Derived.Deep.LoopGhost
import Derived.Deep.RegionHeld3
namespace Go.Proofs.Ytnaopkkdidngoaa
open Go.RowKit Go.Shelf
set_option linter.unusedVariables false

/-- The five cells of a variable. -/
structure V5 where
  b : Bool
  k : Int
  n : Int
  s : ByteArray
  a : Option Addr
  l : Nat
  c : Nat
def V5.cells (x : V5) : List Value := [.bool x.b, .int .i64 x.k, .int .i64 x.n, .string x.s, .slice x.a x.l x.c]
abbrev V5.val (x : V5) : Value := .agg #[.int .i64 x.k, .int .i64 x.n, .string x.s, .slice x.a x.l x.c]
def flat5 : List V5 → List Value
  | [] => []
  | x :: r => x.cells ++ flat5 r
theorem flat5_length : ∀ xs, (flat5 xs).length = xs.length * 5
  | [] => rfl
  | x :: r => by rw [flat5, List.length_append, flat5_length r, List.length_cons]; simp [V5.cells]; omega
theorem flat5_append : ∀ xs ys, flat5 (xs ++ ys) = flat5 xs ++ flat5 ys
  | [], ys => rfl
  | x :: r, ys => by rw [List.cons_append, flat5, flat5, flat5_append r ys, List.append_assoc]
theorem flat5_get : ∀ (xs : List V5) (i : Nat) (x : V5), xs[i]? = some x → ∀ j, j < 5 → (flat5 xs)[i * 5 + j]? = x.cells[j]?
  | y :: r, 0, x, h, j, hj => by
    simp at h; subst h
    rw [flat5, Nat.zero_mul, Nat.zero_add, List.getElem?_append_left (by simp [V5.cells]; exact hj)]
  | y :: r, i + 1, x, h, j, hj => by
    have := flat5_get r i x (by simpa using h) j hj
    rw [flat5, List.getElem?_append_right (by simp [V5.cells]; omega), ← this]
    congr 1
    simp [V5.cells]; omega

abbrev RowV (w : World) (base : Nat) (v : Value) (xs : List V5) : Prop := w.ownsRow base 62 5 v xs.length (flat5 xs)
/-- A row of numbers, of which what lies behind it may be cut off. -/
def RowL (w : World) (base : Nat) (v : Value) (l : List Nat) : Prop := (v = .slice none 0 0 ∧ l = []) ∨ ∃ g cap cur, v = .slice (some ⟨g, 0, none⟩) l.length cap ∧ base ≤ g ∧ w.heap[g]? = some (.cells cur 3 (0, 0)) ∧ l.length ≤ cap ∧ cap ≤ maxLen ∧ cap ≤ cur.size ∧
  cur.toList.take l.length = l.map fun n : Nat => Value.int .i64 (n : Int)

/-- Others' blocks. -/
def Oth (w : World) (b : Nat) (V L : Value) (k : Nat) : Prop := k < w.heap.size ∧ k ≠ b ∧ V.ownBlock ≠ some k ∧ L.ownBlock ≠ some k

structure VOk (p : Nat → Prop) (w : World) (xs : List V5) (vs : List (Option Tm)) : Prop where
  len : xs.length = vs.length
  at_ : ∀ (i : Nat) (x : V5) (o : Option Tm), xs[i]? = some x → vs[i]? = some o → x.b = o.isSome ∧ ∀ U, o = some U → TmIn p w x.val U

structure St.Ok (σ : St) : Prop where
  ranked : σ.Ranked
  len : σ.vs.length ≤ 4096
  small : ∀ o ∈ σ.vs, ∀ U, o = some U → U.size ≤ 2000000
  nd : σ.tr.Nodup
  mem : ∀ v, v ∈ σ.tr ↔ ∃ U, σ.vs[v]? = some (some U)

/-- A store, in memory from n₀ on; what its variables are bound to lies in blocks of which p holds. -/
structure StAt (p : Nat → Prop) (n₀ : Nat) (w : World) (b : Nat) (V L : Value) (σ : St) : Prop where
  box : w.heap[b]? = some (.cells #[V, L] 59 (0, 0))
  lo : n₀ ≤ b
  sub : ∀ k, p k → Oth w b V L k
  rV : ∃ xs, RowV w n₀ V xs ∧ VOk p w xs σ.vs
  rL : RowL w n₀ L σ.tr
  ok : σ.Ok

theorem RowV.later {w w' : World} {base : Nat} {v : Value} {xs : List V5} (h : RowV w base v xs) (k : ∀ b, v.ownBlock = some b → w'.heap[b]? = w.heap[b]?) : RowV w' base v xs := by
  obtain ⟨h1, ⟨h2, h0⟩ | ⟨g, cap, cur, rfl, hg, hh, r⟩⟩ := h
  · exact ⟨h1, .inl ⟨h2, h0⟩⟩
  · exact ⟨h1, .inr ⟨g, cap, cur, rfl, hg, (k g rfl).trans hh, r⟩⟩
theorem RowL.later {w w' : World} {base : Nat} {v : Value} {l : List Nat} (h : RowL w base v l) (k : ∀ b, v.ownBlock = some b → w'.heap[b]? = w.heap[b]?) : RowL w' base v l := by
  obtain ⟨rfl, rfl⟩ | ⟨g, cap, cur, rfl, hg, hh, r⟩ := h
  · exact .inl ⟨rfl, rfl⟩
  · exact .inr ⟨g, cap, cur, rfl, hg, (k g rfl).trans hh, r⟩
theorem RowL.lt {w : World} {base : Nat} {v : Value} {l : List Nat} (h : RowL w base v l) : ∀ k, v.ownBlock = some k → base ≤ k ∧ k < w.heap.size := by
  intro k hk
  obtain ⟨rfl, rfl⟩ | ⟨g, cap, cur, rfl, hg, hh, r⟩ := h
  · cases hk
  · cases hk; exact ⟨hg, (Array.getElem?_eq_some_iff.1 hh).1⟩
theorem RowV.lt {w : World} {base : Nat} {v : Value} {xs : List V5} (h : RowV w base v xs) : ∀ k, v.ownBlock = some k → base ≤ k ∧ k < w.heap.size := World.ownsRow.lt h
theorem RowV.form {w : World} {base : Nat} {v : Value} {xs : List V5} (h : RowV w base v xs) : ∃ a c, v = .slice a xs.length c := by
  obtain ⟨h1, ⟨h2, h0⟩ | ⟨g, cap, cur, rfl, hg, hh, r⟩⟩ := h
  · exact ⟨none, 0, by rw [h0]; exact h2⟩
  · exact ⟨_, _, rfl⟩
theorem RowL.form {w : World} {base : Nat} {v : Value} {l : List Nat} (h : RowL w base v l) : ∃ a c, v = .slice a l.length c := by
  obtain ⟨rfl, rfl⟩ | ⟨g, cap, cur, rfl, hg, hh, r⟩ := h
  · exact ⟨none, 0, rfl⟩
  · exact ⟨_, _, rfl⟩
theorem VOk.carry {p q : Nat → Prop} {w w' : World} {xs : List V5} {vs : List (Option Tm)} (h : VOk p w xs vs) (hk : ∀ b, p b → w'.heap[b]? = w.heap[b]?) (hq : ∀ b, p b → q b) : VOk q w' xs vs :=
  ⟨h.len, fun i x o h1 h2 => ⟨(h.at_ i x o h1 h2).1, fun U hU => ((h.at_ i x o h1 h2).2 U hU).carry hk hq⟩⟩

theorem StAt.lt {p : Nat → Prop} {n₀ : Nat} {w : World} {b : Nat} {V L : Value} {σ : St} (h : StAt p n₀ w b V L σ) : b < w.heap.size := (Array.getElem?_eq_some_iff.1 h.box).1
theorem Oth.below {w w' : World} {b : Nat} {V L : Value} (k : Below w.heap.size w w') {c : Nat} (h : Oth w b V L c) : Oth w' b V L c := ⟨Nat.lt_of_lt_of_le h.1 k.size, h.2⟩
/-- A step that writes in new memory alone. -/
theorem StAt.below {p : Nat → Prop} {n₀ : Nat} {w w' : World} {b : Nat} {V L : Value} {σ : St} (h : StAt p n₀ w b V L σ) (k : Below w.heap.size w w') : StAt p n₀ w' b V L σ := by
  obtain ⟨xs, h1, h2⟩ := h.rV
  refine ⟨(k.block b h.lt).trans h.box, h.lo, fun c hc => (h.sub c hc).below k, ⟨xs, h1.later fun c hc => k.block c (h1.lt c hc).2, h2.carry (fun c hc => k.block c (h.sub c hc).1) fun c hc => hc⟩, h.rL.later fun c hc => k.block c (h.rL.lt c hc).2, h.ok⟩
theorem StAt.weak {p q : Nat → Prop} {n₀ : Nat} {w : World} {b : Nat} {V L : Value} {σ : St} (h : StAt p n₀ w b V L σ) (hq : ∀ k, p k → q k) (hs : ∀ k, q k → Oth w b V L k) : StAt q n₀ w b V L σ := by
  obtain ⟨xs, h1, h2⟩ := h.rV
  exact ⟨h.box, h.lo, hs, ⟨xs, h1, h2.carry (fun _ _ => rfl) hq⟩, h.rL, h.ok⟩
theorem oth_below {w w' : World} {b : Nat} {V L : Value} (k : Below w.heap.size w w') {v : Value} {T : Tm} (h : TmIn (Oth w b V L) w v T) : TmIn (Oth w' b V L) w' v T := h.carry (fun c hc => k.block c hc.1) fun c hc => hc.below k
/-- What is new is others'. -/
theorem StAt.fresh {p : Nat → Prop} {n₀ : Nat} {w : World} {b : Nat} {V L : Value} {σ : St} (h : StAt p n₀ w b V L σ) {w' : World} {c : Nat} (hc : w.heap.size ≤ c ∧ c < w'.heap.size) : Oth w' b V L c := by
  obtain ⟨xs, h1, h2⟩ := h.rV
  refine ⟨hc.2, fun e => ?_, fun e => ?_, fun e => ?_⟩
  · have := h.lt; have := hc.1; omega
  · have := (h1.lt c e).2; have := hc.1; omega
  · have := (h.rL.lt c e).2; have := hc.1; omega
theorem StAt.new {p : Nat → Prop} {n₀ : Nat} {w w' : World} {b : Nat} {V L : Value} {σ : St} (h : StAt p n₀ w b V L σ) {v : Value} {T : Tm} (ht : TmIn (fun c => w.heap.size ≤ c ∧ c < w'.heap.size) w' v T) : TmIn (Oth w' b V L) w' v T :=
  ht.carry (fun _ _ => rfl) fun c hc => h.fresh hc
theorem oth_has {w : World} {b : Nat} {V L : Value} {v : Value} {T : Tm} (h : TmIn (Oth w b V L) w v T) : Has w v T := h.carry (fun _ _ => rfl) fun _ hc => hc.1

theorem boxed_new {w w4 : World} {B : Nat} {c0 c1 c2 c3 : Value} (y : w4.heap[B]? = some (.cells #[c0, c1, c2, c3] 25 (0, 0))) {v0 v1 v2 v3 : Value} {T : Tm} {p q : Nat → Prop} (hT : TmIn p w4 (.agg #[v0, v1, v2, v3]) T)
    (hp : ∀ b, p b → b ≠ B) (hq : ∀ b, p b → q b) (hB : Below w.heap.size w w4) (hw : w.heap.size ≤ B) :
    ∃ w5, w5 = (((w4.setCell ⟨B, 0, none⟩ v0).setCell ⟨B, 1, none⟩ v1).setCell ⟨B, 2, none⟩ v2).setCell ⟨B, 3, none⟩ v3 ∧ w5.heap[B]? = some (.cells #[v0, v1, v2, v3] 25 (0, 0)) ∧ TmIn q w5 (.agg #[v0, v1, v2, v3]) T ∧ Below w.heap.size w w5 ∧ w5.heap.size = w4.heap.size := by
  refine ⟨_, rfl, four_block y v0 v1 v2 v3, hT.carry (fun b hb => ?_) (fun b hb => hq b hb), (((hB.setCell (p := ⟨B, 0, none⟩) hw v0).setCell (p := ⟨B, 1, none⟩) hw v1).setCell (p := ⟨B, 2, none⟩) hw v2).setCell (p := ⟨B, 3, none⟩) hw v3, by simp⟩
  have := hp b hb
  rw [Below.heap_setCell _ _ _ _ (by simpa using this), Below.heap_setCell _ _ _ _ (by simpa using this), Below.heap_setCell _ _ _ _ (by simpa using this), Below.heap_setCell _ _ _ _ (by simpa using this)]

set_option maxRecDepth 100000 in
set_option maxHeartbeats 1000000 in
theorem swhole_at (v : Value) (T : Tm) (w : World) (hv : Has w v T) (hs : T.size ≤ 1000000000000) : Calls Try.prog 27 #[v] w (NewTm w T) := by
  obtain ⟨k, n, s, a, len, cap, ks, rfl, e, -⟩ := hv.form
  obtain ⟨w2, hw2⟩ : ∃ w2, w2 = (w.alloc (.cells #[.int .i64 k, .int .i64 n, .string s, .slice a len cap] 25)).alloc (.cells #[.int .i64 0, .int .i64 0, .string (ByteArray.mk #[]), .slice none 0 0] 25) := ⟨_, rfl⟩
  have hb2 : Below w.heap.size w w2 := by rw [hw2]; exact ((Below.refl _ w).alloc (Nat.le_refl _) _).alloc (by simp) _
  have hx1 : w2.heap[w.heap.size]? = some (.cells #[.int .i64 k, .int .i64 n, .string s, .slice a len cap] 25 (0, 0)) := by rw [hw2]; exact (Below.heap_alloc _ _ _ (by simp)).trans (World.alloc_heap_new _ _)
  have hx2 : w2.heap[w.heap.size + 1]? = some (.cells #[.int .i64 0, .int .i64 0, .string (ByteArray.mk #[]), .slice none 0 0] 25 (0, 0)) := by rw [hw2]; simpa using World.alloc_heap_new (w.alloc (.cells #[.int .i64 k, .int .i64 n, .string s, .slice a len cap] 25)) (.cells #[.int .i64 0, .int .i64 0, .string (ByteArray.mk #[]), .slice none 0 0] 25)
  have hsz2 : w2.heap.size = w.heap.size + 2 := by rw [hw2]; simp
  have hcall := (shift_at 0 T _ w2 (Has.below hv hb2) hs).mono (R' := fun e w4 => ∃ k4 n4 s4 a4 l4 c4, e = .returned (.agg #[.int .i64 k4, .int .i64 n4, .string s4, .slice a4 l4 c4]) ∧ w4.cell? ⟨w.heap.size + 1, 0, none⟩ = some (.int .i64 0) ∧ w4.cell? ⟨w.heap.size + 1, 1, none⟩ = some (.int .i64 0) ∧ w4.cell? ⟨w.heap.size + 1, 2, none⟩ = some (.string (ByteArray.mk #[])) ∧ w4.cell? ⟨w.heap.size + 1, 3, none⟩ = some (.slice none 0 0) ∧ (∀ j, w4.frozen? ⟨w.heap.size + 1, j, none⟩ = false) ∧
      w4.heap[w.heap.size + 1]? = some (.cells #[.int .i64 0, .int .i64 0, .string (ByteArray.mk #[]), .slice none 0 0] 25 (0, 0)) ∧ TmIn (fun b => w2.heap.size ≤ b ∧ b < w4.heap.size) w4 (.agg #[.int .i64 k4, .int .i64 n4, .string s4, .slice a4 l4 c4]) T ∧ Below w.heap.size w w4) (fun e w4 h4 => by
    obtain ⟨r, rfl, hr, hb4⟩ := h4
    rw [(Has.below hv hb2).shift_zero] at hr
    obtain ⟨k4, n4, s4, a4, l4, c4, ks4, rfl, -⟩ := hr.form
    have y2 := tbox_below hx2 hb4
    obtain ⟨z0, z1, z2, z3⟩ := tbox_cells y2
    exact ⟨k4, n4, s4, a4, l4, c4, rfl, z0, z1, z2, z3, (fun j => by simp [World.frozen?, y2]), y2, hr, hb2.trans (hb4.mono hb2.size)⟩)
  have hz := zeroTerm
  obtain ⟨x0, x1, x2, x3⟩ := tbox_cells hx1
  have HS := Lib.hid hsz2
  clear hv hb2 hx1 hx2 hsz2 e
  subst hw2
  go_enter Try.func27, Try.ntmps27
  go_wp2_with (go_at_call 36; refine hcall.mono ?_; clear hcall; rintro e w4 ⟨k4, n4, s4, a4, l4, c4, rfl, z0, z1, z2, z3, zf, y2, hT, hB⟩)
  obtain ⟨w5, hw5, hb5, hT5, hB5, hs5⟩ := boxed_new (q := fun b => w.heap.size ≤ b ∧ b < w4.heap.size) y2 hT (fun b hb => by have := HS.out; have := hb.1; omega) (fun b hb => by have := HS.out; have := hb.1; have := hb.2; omega) hB (Nat.le_succ _)
  rw [← hw5]
  obtain ⟨f0, f1, f2, f3⟩ := tbox_cells hb5
  refine bodyPost_ret (v := .agg #[.int .i64 k4, .int .i64 n4, .string s4, .slice a4 l4 c4]) (by simp [results, Try.f27, go_sem, f0, f1, f2, f3]) rfl ?_
  exact ⟨_, rfl, by rw [hs5]; exact hT5, hB5⟩

end Go.Proofs.Ytnaopkkdidngoaa
