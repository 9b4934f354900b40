/-
  store.Undo.
-/
import Derived.Test.YtfjnajngelemkaaZStoIn2
import Derived.Test.YtfjnajngelemkaaZStoDn2
import Derived.Deep.Cut
namespace Go.Proofs.Ytfjnajngelemkaa
open Go.RowKit Go.Shelf
set_option linter.unusedVariables false
set_option linter.unusedSimpArgs false

def frees (vs : List (Option Tm)) (l : List Nat) : List (Option Tm) := l.foldl (fun vs v => vs.set v none) vs
def St.undo (σ : St) (m : Nat) : St := ⟨frees σ.vs (σ.tr.drop m), σ.tr.take m⟩
theorem frees_snoc (vs : List (Option Tm)) (l : List Nat) (v : Nat) : frees vs (l ++ [v]) = (frees vs l).set v none := by
  unfold frees; rw [List.foldl_append]; rfl
theorem frees_len (vs : List (Option Tm)) : ∀ l, (frees vs l).length = vs.length := by
  intro l
  unfold frees
  induction l generalizing vs with
  | nil => rfl
  | cons v r ih => rw [List.foldl_cons, ih, List.length_set]
theorem frees_get : ∀ (l : List Nat) (vs : List (Option Tm)) (x : Nat), (frees vs l)[x]? = if x ∈ l ∧ x < vs.length then some none else vs[x]?
  | [], vs, x => by simp [frees]
  | v :: r, vs, x => by
    show (frees (vs.set v none) r)[x]? = _
    rw [frees_get r, List.length_set, List.getElem?_set]
    by_cases h1 : x ∈ r ∧ x < vs.length
    · rw [if_pos h1, if_pos ⟨List.mem_cons_of_mem _ h1.1, h1.2⟩]
    · rw [if_neg h1]
      by_cases e : v = x
      · subst e
        by_cases hl : v < vs.length
        · rw [if_pos rfl, if_pos hl, if_pos ⟨by simp, hl⟩]
        · rw [if_pos rfl, if_neg hl, if_neg (by omega), List.getElem?_eq_none (by omega)]
      · rw [if_neg e]
        by_cases hx : x ∈ v :: r ∧ x < vs.length
        · exfalso
          rcases List.mem_cons.1 hx.1 with h | h
          · exact e h.symm
          · exact h1 ⟨h, hx.2⟩
        · rw [if_neg hx]
theorem St.Ok.undo {σ : St} (h : σ.Ok) (m : Nat) : (σ.undo m).Ok := by
  have hg : ∀ (x : Nat) (T : Tm), (σ.undo m).vs[x]? = some (some T) → σ.vs[x]? = some (some T) ∧ ¬ (x ∈ σ.tr.drop m) := by
    intro x T hx
    have hx : (frees σ.vs (σ.tr.drop m))[x]? = some (some T) := hx
    rw [frees_get] at hx
    split at hx
    · cases hx
    · rename_i hn
      exact ⟨hx, fun hm => hn ⟨hm, (List.getElem?_eq_some_iff.1 hx).1⟩⟩
  refine ⟨h.ranked.less fun x T hx => (hg x T hx).1, by show (frees _ _).length ≤ _; rw [frees_len]; exact h.len, fun o ho U hU => ?_, h.nd.sublist (List.take_sublist _ _), fun v => ?_⟩
  · subst hU
    obtain ⟨x, hx⟩ := List.getElem?_of_mem ho
    exact h.small _ (List.mem_of_getElem? (hg x U hx).1) U rfl
  · have hsplit : σ.tr = σ.tr.take m ++ σ.tr.drop m := (List.take_append_drop _ _).symm
    constructor
    · intro hv
      have hv : v ∈ σ.tr.take m := hv
      obtain ⟨U, hU⟩ := (h.mem v).1 (List.mem_of_mem_take hv)
      refine ⟨U, ?_⟩
      show (frees _ _)[v]? = _
      rw [frees_get, if_neg]
      · exact hU
      · rintro ⟨hd, -⟩
        have := h.nd
        rw [hsplit, List.nodup_append] at this
        exact this.2.2 v hv v hd rfl
    · rintro ⟨U, hU⟩
      obtain ⟨h1, h2⟩ := hg v U hU
      have h3 := (h.mem v).2 ⟨U, h1⟩
      rw [hsplit] at h3
      rcases List.mem_append.1 h3 with h3 | h3
      · exact h3
      · exact absurd h3 h2

/-- All lies as it lay, but one block, which is as great. -/
structure OnlyRow (g : Nat) (w w' : World) : Prop where
  os : w'.os = w.os
  tape : w'.tape = w.tape
  output : w'.output = w.output
  size : w'.heap.size = w.heap.size
  heap : ∀ k, k ≠ g → w'.heap[k]? = w.heap[k]?
theorem OnlyRow.refl (g : Nat) (w : World) : OnlyRow g w w := ⟨rfl, rfl, rfl, rfl, fun _ _ => rfl⟩
theorem OnlyRow.trans {g : Nat} {w w1 w2 : World} (h : OnlyRow g w w1) (k : OnlyRow g w1 w2) : OnlyRow g w w2 :=
  ⟨k.os.trans h.os, k.tape.trans h.tape, k.output.trans h.output, k.size.trans h.size, fun c hc => (k.heap c hc).trans (h.heap c hc)⟩
theorem OnlyRow.cell {g : Nat} {w w' : World} (h : OnlyRow g w w') {k o : Nat} (hk : k ≠ g) : w'.cell? ⟨k, o, none⟩ = w.cell? ⟨k, o, none⟩ :=
  World.cell?_of_block (a := ⟨k, o, none⟩) (h.heap k hk)

theorem undo_end {n₀ : Nat} {w wr : World} {b g g2 m tl xl cp cap2 : Nat} {σ : St} {xs xs' : List V5} {cur2 : Array Value} {mark : Int}
    (h : StAt (Oth w b (.slice (some ⟨g, 0, none⟩) xs.length cp) (.slice (some ⟨g2, 0, none⟩) σ.tr.length cap2)) n₀ w b (.slice (some ⟨g, 0, none⟩) xs.length cp) (.slice (some ⟨g2, 0, none⟩) σ.tr.length cap2) σ)
    (hl : tl = σ.tr.length ∧ xl = xs.length ∧ m = mark.toNat) (hgb : g ≠ b) (hgg : g ≠ g2)
    (hT : cur2.toList.take σ.tr.length = σ.tr.map (fun n : Nat => Value.int .i64 (n : Int)) ∧ n₀ ≤ g2 ∧ σ.tr.length ≤ cap2 ∧ cap2 ≤ cur2.size ∧ cap2 ≤ maxLen) (hh2 : w.heap[g2]? = some (.cells cur2 3 (0, 0))) (hm : m < tl)
    (hR : RowV wr n₀ (.slice (some ⟨g, 0, none⟩) xl cp) xs' ∧ xs'.length = xl ∧ VOk (Oth w b (.slice (some ⟨g, 0, none⟩) xl cp) (.slice (some ⟨g2, 0, none⟩) tl cap2)) w xs' (frees σ.vs ((σ.tr.drop m).take (tl - m))) ∧ OnlyRow g w wr)
    (hbox : wr.heap[b]? = some (.cells #[.slice (some ⟨g, 0, none⟩) xl cp, .slice (some ⟨g2, 0, none⟩) tl cap2] 89 (0, 0))) :
    StAt (Oth (wr.setCell ⟨b, 1, none⟩ (.slice (some ⟨g2, 0, none⟩) m m)) b (.slice (some ⟨g, 0, none⟩) xs.length cp) (.slice (some ⟨g2, 0, none⟩) m m)) n₀ (wr.setCell ⟨b, 1, none⟩ (.slice (some ⟨g2, 0, none⟩) m m)) b (.slice (some ⟨g, 0, none⟩) xs.length cp) (.slice (some ⟨g2, 0, none⟩) m m) (σ.undo m) ∧
      Mut w b (.slice (some ⟨g, 0, none⟩) xs.length cp) (.slice (some ⟨g2, 0, none⟩) σ.tr.length cap2) (wr.setCell ⟨b, 1, none⟩ (.slice (some ⟨g2, 0, none⟩) m m)) (.slice (some ⟨g, 0, none⟩) xs.length cp) (.slice (some ⟨g2, 0, none⟩) m m) := by
  obtain ⟨rfl, rfl, -⟩ := hl
  obtain ⟨hr, hlen, hok, ho⟩ := hR
  obtain ⟨htk, hg2, hn2, hcs2, hcm2⟩ := hT
  rw [List.take_of_length_le (by rw [List.length_drop]; exact Nat.le_refl _)] at hok
  have hg2b : g2 ≠ b := fun e => by rw [← e, ho.heap g2 (fun e => hgg e.symm), hh2] at hbox; cases hbox
  have hother : ∀ k, k ≠ b → (wr.setCell ⟨b, 1, none⟩ (.slice (some ⟨g2, 0, none⟩) m m)).heap[k]? = wr.heap[k]? := fun k hk => Below.heap_setCell wr ⟨b, 1, none⟩ _ k hk
  have hsz : (wr.setCell ⟨b, 1, none⟩ (.slice (some ⟨g2, 0, none⟩) m m)).heap.size = w.heap.size := by rw [World.size_setCell]; exact ho.size
  have keep : ∀ k, Oth w b (.slice (some ⟨g, 0, none⟩) xs.length cp) (.slice (some ⟨g2, 0, none⟩) σ.tr.length cap2) k → (wr.setCell ⟨b, 1, none⟩ (.slice (some ⟨g2, 0, none⟩) m m)).heap[k]? = w.heap[k]? ∧ Oth (wr.setCell ⟨b, 1, none⟩ (.slice (some ⟨g2, 0, none⟩) m m)) b (.slice (some ⟨g, 0, none⟩) xs.length cp) (.slice (some ⟨g2, 0, none⟩) m m) k := fun k hk =>
    ⟨(hother k hk.2.1).trans (ho.heap k (fun e => hk.2.2.1 (by rw [e]; rfl))), by rw [hsz]; exact hk.1, hk.2.1, hk.2.2.1, fun e => hk.2.2.2 e⟩
  have hB := (Below.refl 0 wr).setCell (p := ⟨b, 1, none⟩) (Nat.zero_le _) (.slice (some ⟨g2, 0, none⟩) m m)
  refine ⟨⟨set_block (o := 1) hbox _, h.lo, fun k hk => hk, ⟨xs', ?_, hok.carry (fun k hk => (keep k hk).1) fun k hk => (keep k hk).2⟩, ?_, h.ok.undo m⟩, ⟨hB.os.trans ho.os, hB.tape.trans ho.tape, hB.output.trans ho.output, by rw [hsz]; exact Nat.le_refl _, keep⟩⟩
  · refine RowV.later hr fun k hk => ?_
    have hk : some g = some k := hk
    injection hk with hk
    rw [← hk, hother g hgb]
  · refine .inr ⟨g2, m, cur2, ?_, hg2, (hother g2 hg2b).trans ((ho.heap g2 (fun e => hgg e.symm)).trans hh2), ?_, by omega, by omega, ?_⟩
    · show _ = Value.slice _ (σ.tr.take m).length _
      rw [List.length_take, Nat.min_eq_left (by omega)]
    · show (σ.tr.take m).length ≤ m
      rw [List.length_take]; omega
    · show cur2.toList.take (σ.tr.take m).length = (σ.tr.take m).map _
      rw [List.length_take, Nat.min_eq_left (by omega), List.map_take, ← htk, List.take_take, Nat.min_eq_left (by omega)]

end Go.Proofs.Ytfjnajngelemkaa

namespace Go.Proofs.Ytfjnajngelemkaa
open Go.RowKit Go.Shelf
set_option linter.unusedVariables false
set_option linter.unusedSimpArgs false

theorem snoc_ind {α : Type} {p : List α → Prop} (h0 : p []) (h1 : ∀ l a, p l → p (l ++ [a])) (l : List α) : p l := by
  have h : ∀ l : List α, p l.reverse := by
    intro l
    induction l with
    | nil => exact h0
    | cons a r ih => rw [List.reverse_cons]; exact h1 _ a ih
  have := h l.reverse
  rwa [List.reverse_reverse] at this
theorem fillL_good {g : Nat → Tm → FR} (hg : ∀ l t u l', g l t = .ok u l' → l' + u.size = l) (left : Nat) (ks : List Tm) : ∀ us l, fillL g left ks = .ok us l → l + Tm.sizes us = left ∧ us.length = ks.length := by
  induction ks using snoc_ind with
  | h0 => intro us l h; cases h; exact ⟨by rw [Tm.sizes_nil]; omega, rfl⟩
  | h1 ks t ih =>
    intro us l h
    rw [fillL_snoc] at h
    cases hk : fillL g left ks with
    | bad e => rw [hk] at h; cases h
    | ok us' l' =>
      rw [hk] at h
      cases ht : g l' t with
      | bad e => simp only [ht, FR.next] at h; cases h
      | ok u l2 =>
        simp only [ht, FR.next] at h
        cases h
        obtain ⟨h1, h2⟩ := ih us' l' hk
        have h3 := hg l' t u _ ht
        refine ⟨?_, by rw [List.length_append, List.length_append, h2]; rfl⟩
        rw [Tm.sizes_append, Tm.sizes_cons, Tm.sizes_nil]; omega
theorem fillL_bads {g : Nat → Tm → FR} (hg : ∀ l t e, g l t = .bad e → e = 7 ∨ e = 3) (left : Nat) (ks : List Tm) : ∀ e, fillL g left ks = .bad e → e = 7 ∨ e = 3 := by
  induction ks using snoc_ind with
  | h0 => intro e h; cases h
  | h1 ks t ih =>
    intro e h
    rw [fillL_snoc] at h
    cases hk : fillL g left ks with
    | bad e' => rw [hk] at h; cases h; exact ih _ hk
    | ok us' l' =>
      rw [hk] at h
      cases ht : g l' t with
      | bad e' => simp only [ht, FR.next] at h; cases h; exact hg _ _ _ ht
      | ok u l2 => simp only [ht, FR.next] at h; cases h
theorem fill_size (σ : St) : ∀ f left T u l, σ.fill f left T = .ok u l → l + u.size = left
  | 0, left, T, u, l, h => by rw [St.fill] at h; cases h
  | f + 1, left, T, u, l, h => by
    rw [St.fill] at h
    split at h
    · cases h
    · rename_i h0
      split at h
      · cases h
      · rename_i ks l' hk
        cases h
        have := (fillL_good (fun l t u l' => fill_size σ f l t u l') _ _ _ _ hk).1
        rw [Tm.size_mk]; omega
theorem fill_bads (σ : St) : ∀ f left T e, σ.fill f left T = .bad e → e = 7 ∨ e = 3
  | 0, left, T, e, h => by rw [St.fill] at h; cases h; exact .inl rfl
  | f + 1, left, T, e, h => by
    rw [St.fill] at h
    split at h
    · cases h; exact .inr rfl
    · split at h
      · rename_i e' hk
        cases h
        exact fillL_bads (fun l t e => fill_bads σ f l t e) _ _ _ hk
      · cases h

/-- All lies as it lay, but one box. -/
structure ButN (B : Nat) (w w' : World) : Prop where
  os : w'.os = w.os
  tape : w'.tape = w.tape
  output : w'.output = w.output
  size : w.heap.size ≤ w'.heap.size
  same : ∀ k, k < w.heap.size → k ≠ B → w'.heap[k]? = w.heap[k]?
theorem ButN.refl (B : Nat) (w : World) : ButN B w w := ⟨rfl, rfl, rfl, Nat.le_refl _, fun _ _ _ => rfl⟩
theorem ButN.trans {B : Nat} {w w1 w2 : World} (h : ButN B w w1) (g : ButN B w1 w2) : ButN B w w2 :=
  ⟨g.os.trans h.os, g.tape.trans h.tape, g.output.trans h.output, Nat.le_trans h.size g.size, fun k hk hB => (g.same k (Nat.lt_of_lt_of_le hk h.size) hB).trans (h.same k hk hB)⟩
theorem ButN.of {B : Nat} {w w1 : World} (h : Below w.heap.size w w1) : ButN B w w1 := ⟨h.os, h.tape, h.output, h.size, fun k hk _ => h.block k hk⟩
theorem ButN.below {B n : Nat} {w w1 : World} (h : ButN B w w1) (hn : n ≤ w.heap.size) (hB : n ≤ B) : Below n w w1 := ⟨h.os, h.tape, h.output, h.size, fun k hk => h.same k (Nat.lt_of_lt_of_le hk hn) (by omega)⟩
theorem ButN.set {B : Nat} {w w1 : World} (h : ButN B w w1) (v : Value) : ButN B w (w1.setCell ⟨B, 0, none⟩ v) :=
  have g := (Below.refl 0 w1).setCell (p := ⟨B, 0, none⟩) (Nat.zero_le _) v
  ⟨g.os.trans h.os, g.tape.trans h.tape, g.output.trans h.output, by simpa using h.size, fun k hk hB => (Below.heap_setCell w1 ⟨B, 0, none⟩ v k hB).trans (h.same k hk hB)⟩
/-- A box that is new may be written, too. -/
theorem ButN.setNew {B : Nat} {w w1 : World} (h : ButN B w w1) {a : Addr} (ha : w.heap.size ≤ a.block) (v : Value) : ButN B w (w1.setCell a v) :=
  have g := (Below.refl 0 w1).setCell (p := a) (Nat.zero_le _) v
  ⟨g.os.trans h.os, g.tape.trans h.tape, g.output.trans h.output, by simpa using h.size, fun k hk hB => (Below.heap_setCell w1 a v k (by omega)).trans (h.same k hk hB)⟩
theorem ButN.alloc {B : Nat} {w w1 : World} (h : ButN B w w1) (o : Obj) : ButN B w (w1.alloc o) := h.trans (.of ((Below.refl _ _).alloc (Nat.le_refl _) o))
theorem ButN.grown {B : Nat} {w w1 w2 : World} {row : Option Nat} (h : ButN B w w1) (g : w1.grownBy w2 row) (hr : ∀ k, row = some k → w.heap.size ≤ k) : ButN B w w2 :=
  ⟨g.os.trans h.os, g.tape.trans h.tape, g.output.trans h.output, Nat.le_trans h.size g.size, fun k hk hB => (g.block k (Nat.lt_of_lt_of_le hk h.size) (fun e => by have := hr k e.symm; omega)).trans (h.same k hk hB)⟩

/-- What the function that Full makes has at hand. -/
structure FillSt (p : Nat → Prop) (n₀ n₁ : Nat) (w : World) (b : Nat) (V L : Value) (σ : St) (Bn Bs Bf : Nat) : Prop where
  st : StAt p n₀ w b V L σ
  sub : ∀ k, p k → k < n₁
  topb : b < n₁
  topV : ∀ k, V.ownBlock = some k → k < n₁
  topL : ∀ k, L.ownBlock = some k → k < n₁
  le : n₁ ≤ Bn
  lt : Bn < w.heap.size
  s : w.heap[Bs]? = some (.cells #[.pointer (some ⟨b, 0, none⟩)] 32 (0, 0))
  fn : w.heap[Bf]? = some (.cells #[.func (.func 56) #[] #[.pointer (some ⟨Bn, 0, none⟩), .pointer (some ⟨Bs, 0, none⟩), .pointer (some ⟨Bf, 0, none⟩)]] 81 (0, 0))
  ns : Bs ≠ Bn
  nf : Bf ≠ Bn
theorem StAt.belowN {p : Nat → Prop} {n₀ n₁ : Nat} {w w' : World} {b : Nat} {V L : Value} {σ : St} (h : StAt p n₀ w b V L σ) (sub : ∀ k, p k → k < n₁) (hb : b < n₁) (hV : ∀ k, V.ownBlock = some k → k < n₁) (hL : ∀ k, L.ownBlock = some k → k < n₁) (k : Below n₁ w w') : StAt p n₀ w' b V L σ := by
  obtain ⟨xs, h1, h2⟩ := h.rV
  exact ⟨(k.block b hb).trans h.box, h.lo, fun c hc => ⟨Nat.lt_of_lt_of_le (h.sub c hc).1 k.size, (h.sub c hc).2⟩, ⟨xs, h1.later fun c hc => k.block c (hV c hc), h2.carry (fun c hc => k.block c (sub c hc)) fun c hc => hc⟩, h.rL.later fun c hc => k.block c (hL c hc), h.ok⟩
theorem FillSt.later {p : Nat → Prop} {n₀ n₁ : Nat} {w w' : World} {b : Nat} {V L : Value} {σ : St} {Bn Bs Bf : Nat} (h : FillSt p n₀ n₁ w b V L σ Bn Bs Bf) (k : ButN Bn w w') : FillSt p n₀ n₁ w' b V L σ Bn Bs Bf :=
  ⟨h.st.belowN h.sub h.topb h.topV h.topL (k.below (by have := h.le; have := h.lt; omega) h.le), h.sub, h.topb, h.topV, h.topL, h.le, Nat.lt_of_lt_of_le h.lt k.size,
    (k.same Bs (Array.getElem?_eq_some_iff.1 h.s).1 h.ns).trans h.s, (k.same Bf (Array.getElem?_eq_some_iff.1 h.fn).1 h.nf).trans h.fn, h.ns, h.nf⟩

def zT : Value := .agg #[.int .i64 0, .int .i64 0, .string (ByteArray.mk #[]), .slice none 0 0]
/-- What the function that Full makes answers. -/
def FPost (Bn : Nat) (r : FR) (w : World) (e : Ending) (w' : World) : Prop := ButN Bn w w' ∧ match r with
  | .bad x => e = .returned (.tuple #[.agg #[.int .i64 0, .int .i64 0, .string (ByteArray.mk #[]), .slice none 0 0], .int .i64 x])
  | .ok u l => ∃ k n s a l' c, e = .returned (.tuple #[.agg #[.int .i64 k, .int .i64 n, .string s, .slice a l' c], .int .i64 0]) ∧ TmIn (fun c => w.heap.size ≤ c ∧ c < w'.heap.size) w' (.agg #[.int .i64 k, .int .i64 n, .string s, .slice a l' c]) u ∧ w'.heap[Bn]? = some (.cells #[.int .i64 (1000 - (l : Int))] 3 (0, 0))
end Go.Proofs.Ytfjnajngelemkaa

namespace Go.Proofs.Ytfjnajngelemkaa
open Go.RowKit Go.Shelf
set_option linter.unusedVariables false
set_option linter.unusedSimpArgs false

/-- A box that is written whole, in a world of which all lies as it lay, but one box. -/
theorem box_but {w W : World} {B Bn : Nat} (h : ButN Bn w W) (hB : w.heap.size ≤ B) {c0 c1 c2 c3 : Value} (y : W.heap[B]? = some (.cells #[c0, c1, c2, c3] 24 (0, 0))) (v0 v1 v2 v3 : Value) :
    ∃ W5, W5 = (((W.setCell ⟨B, 0, none⟩ v0).setCell ⟨B, 1, none⟩ v1).setCell ⟨B, 2, none⟩ v2).setCell ⟨B, 3, none⟩ v3 ∧ W5.heap[B]? = some (.cells #[v0, v1, v2, v3] 24 (0, 0)) ∧ ButN Bn w W5 ∧ (∀ k, k ≠ B → W5.heap[k]? = W.heap[k]?) ∧ W5.heap.size = W.heap.size := by
  refine ⟨_, rfl, four_block y v0 v1 v2 v3, (((h.setNew (a := ⟨B, 0, none⟩) hB v0).setNew (a := ⟨B, 1, none⟩) hB v1).setNew (a := ⟨B, 2, none⟩) hB v2).setNew (a := ⟨B, 3, none⟩) hB v3, fun k hk => ?_, by simp⟩
  rw [Below.heap_setCell _ _ _ _ (by simpa using hk), Below.heap_setCell _ _ _ _ (by simpa using hk), Below.heap_setCell _ _ _ _ (by simpa using hk), Below.heap_setCell _ _ _ _ (by simpa using hk)]

set_option maxRecDepth 100000 in
set_option maxHeartbeats 8000000 in
theorem fill1_bad (p : Nat → Prop) (n₀ n₁ b : Nat) (V L : Value) (σ : St) (Bn Bs Bf : Nat) (f left : Nat) (T : Tm) (v : Value) (w : World) (hf : f ≤ 60) (hl : left ≤ 1000) (hor : f = 0 ∨ left = 0) (H : FillSt p n₀ n₁ w b V L σ Bn Bs Bf) (hv : IsTm n₁ w v T)
    (hn : w.heap[Bn]? = some (.cells #[.int .i64 (1000 - (left : Int))] 3 (0, 0))) :
    Calls Try.prog 56 #[v, .int .i64 (61 - (f : Int)), .pointer (some ⟨Bn, 0, none⟩), .pointer (some ⟨Bs, 0, none⟩), .pointer (some ⟨Bf, 0, none⟩)] w (FPost Bn (σ.fill f left T) w) := by
  obtain ⟨k, n, s, a, len, cap, ks, rfl, e, -⟩ := IsTm.form hv
  obtain ⟨sz, hsz⟩ : ∃ sz : Int, sz = 1000 - (left : Int) := ⟨_, rfl⟩
  obtain ⟨d, hd⟩ : ∃ d : Int, d = 61 - (f : Int) := ⟨_, rfl⟩
  have hs0 : 0 ≤ sz := by omega
  have hs1 : sz ≤ 1000 := by omega
  rw [← hsz] at hn
  rw [← hd]
  have hBn := H.lt
  have HBx : Hid ((((w.alloc (.cells #[.int .i64 k, .int .i64 n, .string s, .slice a len cap] 24)).alloc (.cells #[.int .i64 0, .int .i64 0, .string (ByteArray.mk #[]), .slice none 0 0] 24)).setCell ⟨Bn, 0, none⟩ (.int .i64 (sz + 1))).heap[w.heap.size + 1]? = some (.cells #[.int .i64 0, .int .i64 0, .string (ByteArray.mk #[]), .slice none 0 0] 24 (0, 0)) ∧
      ButN Bn w (((w.alloc (.cells #[.int .i64 k, .int .i64 n, .string s, .slice a len cap] 24)).alloc (.cells #[.int .i64 0, .int .i64 0, .string (ByteArray.mk #[]), .slice none 0 0] 24)).setCell ⟨Bn, 0, none⟩ (.int .i64 (sz + 1)))) := by
    refine ⟨?_, (((ButN.refl Bn w).alloc _).alloc _).set _⟩
    rw [Below.heap_setCell _ _ _ _ (by simp; omega)]
    have := World.alloc_heap_new (w.alloc (.cells #[.int .i64 k, .int .i64 n, .string s, .slice a len cap] 24)) (.cells #[.int .i64 0, .int .i64 0, .string (ByteArray.mk #[]), .slice none 0 0] 24)
    simpa using this
  have cn := cell_al (cell_al (show w.cell? ⟨Bn, 0, none⟩ = some (.int .i64 sz) by simp [World.cell?, hn]) (.cells #[.int .i64 k, .int .i64 n, .string s, .slice a len cap] 24)) (.cells #[.int .i64 0, .int .i64 0, .string (ByteArray.mk #[]), .slice none 0 0] 24)
  have fn : ((w.alloc (.cells #[.int .i64 k, .int .i64 n, .string s, .slice a len cap] 24)).alloc (.cells #[.int .i64 0, .int .i64 0, .string (ByteArray.mk #[]), .slice none 0 0] 24)).frozen? ⟨Bn, 0, none⟩ = false := by
    have h1 := (Below.heap_alloc (w.alloc (.cells #[.int .i64 k, .int .i64 n, .string s, .slice a len cap] 24)) (.cells #[.int .i64 0, .int .i64 0, .string (ByteArray.mk #[]), .slice none 0 0] 24) Bn (by simp; omega)).trans ((Below.heap_alloc w (.cells #[.int .i64 k, .int .i64 n, .string s, .slice a len cap] 24) Bn hBn).trans hn)
    simp [World.frozen?, h1]
  have hz := zeroTerm
  have HF : Hid (σ.fill f left T = .bad (if f = 0 then 7 else 3)) := by
    show _ = _
    cases f with
    | zero => rw [St.fill]; rfl
    | succ f =>
      have h0 : left = 0 := by rcases hor with h | h <;> omega
      rw [St.fill, if_pos h0]; rfl
  have hne : w.heap.size + 1 ≠ Bn := by omega
  have HBn := Lib.hid hBn
  have HNE := Lib.hid hne
  clear H hv e hn hBn hne
  by_cases hf0 : f = 0
  · rw [if_pos hf0] at HF
    have hd1 : (d : Int) > 60 := by omega
    clear hor hf hl hf0 hsz hd
    go_enter Try.func56, Try.ntmps56
    go_upto_region 2 with fail
    generalize ((w.alloc (.cells #[.int .i64 k, .int .i64 n, .string s, .slice a len cap] 24)).alloc (.cells #[.int .i64 0, .int .i64 0, .string (ByteArray.mk #[]), .slice none 0 0] 24)).setCell ⟨Bn, 0, none⟩ (.int .i64 (sz + 1)) = w2 at HBx ⊢
    clear cn fn
    obtain ⟨z0, z1, z2, z3⟩ := tbox_cells HBx.out.1
    have zf : ∀ j, w2.frozen? ⟨w.heap.size + 1, j, none⟩ = false := fun j => by simp [World.frozen?, HBx.out.1]
    go_wp2_with fail
    obtain ⟨W5, hW5, hb5, hB5, -, -⟩ := box_but (B := w.heap.size + 1) HBx.out.2 (Nat.le_succ _) HBx.out.1 (.int .i64 0) (.int .i64 0) (.string (ByteArray.mk #[])) (.slice none 0 0)
    rw [← hW5]
    obtain ⟨f0, f1, f2, f3⟩ := tbox_cells hb5
    refine bodyPost_ret (v := .tuple #[.agg #[.int .i64 0, .int .i64 0, .string (ByteArray.mk #[]), .slice none 0 0], .int .i64 7]) (by simp [results, Try.f56, go_sem, f0, f1, f2, f3]) rfl ?_
    rw [HF.out]
    exact ⟨hB5, rfl⟩
  · rw [if_neg hf0] at HF
    have h0 : left = 0 := by rcases hor with h | h <;> omega
    have hd1 : ¬ (d : Int) > 60 := by omega
    have hs2 : sz + 1 > 1000 := by omega
    clear hor hf hl hf0 hsz hd h0
    go_enter Try.func56, Try.ntmps56
    go_upto_region 2 with fail
    have cn2 : (((w.alloc (.cells #[.int .i64 k, .int .i64 n, .string s, .slice a len cap] 24)).alloc (.cells #[.int .i64 0, .int .i64 0, .string (ByteArray.mk #[]), .slice none 0 0] 24)).setCell ⟨Bn, 0, none⟩ (.int .i64 (sz + 1))).cell? ⟨Bn, 0, none⟩ = some (.int .i64 (sz + 1)) := by
      exact World.cell?_setCell_same _ _ _ cn
    generalize ((w.alloc (.cells #[.int .i64 k, .int .i64 n, .string s, .slice a len cap] 24)).alloc (.cells #[.int .i64 0, .int .i64 0, .string (ByteArray.mk #[]), .slice none 0 0] 24)).setCell ⟨Bn, 0, none⟩ (.int .i64 (sz + 1)) = w2 at HBx cn2 ⊢
    clear cn fn
    obtain ⟨z0, z1, z2, z3⟩ := tbox_cells HBx.out.1
    have zf : ∀ j, w2.frozen? ⟨w.heap.size + 1, j, none⟩ = false := fun j => by simp [World.frozen?, HBx.out.1]
    go_wp2_with fail
    obtain ⟨W5, hW5, hb5, hB5, -, -⟩ := box_but (B := w.heap.size + 1) HBx.out.2 (Nat.le_succ _) HBx.out.1 (.int .i64 0) (.int .i64 0) (.string (ByteArray.mk #[])) (.slice none 0 0)
    rw [← hW5]
    obtain ⟨f0, f1, f2, f3⟩ := tbox_cells hb5
    refine bodyPost_ret (v := .tuple #[.agg #[.int .i64 0, .int .i64 0, .string (ByteArray.mk #[]), .slice none 0 0], .int .i64 3]) (by simp [results, Try.f56, go_sem, f0, f1, f2, f3]) rfl ?_
    rw [HF.out]
    exact ⟨hB5, rfl⟩
end Go.Proofs.Ytfjnajngelemkaa
