/-
  store.Full: what is told of what it fills.
-/
import Derived.Test.YtlnggaepmclbkaaZStoDn2
import Derived.Deep.Cut
namespace Go.Proofs.Ytlnggaepmclbkaa
open Go.RowKit Go.Shelf
set_option linter.unusedVariables false
set_option linter.unusedSimpArgs false

theorem snoc_ind {α : Type} {p : List α → Prop} (h0 : p []) (h1 : ∀ l a, p l → p (l ++ [a])) (l : List α) : p l := by
  have h : ∀ l : List α, p l.reverse := by
    intro l
    induction l with
    | nil => exact h0
    | cons a r ih => rw [List.reverse_cons]; exact h1 _ a ih
  have := h l.reverse
  rwa [List.reverse_reverse] at this
theorem fillL_good {g : Nat → Tm → FR} (hg : ∀ l t u l', g l t = .ok u l' → l' + u.size = l) (left : Nat) (ks : List Tm) : ∀ us l, fillL g left ks = .ok us l → l + Tm.sizes us = left ∧ us.length = ks.length := by
  induction ks using snoc_ind with
  | h0 => intro us l h; cases h; exact ⟨by rw [Tm.sizes_nil]; omega, rfl⟩
  | h1 ks t ih =>
    intro us l h
    rw [fillL_snoc] at h
    cases hk : fillL g left ks with
    | bad e => rw [hk] at h; cases h
    | ok us' l' =>
      rw [hk] at h
      cases ht : g l' t with
      | bad e => simp only [ht, FR.next] at h; cases h
      | ok u l2 =>
        simp only [ht, FR.next] at h
        cases h
        obtain ⟨h1, h2⟩ := ih us' l' hk
        have h3 := hg l' t u _ ht
        refine ⟨?_, by rw [List.length_append, List.length_append, h2]; rfl⟩
        rw [Tm.sizes_append, Tm.sizes_cons, Tm.sizes_nil]; omega
theorem fillL_bads {g : Nat → Tm → FR} (hg : ∀ l t e, g l t = .bad e → e = 7 ∨ e = 3) (left : Nat) (ks : List Tm) : ∀ e, fillL g left ks = .bad e → e = 7 ∨ e = 3 := by
  induction ks using snoc_ind with
  | h0 => intro e h; cases h
  | h1 ks t ih =>
    intro e h
    rw [fillL_snoc] at h
    cases hk : fillL g left ks with
    | bad e' => rw [hk] at h; cases h; exact ih _ hk
    | ok us' l' =>
      rw [hk] at h
      cases ht : g l' t with
      | bad e' => simp only [ht, FR.next] at h; cases h; exact hg _ _ _ ht
      | ok u l2 => simp only [ht, FR.next] at h; cases h
theorem fill_size (σ : St) : ∀ f left T u l, σ.fill f left T = .ok u l → l + u.size = left
  | 0, left, T, u, l, h => by rw [St.fill] at h; cases h
  | f + 1, left, T, u, l, h => by
    rw [St.fill] at h
    split at h
    · cases h
    · rename_i h0
      split at h
      · cases h
      · rename_i ks l' hk
        cases h
        have := (fillL_good (fun l t u l' => fill_size σ f l t u l') _ _ _ _ hk).1
        rw [Tm.size_mk]; omega
theorem fill_bads (σ : St) : ∀ f left T e, σ.fill f left T = .bad e → e = 7 ∨ e = 3
  | 0, left, T, e, h => by rw [St.fill] at h; cases h; exact .inl rfl
  | f + 1, left, T, e, h => by
    rw [St.fill] at h
    split at h
    · cases h; exact .inr rfl
    · split at h
      · rename_i e' hk
        cases h
        exact fillL_bads (fun l t e => fill_bads σ f l t e) _ _ _ hk
      · cases h

/-- All lies as it lay, but one box. -/
structure ButN (B : Nat) (w w' : World) : Prop where
  os : w'.os = w.os
  tape : w'.tape = w.tape
  output : w'.output = w.output
  size : w.heap.size ≤ w'.heap.size
  same : ∀ k, k < w.heap.size → k ≠ B → w'.heap[k]? = w.heap[k]?
theorem ButN.refl (B : Nat) (w : World) : ButN B w w := ⟨rfl, rfl, rfl, Nat.le_refl _, fun _ _ _ => rfl⟩
theorem ButN.trans {B : Nat} {w w1 w2 : World} (h : ButN B w w1) (g : ButN B w1 w2) : ButN B w w2 :=
  ⟨g.os.trans h.os, g.tape.trans h.tape, g.output.trans h.output, Nat.le_trans h.size g.size, fun k hk hB => (g.same k (Nat.lt_of_lt_of_le hk h.size) hB).trans (h.same k hk hB)⟩
theorem ButN.of {B : Nat} {w w1 : World} (h : Below w.heap.size w w1) : ButN B w w1 := ⟨h.os, h.tape, h.output, h.size, fun k hk _ => h.block k hk⟩
theorem ButN.below {B n : Nat} {w w1 : World} (h : ButN B w w1) (hn : n ≤ w.heap.size) (hB : n ≤ B) : Below n w w1 := ⟨h.os, h.tape, h.output, h.size, fun k hk => h.same k (Nat.lt_of_lt_of_le hk hn) (by omega)⟩
theorem ButN.set {B : Nat} {w w1 : World} (h : ButN B w w1) (v : Value) : ButN B w (w1.setCell ⟨B, 0, none⟩ v) :=
  have g := (Below.refl 0 w1).setCell (p := ⟨B, 0, none⟩) (Nat.zero_le _) v
  ⟨g.os.trans h.os, g.tape.trans h.tape, g.output.trans h.output, by simpa using h.size, fun k hk hB => (Below.heap_setCell w1 ⟨B, 0, none⟩ v k hB).trans (h.same k hk hB)⟩
/-- A box that is new may be written, too. -/
theorem ButN.setNew {B : Nat} {w w1 : World} (h : ButN B w w1) {a : Addr} (ha : w.heap.size ≤ a.block) (v : Value) : ButN B w (w1.setCell a v) :=
  have g := (Below.refl 0 w1).setCell (p := a) (Nat.zero_le _) v
  ⟨g.os.trans h.os, g.tape.trans h.tape, g.output.trans h.output, by simpa using h.size, fun k hk hB => (Below.heap_setCell w1 a v k (by omega)).trans (h.same k hk hB)⟩
theorem ButN.alloc {B : Nat} {w w1 : World} (h : ButN B w w1) (o : Obj) : ButN B w (w1.alloc o) := h.trans (.of ((Below.refl _ _).alloc (Nat.le_refl _) o))
theorem ButN.grown {B : Nat} {w w1 w2 : World} {row : Option Nat} (h : ButN B w w1) (g : w1.grownBy w2 row) (hr : ∀ k, row = some k → w.heap.size ≤ k) : ButN B w w2 :=
  ⟨g.os.trans h.os, g.tape.trans h.tape, g.output.trans h.output, Nat.le_trans h.size g.size, fun k hk hB => (g.block k (Nat.lt_of_lt_of_le hk h.size) (fun e => by have := hr k e.symm; omega)).trans (h.same k hk hB)⟩

/-- What the function that Full makes has at hand. -/
structure FillSt (p : Nat → Prop) (n₀ n₁ : Nat) (w : World) (b : Nat) (V L : Value) (σ : St) (Bn Bs Bf : Nat) : Prop where
  st : StAt p n₀ w b V L σ
  sub : ∀ k, p k → k < n₁
  topb : b < n₁
  topV : ∀ k, V.ownBlock = some k → k < n₁
  topL : ∀ k, L.ownBlock = some k → k < n₁
  le : n₁ ≤ Bn
  lt : Bn < w.heap.size
  s : w.heap[Bs]? = some (.cells #[.pointer (some ⟨b, 0, none⟩)] 39 (0, 0))
  fn : w.heap[Bf]? = some (.cells #[.func (.func 38) #[] #[.pointer (some ⟨Bn, 0, none⟩), .pointer (some ⟨Bs, 0, none⟩), .pointer (some ⟨Bf, 0, none⟩)]] 74 (0, 0))
  ns : Bs ≠ Bn
  nf : Bf ≠ Bn
theorem StAt.belowN {p : Nat → Prop} {n₀ n₁ : Nat} {w w' : World} {b : Nat} {V L : Value} {σ : St} (h : StAt p n₀ w b V L σ) (sub : ∀ k, p k → k < n₁) (hb : b < n₁) (hV : ∀ k, V.ownBlock = some k → k < n₁) (hL : ∀ k, L.ownBlock = some k → k < n₁) (k : Below n₁ w w') : StAt p n₀ w' b V L σ := by
  obtain ⟨xs, h1, h2⟩ := h.rV
  exact ⟨(k.block b hb).trans h.box, h.lo, fun c hc => ⟨Nat.lt_of_lt_of_le (h.sub c hc).1 k.size, (h.sub c hc).2⟩, ⟨xs, h1.later fun c hc => k.block c (hV c hc), h2.carry (fun c hc => k.block c (sub c hc)) fun c hc => hc⟩, h.rL.later fun c hc => k.block c (hL c hc), h.ok⟩
theorem FillSt.later {p : Nat → Prop} {n₀ n₁ : Nat} {w w' : World} {b : Nat} {V L : Value} {σ : St} {Bn Bs Bf : Nat} (h : FillSt p n₀ n₁ w b V L σ Bn Bs Bf) (k : ButN Bn w w') : FillSt p n₀ n₁ w' b V L σ Bn Bs Bf :=
  ⟨h.st.belowN h.sub h.topb h.topV h.topL (k.below (by have := h.le; have := h.lt; omega) h.le), h.sub, h.topb, h.topV, h.topL, h.le, Nat.lt_of_lt_of_le h.lt k.size,
    (k.same Bs (Array.getElem?_eq_some_iff.1 h.s).1 h.ns).trans h.s, (k.same Bf (Array.getElem?_eq_some_iff.1 h.fn).1 h.nf).trans h.fn, h.ns, h.nf⟩

def zT : Value := .agg #[.int .i64 0, .int .i64 0, .string (ByteArray.mk #[]), .slice none 0 0]
/-- What the function that Full makes answers. -/
def FPost (Bn : Nat) (r : FR) (w : World) (e : Ending) (w' : World) : Prop := ButN Bn w w' ∧ match r with
  | .bad x => e = .returned (.tuple #[.agg #[.int .i64 0, .int .i64 0, .string (ByteArray.mk #[]), .slice none 0 0], .int .i64 x])
  | .ok u l => ∃ k n s a l' c, e = .returned (.tuple #[.agg #[.int .i64 k, .int .i64 n, .string s, .slice a l' c], .int .i64 0]) ∧ TmIn (fun c => w.heap.size ≤ c ∧ c < w'.heap.size) w' (.agg #[.int .i64 k, .int .i64 n, .string s, .slice a l' c]) u ∧ w'.heap[Bn]? = some (.cells #[.int .i64 (1000 - (l : Int))] 3 (0, 0))
end Go.Proofs.Ytlnggaepmclbkaa

namespace Go.Proofs.Ytlnggaepmclbkaa
open Go.RowKit Go.Shelf
set_option linter.unusedVariables false
set_option linter.unusedSimpArgs false

/-- A box that is written whole, in a world of which all lies as it lay, but one box. -/
theorem box_but {w W : World} {B Bn : Nat} (h : ButN Bn w W) (hB : w.heap.size ≤ B) {c0 c1 c2 c3 : Value} (y : W.heap[B]? = some (.cells #[c0, c1, c2, c3] 24 (0, 0))) (v0 v1 v2 v3 : Value) :
    ∃ W5, W5 = (((W.setCell ⟨B, 0, none⟩ v0).setCell ⟨B, 1, none⟩ v1).setCell ⟨B, 2, none⟩ v2).setCell ⟨B, 3, none⟩ v3 ∧ W5.heap[B]? = some (.cells #[v0, v1, v2, v3] 24 (0, 0)) ∧ ButN Bn w W5 ∧ (∀ k, k ≠ B → W5.heap[k]? = W.heap[k]?) ∧ W5.heap.size = W.heap.size := by
  refine ⟨_, rfl, four_block y v0 v1 v2 v3, (((h.setNew (a := ⟨B, 0, none⟩) hB v0).setNew (a := ⟨B, 1, none⟩) hB v1).setNew (a := ⟨B, 2, none⟩) hB v2).setNew (a := ⟨B, 3, none⟩) hB v3, fun k hk => ?_, by simp⟩
  rw [Below.heap_setCell _ _ _ _ (by simpa using hk), Below.heap_setCell _ _ _ _ (by simpa using hk), Below.heap_setCell _ _ _ _ (by simpa using hk), Below.heap_setCell _ _ _ _ (by simpa using hk)]

set_option maxRecDepth 100000 in
set_option maxHeartbeats 8000000 in
theorem fill1_bad (p : Nat → Prop) (n₀ n₁ b : Nat) (V L : Value) (σ : St) (Bn Bs Bf : Nat) (f left : Nat) (T : Tm) (v : Value) (w : World) (hf : f ≤ 60) (hl : left ≤ 1000) (hor : f = 0 ∨ left = 0) (H : FillSt p n₀ n₁ w b V L σ Bn Bs Bf) (hv : IsTm n₁ w v T)
    (hn : w.heap[Bn]? = some (.cells #[.int .i64 (1000 - (left : Int))] 3 (0, 0))) :
    Calls Try.prog 38 #[v, .int .i64 (61 - (f : Int)), .pointer (some ⟨Bn, 0, none⟩), .pointer (some ⟨Bs, 0, none⟩), .pointer (some ⟨Bf, 0, none⟩)] w (FPost Bn (σ.fill f left T) w) := by
  obtain ⟨k, n, s, a, len, cap, ks, rfl, e, -⟩ := IsTm.form hv
  obtain ⟨sz, hsz⟩ : ∃ sz : Int, sz = 1000 - (left : Int) := ⟨_, rfl⟩
  obtain ⟨d, hd⟩ : ∃ d : Int, d = 61 - (f : Int) := ⟨_, rfl⟩
  have hs0 : 0 ≤ sz := by omega
  have hs1 : sz ≤ 1000 := by omega
  rw [← hsz] at hn
  rw [← hd]
  have hBn := H.lt
  have HBx : Hid ((((w.alloc (.cells #[.int .i64 k, .int .i64 n, .string s, .slice a len cap] 24)).alloc (.cells #[.int .i64 0, .int .i64 0, .string (ByteArray.mk #[]), .slice none 0 0] 24)).setCell ⟨Bn, 0, none⟩ (.int .i64 (sz + 1))).heap[w.heap.size + 1]? = some (.cells #[.int .i64 0, .int .i64 0, .string (ByteArray.mk #[]), .slice none 0 0] 24 (0, 0)) ∧
      ButN Bn w (((w.alloc (.cells #[.int .i64 k, .int .i64 n, .string s, .slice a len cap] 24)).alloc (.cells #[.int .i64 0, .int .i64 0, .string (ByteArray.mk #[]), .slice none 0 0] 24)).setCell ⟨Bn, 0, none⟩ (.int .i64 (sz + 1)))) := by
    refine ⟨?_, (((ButN.refl Bn w).alloc _).alloc _).set _⟩
    rw [Below.heap_setCell _ _ _ _ (by simp; omega)]
    have := World.alloc_heap_new (w.alloc (.cells #[.int .i64 k, .int .i64 n, .string s, .slice a len cap] 24)) (.cells #[.int .i64 0, .int .i64 0, .string (ByteArray.mk #[]), .slice none 0 0] 24)
    simpa using this
  have cn := cell_al (cell_al (show w.cell? ⟨Bn, 0, none⟩ = some (.int .i64 sz) by simp [World.cell?, hn]) (.cells #[.int .i64 k, .int .i64 n, .string s, .slice a len cap] 24)) (.cells #[.int .i64 0, .int .i64 0, .string (ByteArray.mk #[]), .slice none 0 0] 24)
  have fn : ((w.alloc (.cells #[.int .i64 k, .int .i64 n, .string s, .slice a len cap] 24)).alloc (.cells #[.int .i64 0, .int .i64 0, .string (ByteArray.mk #[]), .slice none 0 0] 24)).frozen? ⟨Bn, 0, none⟩ = false := by
    have h1 := (Below.heap_alloc (w.alloc (.cells #[.int .i64 k, .int .i64 n, .string s, .slice a len cap] 24)) (.cells #[.int .i64 0, .int .i64 0, .string (ByteArray.mk #[]), .slice none 0 0] 24) Bn (by simp; omega)).trans ((Below.heap_alloc w (.cells #[.int .i64 k, .int .i64 n, .string s, .slice a len cap] 24) Bn hBn).trans hn)
    simp [World.frozen?, h1]
  have hz := zeroTerm
  have HF : Hid (σ.fill f left T = .bad (if f = 0 then 7 else 3)) := by
    show _ = _
    cases f with
    | zero => rw [St.fill]; rfl
    | succ f =>
      have h0 : left = 0 := by rcases hor with h | h <;> omega
      rw [St.fill, if_pos h0]; rfl
  have hne : w.heap.size + 1 ≠ Bn := by omega
  have HBn := Lib.hid hBn
  have HNE := Lib.hid hne
  clear H hv e hn hBn hne
  by_cases hf0 : f = 0
  · rw [if_pos hf0] at HF
    have hd1 : (d : Int) > 60 := by omega
    clear hor hf hl hf0 hsz hd
    go_enter Try.func38, Try.ntmps38
    go_upto_region 2 with fail
    generalize ((w.alloc (.cells #[.int .i64 k, .int .i64 n, .string s, .slice a len cap] 24)).alloc (.cells #[.int .i64 0, .int .i64 0, .string (ByteArray.mk #[]), .slice none 0 0] 24)).setCell ⟨Bn, 0, none⟩ (.int .i64 (sz + 1)) = w2 at HBx ⊢
    clear cn fn
    obtain ⟨z0, z1, z2, z3⟩ := tbox_cells HBx.out.1
    have zf : ∀ j, w2.frozen? ⟨w.heap.size + 1, j, none⟩ = false := fun j => by simp [World.frozen?, HBx.out.1]
    go_wp2_with fail
    obtain ⟨W5, hW5, hb5, hB5, -, -⟩ := box_but (B := w.heap.size + 1) HBx.out.2 (Nat.le_succ _) HBx.out.1 (.int .i64 0) (.int .i64 0) (.string (ByteArray.mk #[])) (.slice none 0 0)
    rw [← hW5]
    obtain ⟨f0, f1, f2, f3⟩ := tbox_cells hb5
    refine bodyPost_ret (v := .tuple #[.agg #[.int .i64 0, .int .i64 0, .string (ByteArray.mk #[]), .slice none 0 0], .int .i64 7]) (by simp [results, Try.f38, go_sem, f0, f1, f2, f3]) rfl ?_
    rw [HF.out]
    exact ⟨hB5, rfl⟩
  · rw [if_neg hf0] at HF
    have h0 : left = 0 := by rcases hor with h | h <;> omega
    have hd1 : ¬ (d : Int) > 60 := by omega
    have hs2 : sz + 1 > 1000 := by omega
    clear hor hf hl hf0 hsz hd h0
    go_enter Try.func38, Try.ntmps38
    go_upto_region 2 with fail
    have cn2 : (((w.alloc (.cells #[.int .i64 k, .int .i64 n, .string s, .slice a len cap] 24)).alloc (.cells #[.int .i64 0, .int .i64 0, .string (ByteArray.mk #[]), .slice none 0 0] 24)).setCell ⟨Bn, 0, none⟩ (.int .i64 (sz + 1))).cell? ⟨Bn, 0, none⟩ = some (.int .i64 (sz + 1)) := by
      exact World.cell?_setCell_same _ _ _ cn
    generalize ((w.alloc (.cells #[.int .i64 k, .int .i64 n, .string s, .slice a len cap] 24)).alloc (.cells #[.int .i64 0, .int .i64 0, .string (ByteArray.mk #[]), .slice none 0 0] 24)).setCell ⟨Bn, 0, none⟩ (.int .i64 (sz + 1)) = w2 at HBx cn2 ⊢
    clear cn fn
    obtain ⟨z0, z1, z2, z3⟩ := tbox_cells HBx.out.1
    have zf : ∀ j, w2.frozen? ⟨w.heap.size + 1, j, none⟩ = false := fun j => by simp [World.frozen?, HBx.out.1]
    go_wp2_with fail
    obtain ⟨W5, hW5, hb5, hB5, -, -⟩ := box_but (B := w.heap.size + 1) HBx.out.2 (Nat.le_succ _) HBx.out.1 (.int .i64 0) (.int .i64 0) (.string (ByteArray.mk #[])) (.slice none 0 0)
    rw [← hW5]
    obtain ⟨f0, f1, f2, f3⟩ := tbox_cells hb5
    refine bodyPost_ret (v := .tuple #[.agg #[.int .i64 0, .int .i64 0, .string (ByteArray.mk #[]), .slice none 0 0], .int .i64 3]) (by simp [results, Try.f38, go_sem, f0, f1, f2, f3]) rfl ?_
    rw [HF.out]
    exact ⟨hB5, rfl⟩
end Go.Proofs.Ytlnggaepmclbkaa
