/-
  store.Full: the function that it makes, walked.
-/
import Derived.Test.YtnaopkkdidngoaaStoK
namespace Go.Proofs.Ytnaopkkdidngoaa
open Go.RowKit Go.Shelf
set_option linter.unusedVariables false
set_option linter.unusedSimpArgs false

/-- A box that is written whole, in a world of which all lies as it lay, but one box. -/
theorem box_but {w W : World} {B Bn : Nat} (h : ButN Bn w W) (hB : w.heap.size ≤ B) {c0 c1 c2 c3 : Value} (y : W.heap[B]? = some (.cells #[c0, c1, c2, c3] 25 (0, 0))) (v0 v1 v2 v3 : Value) :
    ∃ W5, W5 = (((W.setCell ⟨B, 0, none⟩ v0).setCell ⟨B, 1, none⟩ v1).setCell ⟨B, 2, none⟩ v2).setCell ⟨B, 3, none⟩ v3 ∧ W5.heap[B]? = some (.cells #[v0, v1, v2, v3] 25 (0, 0)) ∧ ButN Bn w W5 ∧ (∀ k, k ≠ B → W5.heap[k]? = W.heap[k]?) ∧ W5.heap.size = W.heap.size := by
  refine ⟨_, rfl, four_block y v0 v1 v2 v3, (((h.setNew (a := ⟨B, 0, none⟩) hB v0).setNew (a := ⟨B, 1, none⟩) hB v1).setNew (a := ⟨B, 2, none⟩) hB v2).setNew (a := ⟨B, 3, none⟩) hB v3, fun k hk => ?_, by simp⟩
  rw [Below.heap_setCell _ _ _ _ (by simpa using hk), Below.heap_setCell _ _ _ _ (by simpa using hk), Below.heap_setCell _ _ _ _ (by simpa using hk), Below.heap_setCell _ _ _ _ (by simpa using hk)]

set_option maxRecDepth 100000 in
set_option maxHeartbeats 8000000 in
theorem fill1_bad (p : Nat → Prop) (n₀ n₁ b : Nat) (V L : Value) (σ : St) (Bn Bs Bf : Nat) (f left : Nat) (T : Tm) (v : Value) (w : World) (hf : f ≤ 60) (hl : left ≤ 1000) (hor : f = 0 ∨ left = 0) (H : FillAt p n₀ n₁ w b V L σ Bn Bs Bf) (hv : IsTm n₁ w v T)
    (hn : w.heap[Bn]? = some (.cells #[.int .i64 (1000 - (left : Int))] 3 (0, 0))) :
    Calls Try.prog 28 #[v, .int .i64 (61 - (f : Int)), .pointer (some ⟨Bn, 0, none⟩), .pointer (some ⟨Bs, 0, none⟩), .pointer (some ⟨Bf, 0, none⟩)] w (FPost Bn (σ.fill f left T) w) := by
  obtain ⟨k, n, s, a, len, cap, ks, rfl, e, -⟩ := IsTm.form hv
  obtain ⟨sz, hsz⟩ : ∃ sz : Int, sz = 1000 - (left : Int) := ⟨_, rfl⟩
  obtain ⟨d, hd⟩ : ∃ d : Int, d = 61 - (f : Int) := ⟨_, rfl⟩
  have hs0 : 0 ≤ sz := by omega
  have hs1 : sz ≤ 1000 := by omega
  rw [← hsz] at hn
  rw [← hd]
  have hBn := H.lt
  have HBx : Hid ((((w.alloc (.cells #[.int .i64 k, .int .i64 n, .string s, .slice a len cap] 25)).alloc (.cells #[.int .i64 0, .int .i64 0, .string (ByteArray.mk #[]), .slice none 0 0] 25)).setCell ⟨Bn, 0, none⟩ (.int .i64 (sz + 1))).heap[w.heap.size + 1]? = some (.cells #[.int .i64 0, .int .i64 0, .string (ByteArray.mk #[]), .slice none 0 0] 25 (0, 0)) ∧
      ButN Bn w (((w.alloc (.cells #[.int .i64 k, .int .i64 n, .string s, .slice a len cap] 25)).alloc (.cells #[.int .i64 0, .int .i64 0, .string (ByteArray.mk #[]), .slice none 0 0] 25)).setCell ⟨Bn, 0, none⟩ (.int .i64 (sz + 1)))) := by
    refine ⟨?_, (((ButN.refl Bn w).alloc _).alloc _).set _⟩
    rw [Below.heap_setCell _ _ _ _ (by simp; omega)]
    have := World.alloc_heap_new (w.alloc (.cells #[.int .i64 k, .int .i64 n, .string s, .slice a len cap] 25)) (.cells #[.int .i64 0, .int .i64 0, .string (ByteArray.mk #[]), .slice none 0 0] 25)
    simpa using this
  have cn := cell_al (cell_al (show w.cell? ⟨Bn, 0, none⟩ = some (.int .i64 sz) by simp [World.cell?, hn]) (.cells #[.int .i64 k, .int .i64 n, .string s, .slice a len cap] 25)) (.cells #[.int .i64 0, .int .i64 0, .string (ByteArray.mk #[]), .slice none 0 0] 25)
  have fn : ((w.alloc (.cells #[.int .i64 k, .int .i64 n, .string s, .slice a len cap] 25)).alloc (.cells #[.int .i64 0, .int .i64 0, .string (ByteArray.mk #[]), .slice none 0 0] 25)).frozen? ⟨Bn, 0, none⟩ = false := by
    have h1 := (Below.heap_alloc (w.alloc (.cells #[.int .i64 k, .int .i64 n, .string s, .slice a len cap] 25)) (.cells #[.int .i64 0, .int .i64 0, .string (ByteArray.mk #[]), .slice none 0 0] 25) Bn (by simp; omega)).trans ((Below.heap_alloc w (.cells #[.int .i64 k, .int .i64 n, .string s, .slice a len cap] 25) Bn hBn).trans hn)
    simp [World.frozen?, h1]
  have hz := zeroTerm
  have HF : Hid (σ.fill f left T = .bad (if f = 0 then 7 else 3)) := by
    show _ = _
    cases f with
    | zero => rw [St.fill]; rfl
    | succ f =>
      have h0 : left = 0 := by rcases hor with h | h <;> omega
      rw [St.fill, if_pos h0]; rfl
  have hne : w.heap.size + 1 ≠ Bn := by omega
  have HBn := Lib.hid hBn
  have HNE := Lib.hid hne
  clear H hv e hn hBn hne
  by_cases hf0 : f = 0
  · rw [if_pos hf0] at HF
    have hd1 : (d : Int) > 60 := by omega
    clear hor hf hl hf0 hsz hd
    go_enter Try.func28, Try.ntmps28
    go_upto_region 2 with fail
    generalize ((w.alloc (.cells #[.int .i64 k, .int .i64 n, .string s, .slice a len cap] 25)).alloc (.cells #[.int .i64 0, .int .i64 0, .string (ByteArray.mk #[]), .slice none 0 0] 25)).setCell ⟨Bn, 0, none⟩ (.int .i64 (sz + 1)) = w2 at HBx ⊢
    clear cn fn
    obtain ⟨z0, z1, z2, z3⟩ := tbox_cells HBx.out.1
    have zf : ∀ j, w2.frozen? ⟨w.heap.size + 1, j, none⟩ = false := fun j => by simp [World.frozen?, HBx.out.1]
    go_wp2_with fail
    obtain ⟨W5, hW5, hb5, hB5, -, -⟩ := box_but (B := w.heap.size + 1) HBx.out.2 (Nat.le_succ _) HBx.out.1 (.int .i64 0) (.int .i64 0) (.string (ByteArray.mk #[])) (.slice none 0 0)
    rw [← hW5]
    obtain ⟨f0, f1, f2, f3⟩ := tbox_cells hb5
    refine bodyPost_ret (v := .tuple #[.agg #[.int .i64 0, .int .i64 0, .string (ByteArray.mk #[]), .slice none 0 0], .int .i64 7]) (by simp [results, Try.f28, go_sem, f0, f1, f2, f3]) rfl ?_
    rw [HF.out]
    exact ⟨hB5, rfl⟩
  · rw [if_neg hf0] at HF
    have h0 : left = 0 := by rcases hor with h | h <;> omega
    have hd1 : ¬ (d : Int) > 60 := by omega
    have hs2 : sz + 1 > 1000 := by omega
    clear hor hf hl hf0 hsz hd h0
    go_enter Try.func28, Try.ntmps28
    go_upto_region 2 with fail
    have cn2 : (((w.alloc (.cells #[.int .i64 k, .int .i64 n, .string s, .slice a len cap] 25)).alloc (.cells #[.int .i64 0, .int .i64 0, .string (ByteArray.mk #[]), .slice none 0 0] 25)).setCell ⟨Bn, 0, none⟩ (.int .i64 (sz + 1))).cell? ⟨Bn, 0, none⟩ = some (.int .i64 (sz + 1)) := by
      exact World.cell?_setCell_same _ _ _ cn
    generalize ((w.alloc (.cells #[.int .i64 k, .int .i64 n, .string s, .slice a len cap] 25)).alloc (.cells #[.int .i64 0, .int .i64 0, .string (ByteArray.mk #[]), .slice none 0 0] 25)).setCell ⟨Bn, 0, none⟩ (.int .i64 (sz + 1)) = w2 at HBx cn2 ⊢
    clear cn fn
    obtain ⟨z0, z1, z2, z3⟩ := tbox_cells HBx.out.1
    have zf : ∀ j, w2.frozen? ⟨w.heap.size + 1, j, none⟩ = false := fun j => by simp [World.frozen?, HBx.out.1]
    go_wp2_with fail
    obtain ⟨W5, hW5, hb5, hB5, -, -⟩ := box_but (B := w.heap.size + 1) HBx.out.2 (Nat.le_succ _) HBx.out.1 (.int .i64 0) (.int .i64 0) (.string (ByteArray.mk #[])) (.slice none 0 0)
    rw [← hW5]
    obtain ⟨f0, f1, f2, f3⟩ := tbox_cells hb5
    refine bodyPost_ret (v := .tuple #[.agg #[.int .i64 0, .int .i64 0, .string (ByteArray.mk #[]), .slice none 0 0], .int .i64 3]) (by simp [results, Try.f28, go_sem, f0, f1, f2, f3]) rfl ?_
    rw [HF.out]
    exact ⟨hB5, rfl⟩
end Go.Proofs.Ytnaopkkdidngoaa
