/-
  unify.step.
-/
import Derived.Test.YtfjnajngelemkaaZUniD
import Derived.Deep.DeepCutAuto
namespace Go.Proofs.Ytfjnajngelemkaa
open Go.RowKit Go.Shelf
open Classical
set_option linter.unusedVariables false
set_option linter.unusedSimpArgs false

theorem zeroPairs (w : World) : (zeroValue 91).run Try.prog w = .ok (.agg #[.slice none 0 0, .slice none 0 0]) w := by kernel_rfl
theorem two_block {W : World} {B : Nat} {c0 c1 : Value} {t : TypeId} {z : Nat × Nat} (h : W.heap[B]? = some (.cells #[c0, c1] t z)) (v0 v1 : Value) : ((W.setCell ⟨B, 0, none⟩ v0).setCell ⟨B, 1, none⟩ v1).heap[B]? = some (.cells #[v0, v1] t z) := by
  have h1 := set_block (o := 1) (set_block (o := 0) h v0) v1
  rw [h1]
  rfl
/-- A block that holds no number is none of a term's. -/
theorem tm_avoid {p : Nat → Prop} {W : World} {v : Value} {T : Tm} {r : Nat} (hno : ∀ j x, W.cell? ⟨r, j, none⟩ ≠ some (.int .i64 x)) (h : TmIn p W v T) : TmIn (fun c => p c ∧ c ≠ r) W v T := by
  induction h with
  | mk hk hn hs hc hm ha vs K N S hv hkid ih =>
    refine .mk hk hn hs hc hm ha vs K N S (fun i hi => ?_) ih
    obtain ⟨⟨b, o, e, hb, c0, c1, c2, c3⟩⟩ := hv i hi
    exact ⟨⟨b, o, e, ⟨hb, fun e' => by subst e'; exact hno _ _ c0⟩, c0, c1, c2, c3⟩⟩
theorem ts_avoid {p : Nat → Prop} {W : World} {v : Value} {ks : List Tm} {r : Nat} (hno : ∀ j x, W.cell? ⟨r, j, none⟩ ≠ some (.int .i64 x)) (h : TsIn p W v ks) : TsIn (fun c => p c ∧ c ≠ r) W v ks :=
  (tm_avoid hno (h.term (k := 0) (n := 0) (s := ByteArray.mk #[]) ⟨by decide, by decide⟩ ⟨by decide, by decide⟩ (Nat.zero_le _))).kids
theorem no_ints {W : World} {r : Nat} {a1 a2 : Option Addr} {l1 c1 l2 c2 : Nat} {t : TypeId} (h : W.heap[r]? = some (.cells #[.slice a1 l1 c1, .slice a2 l2 c2] t (0, 0))) : ∀ j x, W.cell? ⟨r, j, none⟩ ≠ some (.int .i64 x) := by
  intro j x e
  simp only [World.cell?, h] at e
  match j, e with
  | 0, e => simp at e
  | 1, e => simp at e
  | j + 2, e => simp at e
theorem StAt.but {n₀ : Nat} {W W' : World} {b r : Nat} {V L : Value} {σ : St} (h : StAt (Oth W b V L) n₀ W b V L σ) (hr : Oth W b V L r) (hno : ∀ j x, W.cell? ⟨r, j, none⟩ ≠ some (.int .i64 x)) (hB : ButN r W W') : StAt (Oth W' b V L) n₀ W' b V L σ := by
  obtain ⟨xs, h1, h2⟩ := h.rV
  have hb : ∀ k, V.ownBlock = some k → W'.heap[k]? = W.heap[k]? := fun k hk => hB.same k (h1.lt k hk).2 (fun e => hr.2.2.1 (e ▸ hk))
  refine ⟨(hB.same b h.lt (fun e => hr.2.1 e.symm)).trans h.box, h.lo, fun k hk => hk, ⟨xs, h1.later hb, ⟨h2.len, fun i x o e1 e2 => ?_⟩⟩, h.rL.later fun k hk => hB.same k (h.rL.lt k hk).2 (fun e => hr.2.2.2 (e ▸ hk)), h.ok⟩
  obtain ⟨g1, g2⟩ := h2.at_ i x o e1 e2
  exact ⟨g1, fun U hU => (tm_avoid hno (g2 U hU)).carry (fun c hc => hB.same c hc.1.1 hc.2) (fun c hc => ⟨Nat.lt_of_lt_of_le hc.1.1 hB.size, hc.1.2⟩)⟩
theorem Mut.but {w W W' : World} {b r : Nat} {V L V' L' : Value} (m : Mut w b V L W V' L') (hr : w.heap.size ≤ r) (hB : ButN r W W') : Mut w b V L W' V' L' :=
  ⟨hB.os.trans m.os, hB.tape.trans m.tape, hB.output.trans m.output, Nat.le_trans m.size hB.size, fun k hk => by
    have h1 := m.keep k hk
    have := hk.1
    exact ⟨(hB.same k h1.2.1 (by omega)).trans h1.1, Nat.lt_of_lt_of_le h1.2.1 hB.size, h1.2.2⟩⟩
theorem ts_but {W W' : World} {b r : Nat} {V L : Value} {v : Value} {ks : List Tm} (hno : ∀ j x, W.cell? ⟨r, j, none⟩ ≠ some (.int .i64 x)) (hB : ButN r W W') (h : TsIn (Oth W b V L) W v ks) : TsIn (Oth W' b V L) W' v ks :=
  (ts_avoid hno h).carry (fun c hc => hB.same c hc.1.1 hc.2) (fun c hc => ⟨Nat.lt_of_lt_of_le hc.1.1 hB.size, hc.1.2⟩)

/-- Where terms may lie, behind the first blocks that a step makes. -/
def Pb (w : World) (b : Nat) (V L : Value) (W : World) (c : Nat) : Prop := Oth w b V L c ∨ (w.heap.size + 3 ≤ c ∧ c < W.heap.size)
theorem Pb.lt {w W : World} {b : Nat} {V L : Value} (hs : w.heap.size + 3 ≤ W.heap.size) {c : Nat} (h : Pb w b V L W c) : c < W.heap.size := by
  rcases h with h | h
  · have := h.1; omega
  · exact h.2
theorem Pb.ne {w W : World} {b : Nat} {V L : Value} {c : Nat} (h : Pb w b V L W c) : c ≠ w.heap.size ∧ c ≠ w.heap.size + 1 ∧ c ≠ w.heap.size + 1 + 1 := by
  rcases h with h | h
  · have := h.1; omega
  · omega
theorem Pb.grow {w W W' : World} {b : Nat} {V L : Value} (hs : W.heap.size ≤ W'.heap.size) {c : Nat} (h : Pb w b V L W c) : Pb w b V L W' c := h.imp id fun h => ⟨h.1, Nat.lt_of_lt_of_le h.2 hs⟩
theorem Pb.oth {p : Nat → Prop} {n₀ : Nat} {w W : World} {b : Nat} {V L : Value} {σ : St} (hS : StAt p n₀ w b V L σ) (hB : Below w.heap.size w W) {c : Nat} (h : Pb w b V L W c) : Oth W b V L c := by
  rcases h with h | h
  · exact h.below hB
  · exact hS.fresh ⟨by omega, h.2⟩
theorem Pb.of {w W W' : World} {b : Nat} {V L : Value} (h3 : w.heap.size + 3 ≤ W.heap.size) (hs : W.heap.size ≤ W'.heap.size) {c : Nat} (h : Pb w b V L W c ∨ (W.heap.size ≤ c ∧ c < W'.heap.size)) : Pb w b V L W' c := by
  rcases h with h | h
  · exact h.grow hs
  · exact .inr ⟨by omega, h.2⟩
/-- What one step answers. -/
def StepP (n₀ N : Nat) (w : World) (b : Nat) (V L : Value) (S : Stp) (e : Ending) (w' : World) : Prop :=
  ∃ sa la ca sb lb cb, e = .returned (.tuple #[.agg #[.slice sa la ca, .slice sb lb cb], .int .i64 (S.lv : Int), .bool S.ok]) ∧ ∃ L', StAt (Oth w' b V L') n₀ w' b V L' S.σ ∧ Mut w b V L w' V L' ∧ TsIn (Oth w' b V L') w' (.slice sa la ca) (S.ks.map Prod.fst) ∧ TsIn (Oth w' b V L') w' (.slice sb lb cb) (S.ks.map Prod.snd)

set_option maxRecDepth 100000 in
set_option maxHeartbeats 16000000 in
theorem ustep_at {n₀ N : Nat} {w : World} {b lb : Nat} {V L : Value} {σ : St} (h : StAt (Oth w b V L) n₀ w b V L σ) (hn₀ : n₀ ≤ w.heap.size) (hL : ChainAt w lb N) (hLo : Oth w b V L lb) (u v : Value) (A B : Tm) (hu : TmIn (Oth w b V L) w u A) (hv : TmIn (Oth w b V L) w v B) (hgA : GV N A) (hgB : GV N B) (hgs : σ.Gv N) (hs : A.size ≤ 2000000) (ht : B.size ≤ 2000000) :
    Calls Try.prog 60 #[.pointer (some ⟨b, 0, none⟩), .pointer (some ⟨lb, 0, none⟩), u, v] w (StepP n₀ N w b V L (σ.stp N (σ.fin A) (σ.fin B))) := by
  obtain ⟨k1, n1, s1, a1, l1, c1, ks1, rfl, eA, -⟩ := hu.form
  obtain ⟨k2, n2, s2, a2, l2, c2, ks2, rfl, eB, -⟩ := hv.form
  clear eA eB
  obtain ⟨w3, hw3⟩ : ∃ w3, w3 = ((w.alloc (.cells #[.int .i64 k1, .int .i64 n1, .string s1, .slice a1 l1 c1] 24)).alloc (.cells #[.int .i64 k2, .int .i64 n2, .string s2, .slice a2 l2 c2] 24)).alloc (.cells #[.slice none 0 0, .slice none 0 0] 91) := ⟨_, rfl⟩
  have hb3 : Below w.heap.size w w3 := by rw [hw3]; exact (((Below.refl _ w).alloc (Nat.le_refl _) _).alloc (by simp) _).alloc (by simp; omega) _
  have hx6 : w3.heap[w.heap.size]? = some (.cells #[.int .i64 k1, .int .i64 n1, .string s1, .slice a1 l1 c1] 24 (0, 0)) := by rw [hw3]; exact (Below.heap_alloc _ _ _ (by simp; omega)).trans ((Below.heap_alloc _ _ _ (by simp)).trans (World.alloc_heap_new _ _))
  have hx7 : w3.heap[w.heap.size + 1]? = some (.cells #[.int .i64 k2, .int .i64 n2, .string s2, .slice a2 l2 c2] 24 (0, 0)) := by rw [hw3]; exact (Below.heap_alloc _ _ _ (by simp)).trans (by simpa using World.alloc_heap_new (w.alloc (.cells #[.int .i64 k1, .int .i64 n1, .string s1, .slice a1 l1 c1] 24)) (.cells #[.int .i64 k2, .int .i64 n2, .string s2, .slice a2 l2 c2] 24))
  have hx8 : w3.heap[w.heap.size + 1 + 1]? = some (.cells #[.slice none 0 0, .slice none 0 0] 91 (0, 0)) := by rw [hw3]; simpa using World.alloc_heap_new ((w.alloc (.cells #[.int .i64 k1, .int .i64 n1, .string s1, .slice a1 l1 c1] 24)).alloc (.cells #[.int .i64 k2, .int .i64 n2, .string s2, .slice a2 l2 c2] 24)) (.cells #[.slice none 0 0, .slice none 0 0] 91)
  have hs3 : w3.heap.size = w.heap.size + 3 := by rw [hw3]; simp
  obtain ⟨x0, x1, x2, x3⟩ := tbox_cells hx6
  obtain ⟨y0, y1, y2, y3⟩ := tbox_cells hx7
  have hz := zeroTerm
  have hzp := zeroPairs
  have HW := Lib.hid hw3
  have hS3 := h.step hb3
  have hL3 := hL.below hb3
  have hA3 : TmIn (Pb w b V L w3) w3 (.agg #[.int .i64 k1, .int .i64 n1, .string s1, .slice a1 l1 c1]) A := hu.carry (fun c hc => hb3.block c hc.1) (fun c hc => .inl hc)
  have hB3 : TmIn (Pb w b V L w3) w3 (.agg #[.int .i64 k2, .int .i64 n2, .string s2, .slice a2 l2 c2]) B := hv.carry (fun c hc => hb3.block c hc.1) (fun c hc => .inl hc)
  have wkA : ∀ w', Below w3.heap.size w3 w' → Calls Try.prog 76 #[.pointer (some ⟨b, 0, none⟩), .agg #[.int .i64 k1, .int .i64 n1, .string s1, .slice a1 l1 c1]] w' fun e w'' => ∃ k n s a l c, e = .returned (.agg #[.int .i64 k, .int .i64 n, .string s, .slice a l c]) ∧ TmIn (Pb w b V L w'') w'' (.agg #[.int .i64 k, .int .i64 n, .string s, .slice a l c]) (σ.fin A) ∧ Below w'.heap.size w' w'' := fun w' hb =>
    (uwalk_at (hS3.step hb) (p := Pb w b V L w') (fun c hc => hc.lt (by have := hb.size; omega)) _ A (hA3.carry (fun c hc => hb.block c (hc.lt (by omega))) (fun c hc => hc.grow hb.size)) hs).mono fun e w'' hh => by
      obtain ⟨k, n, s, a, l, c, rfl, hT, hB⟩ := hh
      exact ⟨k, n, s, a, l, c, rfl, hT.carry (fun _ _ => rfl) (fun c hc => Pb.of (by have := hb.size; omega) hB.size hc), hB⟩
  have wkB : ∀ w', Below w3.heap.size w3 w' → Calls Try.prog 76 #[.pointer (some ⟨b, 0, none⟩), .agg #[.int .i64 k2, .int .i64 n2, .string s2, .slice a2 l2 c2]] w' fun e w'' => ∃ k n s a l c, e = .returned (.agg #[.int .i64 k, .int .i64 n, .string s, .slice a l c]) ∧ TmIn (Pb w b V L w'') w'' (.agg #[.int .i64 k, .int .i64 n, .string s, .slice a l c]) (σ.fin B) ∧ Below w'.heap.size w' w'' := fun w' hb =>
    (uwalk_at (hS3.step hb) (p := Pb w b V L w') (fun c hc => hc.lt (by have := hb.size; omega)) _ B (hB3.carry (fun c hc => hb.block c (hc.lt (by omega))) (fun c hc => hc.grow hb.size)) ht).mono fun e w'' hh => by
      obtain ⟨k, n, s, a, l, c, rfl, hT, hB⟩ := hh
      exact ⟨k, n, s, a, l, c, rfl, hT.carry (fun _ _ => rfl) (fun c hc => Pb.of (by have := hb.size; omega) hB.size hc), hB⟩
  have hsX : (σ.fin A).size ≤ 2000000 := by have := fin_size h.ok A; omega
  have hsY : (σ.fin B).size ≤ 2000000 := by have := fin_size h.ok B; omega
  have hgX := fin_gv h.ok.ranked hgs hgA
  have hgY := fin_gv h.ok.ranked hgs hgB
  generalize σ.fin A = X at *
  generalize σ.fin B = Y at *
  have HG := Lib.hid (And.intro hb3 (And.intro hx6 (And.intro hx7 (And.intro hx8 (And.intro hs3 (And.intro hS3 (And.intro hL (And.intro hLo (And.intro hgX (And.intro hgY (And.intro hsX (And.intro hsY (And.intro hn₀ h)))))))))))))
  clear h hu hv hgA hgB hgs hs ht hL hLo hA3 hB3 hS3 hL3 hsX hsY hgX hgY hb3 hx6 hx8 hs3 hw3 hn₀
  have HS : ∀ w' : World, w'.heap[w.heap.size + 1]? = w3.heap[w.heap.size + 1]? → (w'.cell? ⟨w.heap.size + 1, 0, none⟩ = some (.int .i64 k2) ∧ w'.cell? ⟨w.heap.size + 1, 1, none⟩ = some (.int .i64 n2) ∧ w'.cell? ⟨w.heap.size + 1, 2, none⟩ = some (.string s2) ∧ w'.cell? ⟨w.heap.size + 1, 3, none⟩ = some (.slice a2 l2 c2)) := fun w' hw' => tbox_cells (hw'.trans hx7)
  have hx6 := HG.out.2.1
  clear y0 y1 y2 y3
  go_enter Try.func60, Try.ntmps60
  go_upto_region 1 with fail
  rw [← HW.out]
  go_cut [] from 11 to 21 (fun wc => ∃ (k3 n3 : Int) (s3 : ByteArray) (a3 : Option Addr) (l3 c3 : Nat) (k4 n4 : Int) (s4 : ByteArray) (a4 : Option Addr) (l4 c4 : Nat), Hid (wc.heap[w.heap.size]? = some (.cells #[.int .i64 k3, .int .i64 n3, .string s3, .slice a3 l3 c3] 24 (0, 0)) ∧ wc.heap[w.heap.size + 1]? = some (.cells #[.int .i64 k4, .int .i64 n4, .string s4, .slice a4 l4 c4] 24 (0, 0)) ∧ wc.heap[w.heap.size + 1 + 1]? = some (.cells #[.slice none 0 0, .slice none 0 0] 91 (0, 0)) ∧ TmIn (Pb w b V L wc) wc (.agg #[.int .i64 k3, .int .i64 n3, .string s3, .slice a3 l3 c3]) X ∧ TmIn (Pb w b V L wc) wc (.agg #[.int .i64 k4, .int .i64 n4, .string s4, .slice a4 l4 c4]) Y ∧ Below w.heap.size w wc ∧ w.heap.size + 3 ≤ wc.heap.size))
  case first =>
    refine wp_region_last (S := (fun w' : World => w'.cell? ⟨w.heap.size + 1, 0, none⟩ = some (.int .i64 k2) ∧ w'.cell? ⟨w.heap.size + 1, 1, none⟩ = some (.int .i64 n2) ∧ w'.cell? ⟨w.heap.size + 1, 2, none⟩ = some (.string s2) ∧ w'.cell? ⟨w.heap.size + 1, 3, none⟩ = some (.slice a2 l2 c2))) 7 (by kernel_rfl) (by kernel_rfl) (HS _ rfl) (fun hHeld => ?_)
    have hdr : Below w3.heap.size w3 w3.drew := (Below.refl _ _).drew
    refine wpAnyH_take (i := 0) (v := ?_) rfl (by kernel_rfl) (by kernel_rfl) (by kernel_rfl) (fun _ _ _ h => h) (Or.inl ⟨by kernel_rfl, ?_⟩) hHeld ?_
    rotate_left
    · intro w0 hSw
      (try dsimp only at hSw)
      go_simp
      try (with_reducible rfl)
    try simp only [Act.put, List.setIfInBounds_toArray, List.set_cons_zero, List.set_cons_succ]
    refine wpAnyH_take (i := 3) (v := ?_) rfl (by kernel_rfl) (by kernel_rfl) (by kernel_rfl) (fun _ _ _ h => h) (Or.inl ⟨by kernel_rfl, ?_⟩) hHeld ?_
    rotate_left
    · intro w0 hSw
      (try dsimp only at hSw)
      go_simp
      try (with_reducible rfl)
    try simp only [Act.put, List.setIfInBounds_toArray, List.set_cons_zero, List.set_cons_succ]
    refine wpAnyH_take (i := 4) (v := ?_) rfl (by kernel_rfl) (by kernel_rfl) (by kernel_rfl) (fun _ _ _ h => h) (Or.inl ⟨by kernel_rfl, ?_⟩) hHeld ?_
    rotate_left
    · intro w0 hSw
      (try dsimp only at hSw)
      go_simp
      try (with_reducible rfl)
    try simp only [Act.put, List.setIfInBounds_toArray, List.set_cons_zero, List.set_cons_succ]
    have hxd := tbox_below hx6 hdr
    have hE0 := hdr
    generalize w3.drew = wD at hHeld hdr hE0 hxd ⊢
    obtain ⟨x0, x1, x2, x3⟩ := tbox_cells hxd
    refine wpAnyH_ready (rs := [1]) (by kernel_rfl) (by simp) ?_
    refine AllReadyH.cons rfl (fun K hK => ?_) AllReadyH.nil
    go_simp
    refine hK.out _ _ (HS _ (hE0.block _ (by have := HG.out.2.2.2.2.1; omega))) (fun hh1 => ?_)
    clear hK K
    try simp only [Act.put, List.setIfInBounds_toArray, List.set_cons_zero, List.set_cons_succ]
    refine wpAnyH_ready (rs := [2]) (by kernel_rfl) (by simp) ?_
    refine AllReadyH.cons rfl (fun K hK => ?_) AllReadyH.nil
    go_simp
    refine (wkA _ hE0).mono ?_
    rintro e W1 ⟨k3, n3, s3, a3, l3, c3, rfl, hT3, hb1⟩
    go_wp2_with fail
    have hE1 : Below w3.heap.size w3 W1 := hE0.trans (hb1.mono hE0.size)
    refine hK.out _ _ (HS _ (hE1.block _ (by have := HG.out.2.2.2.2.1; omega))) (fun hh2 => ?_)
    clear hK K
    try simp only [Act.put, List.setIfInBounds_toArray, List.set_cons_zero, List.set_cons_succ]
    refine wpAnyH_ready (rs := [5]) (by kernel_rfl) (by simp) ?_
    refine AllReadyH.cons rfl (fun K hK => ?_) AllReadyH.nil
    go_simp
    refine (wkB _ hE1).mono ?_
    rintro e W2 ⟨k4, n4, s4, a4, l4, c4, rfl, hT4, hb2⟩
    go_wp2_with fail
    have hE2 : Below w3.heap.size w3 W2 := hE1.trans (hb2.mono hE1.size)
    refine hK.out _ _ (HS _ (hE2.block _ (by have := HG.out.2.2.2.2.1; omega))) (fun hh3 => ?_)
    clear hK K
    try simp only [Act.put, List.setIfInBounds_toArray, List.set_cons_zero, List.set_cons_succ]
    have hs2 : w.heap.size + 3 ≤ W2.heap.size := by have := HG.out.2.2.2.2.1; have := hE2.size; omega
    have hT3' : TmIn (Pb w b V L W2) W2 (.agg #[.int .i64 k3, .int .i64 n3, .string s3, .slice a3 l3 c3]) X := hT3.carry (fun c hc => hb2.block c (hc.lt (by have := HG.out.2.2.2.2.1; have := hE1.size; omega))) (fun c hc => hc.grow hb2.size)
    have q6 := tbox_below hx6 hE2
    have q7 := tbox_below hx7 hE2
    have q8 := tbox_below HG.out.2.2.2.1 hE2
    have hB02 : Below w.heap.size w W2 := HG.out.1.trans (hE2.mono HG.out.1.size)
    obtain ⟨W3, hW3, hb6, hT6, hB6, hs6⟩ := boxed_new (w := w) (q := Pb w b V L W2) q6 hT3' (fun c hc => hc.ne.1) (fun _ hc => hc) hB02 (Nat.le_refl _)
    have ho6 : ∀ c, c ≠ w.heap.size → W3.heap[c]? = W2.heap[c]? := fun c hc => by
      rw [hW3, Below.heap_setCell _ _ _ _ (by simpa using hc), Below.heap_setCell _ _ _ _ (by simpa using hc), Below.heap_setCell _ _ _ _ (by simpa using hc), Below.heap_setCell _ _ _ _ (by simpa using hc)]
    have p7 := (ho6 (w.heap.size + 1) (by omega)).trans q7
    have p8 := (ho6 (w.heap.size + 1 + 1) (by omega)).trans q8
    have hT4' : TmIn (Pb w b V L W2) W3 (.agg #[.int .i64 k4, .int .i64 n4, .string s4, .slice a4 l4 c4]) Y := hT4.carry (fun c hc => ho6 c hc.ne.1) (fun _ hc => hc)
    obtain ⟨W4, hW4, hb7, hT7, hB7, hs7⟩ := boxed_new (w := w) (q := Pb w b V L W2) p7 hT4' (fun c hc => hc.ne.2.1) (fun _ hc => hc) hB6 (Nat.le_succ _)
    have ho7 : ∀ c, c ≠ w.heap.size + 1 → W4.heap[c]? = W3.heap[c]? := fun c hc => by
      rw [hW4, Below.heap_setCell _ _ _ _ (by simpa using hc), Below.heap_setCell _ _ _ _ (by simpa using hc), Below.heap_setCell _ _ _ _ (by simpa using hc), Below.heap_setCell _ _ _ _ (by simpa using hc)]
    have hfin : Hid (W4.heap[w.heap.size]? = some (.cells #[.int .i64 k3, .int .i64 n3, .string s3, .slice a3 l3 c3] 24 (0, 0)) ∧ W4.heap[w.heap.size + 1]? = some (.cells #[.int .i64 k4, .int .i64 n4, .string s4, .slice a4 l4 c4] 24 (0, 0)) ∧ W4.heap[w.heap.size + 1 + 1]? = some (.cells #[.slice none 0 0, .slice none 0 0] 91 (0, 0)) ∧ TmIn (Pb w b V L W4) W4 (.agg #[.int .i64 k3, .int .i64 n3, .string s3, .slice a3 l3 c3]) X ∧ TmIn (Pb w b V L W4) W4 (.agg #[.int .i64 k4, .int .i64 n4, .string s4, .slice a4 l4 c4]) Y ∧ Below w.heap.size w W4 ∧ w.heap.size + 3 ≤ W4.heap.size) :=
      ⟨(ho7 _ (by omega)).trans hb6, hb7, (ho7 _ (by omega)).trans p8, hT6.carry (fun c hc => ho7 c hc.ne.2.1) (fun c hc => hc.grow (by omega)), hT7.carry (fun _ _ => rfl) (fun c hc => hc.grow (by omega)), hB7, by omega⟩
    obtain ⟨g0, g1, g2, g3⟩ := tbox_cells q6
    have gf : ∀ j, W2.frozen? ⟨w.heap.size, j, none⟩ = false := fun j => by simp [World.frozen?, q6]
    obtain ⟨i0, i1, i2, i3⟩ := tbox_cells p7
    have fi : ∀ j, W3.frozen? ⟨w.heap.size + 1, j, none⟩ = false := fun j => by simp [World.frozen?, p7]
    have HW3 := Lib.hid hW3
    have HW4 := Lib.hid hW4
    have h73 : W3.heap[w.heap.size + 1]? = w3.heap[w.heap.size + 1]? := p7.trans hx7.symm
    clear hT3 hT4 hT3' hT4' hT6 hT7 hb6 hb7 ho6 ho7 q6 q7 q8 p7 p8 hB02 hB6 hB7 hs6 hs7 hs2 hE0 hE1 hE2 hb1 hb2 hxd hdr hh1 hh2 hW3 hW4 x0 x1 x2 x3
    refine wpAnyH_ready (rs := [6]) (by kernel_rfl) (by simp) ?_
    refine AllReadyH.cons rfl (fun K hK => ?_) AllReadyH.nil
    go_simp
    rw [← HW3.out]
    refine hK.out _ _ (HS _ h73) (fun hh4 => ?_)
    clear hK K g0 g1 g2 g3 gf
    try simp only [Act.put, List.setIfInBounds_toArray, List.set_cons_zero, List.set_cons_succ]
    refine wpAnyH_done (by kernel_rfl) ?_ _
    refine last_of_list rfl ?_
    go_wp2_with fail
    rw [← HW4.out]
    go_meet
    exact ⟨k3, n3, s3, a3, l3, c3, k4, n4, s4, a4, l4, c4, hfin⟩
  case rest =>
    obtain ⟨k3, n3, s3, a3, l3, c3, k4, n4, s4, a4, l4, c4, HC⟩ := hcut
    clear wkA wkB x0 x1 x2 x3 hx7 hx6 HS
    obtain ⟨z6, z7, z8, tX, tY, hB, hsc⟩ := id HC.out
    obtain ⟨x0, x1, x2, x3⟩ := tbox_cells z6
    obtain ⟨y0, y1, y2, y3⟩ := tbox_cells z7
    have ekX : X.kind = k3 := by obtain ⟨_, _, _, _, _, _, _, e, rfl, -⟩ := tX.form; simp only [Value.agg.injEq, Array.mk.injEq, List.cons.injEq, Value.int.injEq, true_and] at e; exact e.1.symm
    have ekY : Y.kind = k4 := by obtain ⟨_, _, _, _, _, _, _, e, rfl, -⟩ := tY.form; simp only [Value.agg.injEq, Array.mk.injEq, List.cons.injEq, Value.int.injEq, true_and] at e; exact e.1.symm
    have hoth : ∀ r, w.heap.size ≤ r → r < w.heap.size + 3 → Oth wc b V L r := fun r h1 h2 => HG.out.2.2.2.2.2.2.2.2.2.2.2.2.2.fresh ⟨h1, by omega⟩
    have hStc : StAt (Oth wc b V L) n₀ wc b V L σ := HG.out.2.2.2.2.2.2.2.2.2.2.2.2.2.step hB
    have hLc : ChainAt wc lb N := HG.out.2.2.2.2.2.2.1.below hB
    obtain ⟨-, -, -, -, -, -, -, hLo, hgX, hgY, hsX, hsY, hn₀, h⟩ := id HG.out
    have hMc : Mut w b V L wc V L := Mut.of_below hB
    have oX : TmIn (Oth wc b V L) wc (.agg #[.int .i64 k3, .int .i64 n3, .string s3, .slice a3 l3 c3]) X := tX.carry (fun _ _ => rfl) (fun c hc => hc.oth h hB)
    have oY : TmIn (Oth wc b V L) wc (.agg #[.int .i64 k4, .int .i64 n4, .string s4, .slice a4 l4 c4]) Y := tY.carry (fun _ _ => rfl) (fun c hc => hc.oth h hB)
    by_cases hv : X.kind = 1 ∨ Y.kind = 1
    · have hstp : σ.stp N X Y = ⟨[], 0, (σ.link X Y).1, (σ.link X Y).2⟩ := by unfold St.stp; rw [if_pos hv]
      have HSTP := Lib.hid hstp
      have HS : ∀ w' : World, w'.heap[w.heap.size]? = wc.heap[w.heap.size]? → w'.heap[w.heap.size + 1]? = wc.heap[w.heap.size + 1]? → (w'.cell? ⟨w.heap.size, 0, none⟩ = some (.int .i64 k3) ∧ w'.cell? ⟨w.heap.size, 1, none⟩ = some (.int .i64 n3) ∧ w'.cell? ⟨w.heap.size, 2, none⟩ = some (.string s3) ∧ w'.cell? ⟨w.heap.size, 3, none⟩ = some (.slice a3 l3 c3) ∧ w'.cell? ⟨w.heap.size + 1, 0, none⟩ = some (.int .i64 k4) ∧ w'.cell? ⟨w.heap.size + 1, 1, none⟩ = some (.int .i64 n4) ∧ w'.cell? ⟨w.heap.size + 1, 2, none⟩ = some (.string s4) ∧ w'.cell? ⟨w.heap.size + 1, 3, none⟩ = some (.slice a4 l4 c4)) := fun w' e1 e2 => by
        obtain ⟨p0, p1, p2, p3⟩ := tbox_cells (e1.trans z6)
        obtain ⟨q0, q1, q2, q3⟩ := tbox_cells (e2.trans z7)
        exact ⟨p0, p1, p2, p3, q0, q1, q2, q3⟩
      have hbot : ∀ w', Below wc.heap.size wc w' → Calls Try.prog 19 #[.pointer (some ⟨lb, 0, none⟩)] w' fun e w'' => e = .returned (.int .i64 0) ∧ Below w'.heap.size w' w'' := fun w' hb => (ch_bottom (hLc.below hb)).mono fun e w'' h7 => h7.below
      have hlk : ∀ w', Below wc.heap.size wc w' → Calls Try.prog 77 #[.pointer (some ⟨b, 0, none⟩), .agg #[.int .i64 k3, .int .i64 n3, .string s3, .slice a3 l3 c3], .agg #[.int .i64 k4, .int .i64 n4, .string s4, .slice a4 l4 c4]] w' fun e w'' => e = .returned (.bool (σ.link X Y).1) ∧ ∃ L', StAt (Oth w'' b V L') n₀ w'' b V L' (σ.link X Y).2 ∧ Mut w' b V L w'' V L' := fun w' hb =>
        link_at (hStc.step hb) (by have := hb.size; omega) _ _ X Y (Has.below (oth_has oX) hb) (Has.below (oth_has oY) hb) hsX hsY
      have HQ := Lib.hid (And.intro hMc (And.intro z8 (And.intro (hoth w.heap.size (by omega) (by omega)) (And.intro (hoth (w.heap.size + 1) (by omega) (by omega)) (And.intro (hoth (w.heap.size + 1 + 1) (by omega) (by omega)) hsc)))))
      clear z6 z7 z8 tX tY hB hsc hoth hStc hLc hLo hgX hgY hsX hsY hn₀ h hMc oX oY HG HC hstp
      by_cases h3 : k3 = 1
      · have d3 : (k3 == 1) = true := by simpa using h3
        clear h3 hv ekX ekY
        go_upto_region 3 with fail
        clear x0 x1 x2 x3 y0 y1 y2 y3
        refine wp_region_held_drew (S := (fun w' : World => w'.cell? ⟨w.heap.size, 0, none⟩ = some (.int .i64 k3) ∧ w'.cell? ⟨w.heap.size, 1, none⟩ = some (.int .i64 n3) ∧ w'.cell? ⟨w.heap.size, 2, none⟩ = some (.string s3) ∧ w'.cell? ⟨w.heap.size, 3, none⟩ = some (.slice a3 l3 c3) ∧ w'.cell? ⟨w.heap.size + 1, 0, none⟩ = some (.int .i64 k4) ∧ w'.cell? ⟨w.heap.size + 1, 1, none⟩ = some (.int .i64 n4) ∧ w'.cell? ⟨w.heap.size + 1, 2, none⟩ = some (.string s4) ∧ w'.cell? ⟨w.heap.size + 1, 3, none⟩ = some (.slice a4 l4 c4))) (by kernel_rfl) (HS _ rfl rfl) (fun hHeld => ?_)
        have hE0 : Below wc.heap.size wc wc.drew := (Below.refl _ _).drew
        refine wpAnyH_take (i := 0) (v := ?_) rfl (by kernel_rfl) (by kernel_rfl) (by kernel_rfl) (fun _ _ _ h => h) (Or.inl ⟨by kernel_rfl, ?_⟩) hHeld ?_
        rotate_left
        · intro w0 hSw
          (try dsimp only at hSw)
          go_simp
          try (with_reducible rfl)
        try simp only [Act.put, List.setIfInBounds_toArray, List.set_cons_zero, List.set_cons_succ]
        refine wpAnyH_take (i := 1) (v := ?_) rfl (by kernel_rfl) (by kernel_rfl) (by kernel_rfl) (fun _ _ _ h => h) (Or.inl ⟨by kernel_rfl, ?_⟩) hHeld ?_
        rotate_left
        · intro w0 hSw
          (try dsimp only at hSw)
          go_simp
          try (with_reducible rfl)
        try simp only [Act.put, List.setIfInBounds_toArray, List.set_cons_zero, List.set_cons_succ]
        refine wpAnyH_take (i := 3) (v := ?_) rfl (by kernel_rfl) (by kernel_rfl) (by kernel_rfl) (fun _ _ _ h => h) (Or.inl ⟨by kernel_rfl, ?_⟩) hHeld ?_
        rotate_left
        · intro w0 hSw
          (try dsimp only at hSw)
          go_simp
          try (with_reducible rfl)
        try simp only [Act.put, List.setIfInBounds_toArray, List.set_cons_zero, List.set_cons_succ]
        refine wpAnyH_take (i := 4) (v := ?_) rfl (by kernel_rfl) (by kernel_rfl) (by kernel_rfl) (fun _ _ _ h => h) (Or.inl ⟨by kernel_rfl, ?_⟩) hHeld ?_
        rotate_left
        · intro w0 hSw
          (try dsimp only at hSw)
          go_simp
          try (with_reducible rfl)
        try simp only [Act.put, List.setIfInBounds_toArray, List.set_cons_zero, List.set_cons_succ]
        refine wpAnyH_take (i := 5) (v := ?_) rfl (by kernel_rfl) (by kernel_rfl) (by kernel_rfl) (fun _ _ _ h => h) (Or.inl ⟨by kernel_rfl, ?_⟩) hHeld ?_
        rotate_left
        · intro w0 hSw
          (try dsimp only at hSw)
          go_simp
          try (with_reducible rfl)
        try simp only [Act.put, List.setIfInBounds_toArray, List.set_cons_zero, List.set_cons_succ]
        generalize wc.drew = wD at hHeld hE0 ⊢
        refine wpAnyH_ready (rs := [2]) (by kernel_rfl) (by simp) ?_
        refine AllReadyH.cons rfl (fun K hK => ?_) AllReadyH.nil
        go_simp
        refine (hbot _ hE0).mono ?_
        rintro e W1 ⟨rfl, hb1⟩
        go_wp2_with fail
        have hE1 : Below wc.heap.size wc W1 := hE0.trans (hb1.mono hE0.size)
        refine hK.out _ _ (HS _ (hE1.block _ HQ.out.2.2.1.1) (hE1.block _ HQ.out.2.2.2.1.1)) (fun hh2 => ?_)
        clear hK K
        try simp only [Act.put, List.setIfInBounds_toArray, List.set_cons_zero, List.set_cons_succ]
        refine wpAnyH_ready (rs := [6]) (by kernel_rfl) (by simp) ?_
        refine AllReadyH.cons rfl (fun K hK => ?_) AllReadyH.nil
        go_simp
        refine (hlk _ hE1).mono ?_
        rintro e W2 ⟨rfl, L', hS2, hM2⟩
        go_wp2_with fail
        have e6 := (hM2.keep _ (HQ.out.2.2.1.below hE1)).1.trans (hE1.block _ HQ.out.2.2.1.1)
        have e7 := (hM2.keep _ (HQ.out.2.2.2.1.below hE1)).1.trans (hE1.block _ HQ.out.2.2.2.1.1)
        have e8 := (hM2.keep _ (HQ.out.2.2.2.2.1.below hE1))
        have q8 : W2.heap[w.heap.size + 1 + 1]? = some (.cells #[.slice none 0 0, .slice none 0 0] 91 (0, 0)) := (e8.1.trans (hE1.block _ HQ.out.2.2.2.2.1.1)).trans HQ.out.2.1
        have m2 : Mut w b V L W2 V L' := (HQ.out.1.trans (Mut.of_below hE1)).trans hM2
        refine hK.out _ _ (HS _ e6 e7) (fun hh3 => ?_)
        clear hK K
        try simp only [Act.put, List.setIfInBounds_toArray, List.set_cons_zero, List.set_cons_succ]
        obtain ⟨g0, g1⟩ := two_cells q8
        have gf : ∀ j, W2.frozen? ⟨w.heap.size + 1 + 1, j, none⟩ = false := fun j => by simp [World.frozen?, q8]
        obtain ⟨W3, hW3⟩ : ∃ W3, W3 = (W2.setCell ⟨w.heap.size + 1 + 1, 0, none⟩ (.slice none 0 0)).setCell ⟨w.heap.size + 1 + 1, 1, none⟩ (.slice none 0 0) := ⟨_, rfl⟩
        have hbt : ButN (w.heap.size + 1 + 1) W2 W3 := by rw [hW3]; exact ((ButN.refl _ _).setAt 0 _).setAt 1 _
        have q9 : W3.heap[w.heap.size + 1 + 1]? = some (.cells #[.slice none 0 0, .slice none 0 0] 91 (0, 0)) := by rw [hW3]; exact two_block q8 _ _
        have HF := Lib.hid (And.intro q9 (And.intro (hS2.but e8.2 (no_ints q8) hbt) (m2.but (by omega) hbt)))
        have e63 := (hbt.same _ (by have := (hM2.keep _ (HQ.out.2.2.1.below hE1)).2.1; exact this) (by omega)).trans e6
        have e73 := (hbt.same _ (by have := (hM2.keep _ (HQ.out.2.2.2.1.below hE1)).2.1; exact this) (by omega)).trans e7
        have HW3 := Lib.hid hW3
        clear hW3 e6 e7 e8 q8 m2 hS2 hM2 q9 hbt hE1 hE0 hb1 hh2
        refine wpAnyH_ready (rs := [7]) (by kernel_rfl) (by simp) ?_
        refine AllReadyH.cons rfl (fun K hK => ?_) AllReadyH.nil
        go_simp
        rw [← HW3.out]
        refine hK.out _ _ (HS _ e63 e73) (fun hh4 => ?_)
        clear hK K g0 g1 gf
        try simp only [Act.put, List.setIfInBounds_toArray, List.set_cons_zero, List.set_cons_succ]
        refine wpAnyH_ready (rs := [8]) (by kernel_rfl) (by simp) ?_
        refine AllReadyH.cons rfl (fun K hK => ?_) AllReadyH.nil
        go_simp
        refine hK.out _ _ (HS _ e63 e73) (fun hh5 => ?_)
        clear hK K
        try simp only [Act.put, List.setIfInBounds_toArray, List.set_cons_zero, List.set_cons_succ]
        refine wpAnyH_ready (rs := [9]) (by kernel_rfl) (by simp) ?_
        refine AllReadyH.cons rfl (fun K hK => ?_) AllReadyH.nil
        go_simp
        refine hK.out _ _ (HS _ e63 e73) (fun hh6 => ?_)
        clear hK K
        try simp only [Act.put, List.setIfInBounds_toArray, List.set_cons_zero, List.set_cons_succ]
        refine wpAnyH_done (by kernel_rfl) ?_ _
        go_wp2_with fail
        obtain ⟨f0, f1⟩ := two_cells HF.out.1
        refine bodyPost_ret (v := .tuple #[.agg #[.slice none 0 0, .slice none 0 0], .int .i64 0, .bool (σ.link X Y).1]) (by simp [results, Try.f60, go_sem, f0, f1]) rfl ?_
        rw [HSTP.out]
        exact ⟨_, _, _, _, _, _, rfl, L', HF.out.2.1, HF.out.2.2, noTs _ _, noTs _ _⟩
      · have d3 : (k3 == 1) = false := by simpa using h3
        have h4 : k4 = 1 := by rw [← ekY]; exact hv.resolve_left (by rw [ekX]; exact h3)
        have d4 : (k4 == 1) = true := by simpa using h4
        clear h3 h4 hv ekX ekY
        go_upto_region 3 with fail
        clear x0 x1 x2 x3 y0 y1 y2 y3
        refine wp_region_held_drew (S := (fun w' : World => w'.cell? ⟨w.heap.size, 0, none⟩ = some (.int .i64 k3) ∧ w'.cell? ⟨w.heap.size, 1, none⟩ = some (.int .i64 n3) ∧ w'.cell? ⟨w.heap.size, 2, none⟩ = some (.string s3) ∧ w'.cell? ⟨w.heap.size, 3, none⟩ = some (.slice a3 l3 c3) ∧ w'.cell? ⟨w.heap.size + 1, 0, none⟩ = some (.int .i64 k4) ∧ w'.cell? ⟨w.heap.size + 1, 1, none⟩ = some (.int .i64 n4) ∧ w'.cell? ⟨w.heap.size + 1, 2, none⟩ = some (.string s4) ∧ w'.cell? ⟨w.heap.size + 1, 3, none⟩ = some (.slice a4 l4 c4))) (by kernel_rfl) (HS _ rfl rfl) (fun hHeld => ?_)
        have hE0 : Below wc.heap.size wc wc.drew := (Below.refl _ _).drew
        refine wpAnyH_take (i := 0) (v := ?_) rfl (by kernel_rfl) (by kernel_rfl) (by kernel_rfl) (fun _ _ _ h => h) (Or.inl ⟨by kernel_rfl, ?_⟩) hHeld ?_
        rotate_left
        · intro w0 hSw
          (try dsimp only at hSw)
          go_simp
          try (with_reducible rfl)
        try simp only [Act.put, List.setIfInBounds_toArray, List.set_cons_zero, List.set_cons_succ]
        refine wpAnyH_take (i := 1) (v := ?_) rfl (by kernel_rfl) (by kernel_rfl) (by kernel_rfl) (fun _ _ _ h => h) (Or.inl ⟨by kernel_rfl, ?_⟩) hHeld ?_
        rotate_left
        · intro w0 hSw
          (try dsimp only at hSw)
          go_simp
          try (with_reducible rfl)
        try simp only [Act.put, List.setIfInBounds_toArray, List.set_cons_zero, List.set_cons_succ]
        refine wpAnyH_take (i := 3) (v := ?_) rfl (by kernel_rfl) (by kernel_rfl) (by kernel_rfl) (fun _ _ _ h => h) (Or.inl ⟨by kernel_rfl, ?_⟩) hHeld ?_
        rotate_left
        · intro w0 hSw
          (try dsimp only at hSw)
          go_simp
          try (with_reducible rfl)
        try simp only [Act.put, List.setIfInBounds_toArray, List.set_cons_zero, List.set_cons_succ]
        refine wpAnyH_take (i := 4) (v := ?_) rfl (by kernel_rfl) (by kernel_rfl) (by kernel_rfl) (fun _ _ _ h => h) (Or.inl ⟨by kernel_rfl, ?_⟩) hHeld ?_
        rotate_left
        · intro w0 hSw
          (try dsimp only at hSw)
          go_simp
          try (with_reducible rfl)
        try simp only [Act.put, List.setIfInBounds_toArray, List.set_cons_zero, List.set_cons_succ]
        refine wpAnyH_take (i := 5) (v := ?_) rfl (by kernel_rfl) (by kernel_rfl) (by kernel_rfl) (fun _ _ _ h => h) (Or.inl ⟨by kernel_rfl, ?_⟩) hHeld ?_
        rotate_left
        · intro w0 hSw
          (try dsimp only at hSw)
          go_simp
          try (with_reducible rfl)
        try simp only [Act.put, List.setIfInBounds_toArray, List.set_cons_zero, List.set_cons_succ]
        generalize wc.drew = wD at hHeld hE0 ⊢
        refine wpAnyH_ready (rs := [2]) (by kernel_rfl) (by simp) ?_
        refine AllReadyH.cons rfl (fun K hK => ?_) AllReadyH.nil
        go_simp
        refine (hbot _ hE0).mono ?_
        rintro e W1 ⟨rfl, hb1⟩
        go_wp2_with fail
        have hE1 : Below wc.heap.size wc W1 := hE0.trans (hb1.mono hE0.size)
        refine hK.out _ _ (HS _ (hE1.block _ HQ.out.2.2.1.1) (hE1.block _ HQ.out.2.2.2.1.1)) (fun hh2 => ?_)
        clear hK K
        try simp only [Act.put, List.setIfInBounds_toArray, List.set_cons_zero, List.set_cons_succ]
        refine wpAnyH_ready (rs := [6]) (by kernel_rfl) (by simp) ?_
        refine AllReadyH.cons rfl (fun K hK => ?_) AllReadyH.nil
        go_simp
        refine (hlk _ hE1).mono ?_
        rintro e W2 ⟨rfl, L', hS2, hM2⟩
        go_wp2_with fail
        have e6 := (hM2.keep _ (HQ.out.2.2.1.below hE1)).1.trans (hE1.block _ HQ.out.2.2.1.1)
        have e7 := (hM2.keep _ (HQ.out.2.2.2.1.below hE1)).1.trans (hE1.block _ HQ.out.2.2.2.1.1)
        have e8 := (hM2.keep _ (HQ.out.2.2.2.2.1.below hE1))
        have q8 : W2.heap[w.heap.size + 1 + 1]? = some (.cells #[.slice none 0 0, .slice none 0 0] 91 (0, 0)) := (e8.1.trans (hE1.block _ HQ.out.2.2.2.2.1.1)).trans HQ.out.2.1
        have m2 : Mut w b V L W2 V L' := (HQ.out.1.trans (Mut.of_below hE1)).trans hM2
        refine hK.out _ _ (HS _ e6 e7) (fun hh3 => ?_)
        clear hK K
        try simp only [Act.put, List.setIfInBounds_toArray, List.set_cons_zero, List.set_cons_succ]
        obtain ⟨g0, g1⟩ := two_cells q8
        have gf : ∀ j, W2.frozen? ⟨w.heap.size + 1 + 1, j, none⟩ = false := fun j => by simp [World.frozen?, q8]
        obtain ⟨W3, hW3⟩ : ∃ W3, W3 = (W2.setCell ⟨w.heap.size + 1 + 1, 0, none⟩ (.slice none 0 0)).setCell ⟨w.heap.size + 1 + 1, 1, none⟩ (.slice none 0 0) := ⟨_, rfl⟩
        have hbt : ButN (w.heap.size + 1 + 1) W2 W3 := by rw [hW3]; exact ((ButN.refl _ _).setAt 0 _).setAt 1 _
        have q9 : W3.heap[w.heap.size + 1 + 1]? = some (.cells #[.slice none 0 0, .slice none 0 0] 91 (0, 0)) := by rw [hW3]; exact two_block q8 _ _
        have HF := Lib.hid (And.intro q9 (And.intro (hS2.but e8.2 (no_ints q8) hbt) (m2.but (by omega) hbt)))
        have e63 := (hbt.same _ (by have := (hM2.keep _ (HQ.out.2.2.1.below hE1)).2.1; exact this) (by omega)).trans e6
        have e73 := (hbt.same _ (by have := (hM2.keep _ (HQ.out.2.2.2.1.below hE1)).2.1; exact this) (by omega)).trans e7
        have HW3 := Lib.hid hW3
        clear hW3 e6 e7 e8 q8 m2 hS2 hM2 q9 hbt hE1 hE0 hb1 hh2
        refine wpAnyH_ready (rs := [7]) (by kernel_rfl) (by simp) ?_
        refine AllReadyH.cons rfl (fun K hK => ?_) AllReadyH.nil
        go_simp
        rw [← HW3.out]
        refine hK.out _ _ (HS _ e63 e73) (fun hh4 => ?_)
        clear hK K g0 g1 gf
        try simp only [Act.put, List.setIfInBounds_toArray, List.set_cons_zero, List.set_cons_succ]
        refine wpAnyH_ready (rs := [8]) (by kernel_rfl) (by simp) ?_
        refine AllReadyH.cons rfl (fun K hK => ?_) AllReadyH.nil
        go_simp
        refine hK.out _ _ (HS _ e63 e73) (fun hh5 => ?_)
        clear hK K
        try simp only [Act.put, List.setIfInBounds_toArray, List.set_cons_zero, List.set_cons_succ]
        refine wpAnyH_ready (rs := [9]) (by kernel_rfl) (by simp) ?_
        refine AllReadyH.cons rfl (fun K hK => ?_) AllReadyH.nil
        go_simp
        refine hK.out _ _ (HS _ e63 e73) (fun hh6 => ?_)
        clear hK K
        try simp only [Act.put, List.setIfInBounds_toArray, List.set_cons_zero, List.set_cons_succ]
        refine wpAnyH_done (by kernel_rfl) ?_ _
        go_wp2_with fail
        obtain ⟨f0, f1⟩ := two_cells HF.out.1
        refine bodyPost_ret (v := .tuple #[.agg #[.slice none 0 0, .slice none 0 0], .int .i64 0, .bool (σ.link X Y).1]) (by simp [results, Try.f60, go_sem, f0, f1]) rfl ?_
        rw [HSTP.out]
        exact ⟨_, _, _, _, _, _, rfl, L', HF.out.2.1, HF.out.2.2, noTs _ _, noTs _ _⟩
    · have hkX : X.kind ≠ 1 := fun e => hv (.inl e)
      have hkY : Y.kind ≠ 1 := fun e => hv (.inr e)
      have d3 : (k3 == 1) = false := by rw [← ekX]; simpa using hkX
      have d4 : (k4 == 1) = false := by rw [← ekY]; simpa using hkY
      have hopX := uopen_at N _ X wc lb hLc (p := Pb w b V L wc) (fun c hc => hc.lt hsc) tX hgX hkX (by omega)
      have gP := open_gv hLc.pos hgX hkX
      have gQ := open_gv hLc.pos hgY hkY
      have hlPN := openC_lt hLc.pos X
      have hlQN := openC_lt hLc.pos Y
      have hstp : σ.stp N X Y = if (X.openC N).1.kind = 2 ∧ (Y.openC N).1.kind = 2 then ⟨[], max (X.openC N).2 (Y.openC N).2, decide ((X.openC N).1.num = (Y.openC N).1.num), σ⟩
        else if (X.openC N).1.kind = 3 ∧ (Y.openC N).1.kind = 3 ∧ (X.openC N).1.name = (Y.openC N).1.name ∧ (X.openC N).1.kids.length = (Y.openC N).1.kids.length then
          ⟨(X.openC N).1.kids.zip (Y.openC N).1.kids, max (X.openC N).2 (Y.openC N).2, true, σ⟩
        else ⟨[], max (X.openC N).2 (Y.openC N).2, false, σ⟩ := by unfold St.stp; rw [if_neg hv]
      have hopY : ∀ W, Below w.heap.size w W → w.heap.size + 3 ≤ W.heap.size → TmIn (Pb w b V L W) W (.agg #[.int .i64 k4, .int .i64 n4, .string s4, .slice a4 l4 c4]) Y → Calls Try.prog 78 #[.pointer (some ⟨lb, 0, none⟩), .agg #[.int .i64 k4, .int .i64 n4, .string s4, .slice a4 l4 c4]] W (OpenP (Pb w b V L W) N Y W) := fun W hb hs hT =>
        uopen_at N _ Y W lb (HG.out.2.2.2.2.2.2.1.below hb) (fun c hc => hc.lt hs) hT hgY hkY (by omega)
      unfold OpenP at hopX hopY
      obtain ⟨P, hP⟩ : ∃ P, (X.openC N).1 = P := ⟨_, rfl⟩
      obtain ⟨lP, hlP⟩ : ∃ P, (X.openC N).2 = P := ⟨_, rfl⟩
      obtain ⟨Q, hQ⟩ : ∃ P, (Y.openC N).1 = P := ⟨_, rfl⟩
      obtain ⟨lQ, hlQ⟩ : ∃ P, (Y.openC N).2 = P := ⟨_, rfl⟩
      rw [hP] at hopX gP hstp
      rw [hlP] at hopX hlPN hstp
      rw [hQ] at gQ hstp
      rw [hlQ] at hlQN hstp
      simp only [hQ, hlQ] at hopY
      have HST := Lib.hid hstp
      have HGP := Lib.hid (And.intro gP (And.intro gQ (And.intro hlPN hlQN)))
      clear hstp gP gQ hlPN hlQN hP hlP hQ hlQ hkX hkY hv hMc oX oY hStc hLc hoth z8 hLo hgX hgY hsX hsY hn₀ tX ekX ekY
      go_upto_region 4 with fail
      go_upto_region 5 with (go_at_call 78; refine hopX.mono ?_; clear hopX; rintro e W1 ⟨k5, n5, s5, a5, l5, c5, rfl, hTP, hb1⟩; have u6 := tbox_below z6 hb1; obtain ⟨g0, g1, g2, g3⟩ := tbox_cells u6; have gf : ∀ j, W1.frozen? ⟨w.heap.size, j, none⟩ = false := (fun j => by simp [World.frozen?, u6]))
      have hB01 : Below w.heap.size w W1 := hB.trans (hb1.mono hB.size)
      have hs1 : w.heap.size + 3 ≤ W1.heap.size := Nat.le_trans hsc hb1.size
      obtain ⟨W2, hW2, hb6, hT6, hB6, hs6⟩ := boxed_new (w := w) (q := Pb w b V L W1) (p := Pb w b V L W1) u6 (hTP.carry (fun _ _ => rfl) (fun c hc => Pb.of hsc hb1.size hc)) (fun c hc => hc.ne.1) (fun _ hc => hc) hB01 (Nat.le_refl _)
      have ho6 : ∀ c, c ≠ w.heap.size → W2.heap[c]? = W1.heap[c]? := fun c hc => by
        rw [hW2, Below.heap_setCell _ _ _ _ (by simpa using hc), Below.heap_setCell _ _ _ _ (by simpa using hc), Below.heap_setCell _ _ _ _ (by simpa using hc), Below.heap_setCell _ _ _ _ (by simpa using hc)]
      have u7 := (ho6 (w.heap.size + 1) (by omega)).trans (tbox_below z7 hb1)
      have u8 := (ho6 (w.heap.size + 1 + 1) (by omega)).trans (tbox_below (HC.out.2.2.1) hb1)
      have tY2 : TmIn (Pb w b V L W2) W2 (.agg #[.int .i64 k4, .int .i64 n4, .string s4, .slice a4 l4 c4]) Y := tY.carry (fun c hc => (ho6 c hc.ne.1).trans (hb1.block c (hc.lt hsc))) (fun c hc => hc.grow (by have := hb1.size; omega))
      have tP2 : TmIn (Pb w b V L W2) W2 (.agg #[.int .i64 k5, .int .i64 n5, .string s5, .slice a5 l5 c5]) P := hT6.carry (fun _ _ => rfl) (fun c hc => hc.grow (by omega))
      have hs2 : w.heap.size + 3 ≤ W2.heap.size := by omega
      have hcY := hopY W2 hB6 hs2 tY2
      rw [← hW2]
      obtain ⟨y0, y1, y2, y3⟩ := tbox_cells u7
      have H2 := Lib.hid (And.intro hb6 (And.intro u8 (And.intro tP2 (And.intro hB6 hs2))))
      clear hopY tY2 tP2 hB6 hs2 u8 ho6 hb6 hT6 hs6 hW2 hs1 hB01 hTP u6 g0 g1 g2 g3 gf z6 z7 tY hB hsc hb1 x0 x1 x2 x3
      go_upto_region 6 with (go_at_call 78; refine hcY.mono ?_; clear hcY; rintro e W3 ⟨k6, n6, s6, a6, l6, c6, rfl, hTQ, hb3⟩; have v7 := tbox_below u7 hb3; obtain ⟨g0, g1, g2, g3⟩ := tbox_cells v7; have gf : ∀ j, W3.frozen? ⟨w.heap.size + 1, j, none⟩ = false := (fun j => by simp [World.frozen?, v7]))
      obtain ⟨hb6, u8, tP2, hB6, hs2⟩ := id H2.out
      have hB03 : Below w.heap.size w W3 := hB6.trans (hb3.mono hB6.size)
      obtain ⟨W4, hW4, hb7, hT7, hB7, hs7⟩ := boxed_new (w := w) (q := Pb w b V L W3) (p := Pb w b V L W3) v7 (hTQ.carry (fun _ _ => rfl) (fun c hc => Pb.of hs2 hb3.size hc)) (fun c hc => hc.ne.2.1) (fun _ hc => hc) hB03 (Nat.le_succ _)
      have ho7 : ∀ c, c ≠ w.heap.size + 1 → W4.heap[c]? = W3.heap[c]? := fun c hc => by
        rw [hW4, Below.heap_setCell _ _ _ _ (by simpa using hc), Below.heap_setCell _ _ _ _ (by simpa using hc), Below.heap_setCell _ _ _ _ (by simpa using hc), Below.heap_setCell _ _ _ _ (by simpa using hc)]
      have m6 := (ho7 w.heap.size (by omega)).trans (tbox_below hb6 hb3)
      have m8 := (ho7 (w.heap.size + 1 + 1) (by omega)).trans (tbox_below u8 hb3)
      have tP4 : TmIn (Pb w b V L W4) W4 (.agg #[.int .i64 k5, .int .i64 n5, .string s5, .slice a5 l5 c5]) P := tP2.carry (fun c hc => (ho7 c hc.ne.2.1).trans (hb3.block c (hc.lt hs2))) (fun c hc => hc.grow (by have := hb3.size; omega))
      have tQ4 : TmIn (Pb w b V L W4) W4 (.agg #[.int .i64 k6, .int .i64 n6, .string s6, .slice a6 l6 c6]) Q := hT7.carry (fun _ _ => rfl) (fun c hc => hc.grow (by omega))
      have hs4 : w.heap.size + 3 ≤ W4.heap.size := by have := hb3.size; omega
      have hj := (ch_join (HG.out.2.2.2.2.2.2.1.below hB7) (x := lP) (y := lQ) HGP.out.2.2.1 HGP.out.2.2.2).mono (R' := fun e w' => e = .returned (.int .i64 (max lP lQ : Nat)) ∧ Below W4.heap.size W4 w') (fun e w' h7 => h7.below)
      rw [← hW4]
      have H4 := Lib.hid (And.intro m6 (And.intro hb7 (And.intro m8 (And.intro tP4 (And.intro tQ4 (And.intro hB7 hs4))))))
      clear m6 hb7 m8 tP4 tQ4 hB7 hs4 ho7 hT7 hs7 hW4 hB03 hTQ v7 u7 hb6 u8 tP2 hB6 hs2 g0 g1 g2 g3 gf hb3 y0 y1 y2 y3
      go_upto_region 7 with (go_at_call 61; refine hj.mono ?_; clear hj; rintro e W5 ⟨rfl, hb5⟩)
      obtain ⟨m6, m7, m8, tP4, tQ4, hB4, hs4⟩ := id H4.out
      have hB5 : Below w.heap.size w W5 := hB4.trans (hb5.mono hB4.size)
      have hs5 : w.heap.size + 3 ≤ W5.heap.size := Nat.le_trans hs4 hb5.size
      have q6 := tbox_below m6 hb5
      have q7 := tbox_below m7 hb5
      have q8 := tbox_below m8 hb5
      have h := HG.out.2.2.2.2.2.2.2.2.2.2.2.2.2
      have tP5 : TmIn (Oth W5 b V L) W5 (.agg #[.int .i64 k5, .int .i64 n5, .string s5, .slice a5 l5 c5]) P := tP4.carry (fun c hc => hb5.block c (hc.lt hs4)) (fun c hc => (hc.grow hb5.size).oth h hB5)
      have tQ5 : TmIn (Oth W5 b V L) W5 (.agg #[.int .i64 k6, .int .i64 n6, .string s6, .slice a6 l6 c6]) Q := tQ4.carry (fun c hc => hb5.block c (hc.lt hs4)) (fun c hc => (hc.grow hb5.size).oth h hB5)
      have o8 : Oth W5 b V L (w.heap.size + 1 + 1) := h.fresh ⟨by omega, by omega⟩
      have hS5 : StAt (Oth W5 b V L) n₀ W5 b V L σ := h.step hB5
      have hM5 : Mut w b V L W5 V L := Mut.of_below hB5
      obtain ⟨x0, x1, x2, x3⟩ := tbox_cells q6
      obtain ⟨y0, y1, y2, y3⟩ := tbox_cells q7
      obtain ⟨g0, g1⟩ := two_cells q8
      have gf : ∀ j, W5.frozen? ⟨w.heap.size + 1 + 1, j, none⟩ = false := fun j => by simp [World.frozen?, q8]
      obtain ⟨_, _, _, _, _, _, ksP, eP, rP, hl5, -⟩ := tP5.form
      obtain ⟨_, _, _, _, _, _, ksQ, eQ, rQ, hl6, -⟩ := tQ5.form
      simp only [Value.agg.injEq, Array.mk.injEq, List.cons.injEq, Value.int.injEq, Value.string.injEq, Value.slice.injEq, true_and, and_true] at eP eQ
      obtain ⟨rfl, rfl, rfl, rfl, rfl, rfl⟩ := eP
      obtain ⟨rfl, rfl, rfl, rfl, rfl, rfl⟩ := eQ
      have fin : ∀ (v0 v1 : Value), (∃ sa la ca, v0 = .slice sa la ca) → (∃ sa la ca, v1 = .slice sa la ca) → Hid (∃ W6, W6 = (W5.setCell ⟨w.heap.size + 1 + 1, 0, none⟩ v0).setCell ⟨w.heap.size + 1 + 1, 1, none⟩ v1 ∧ W6.heap[w.heap.size + 1 + 1]? = some (.cells #[v0, v1] 91 (0, 0)) ∧ ButN (w.heap.size + 1 + 1) W5 W6 ∧ StAt (Oth W6 b V L) n₀ W6 b V L σ ∧ Mut w b V L W6 V L) := fun v0 v1 _ _ => by
        have hbt : ButN (w.heap.size + 1 + 1) W5 ((W5.setCell ⟨w.heap.size + 1 + 1, 0, none⟩ v0).setCell ⟨w.heap.size + 1 + 1, 1, none⟩ v1) := ((ButN.refl _ _).setAt 0 _).setAt 1 _
        exact ⟨_, rfl, two_block q8 _ _, hbt, hS5.but o8 (no_ints q8) hbt, hM5.but (by omega) hbt⟩
      have HN := Lib.hid (And.intro (no_ints q8) (And.intro tP5 (And.intro tQ5 (And.intro hl5 (And.intro hl6 (And.intro rP (And.intro rQ (And.intro q6 q7))))))))
      obtain ⟨gP, gQ, -⟩ := HGP.out
      clear hl5 hl6 tP5 tQ5 hS5 hM5 o8 q6 q7 q8 hB5 hs5 hb5 m6 m7 m8 tP4 tQ4 hB4 hs4 h H2 H4 HC HGP
      have HRP := Lib.hid (And.intro rP rQ)
      rcases gP with ⟨m1, e1⟩ | ⟨t1, us1, e1, -⟩ <;> rcases gQ with ⟨m2, e2⟩ | ⟨t2, us2, e2, -⟩
      · obtain ⟨rfl, rfl, rfl, rfl⟩ : k5 = 2 ∧ n5 = m1 ∧ s5 = e0 ∧ ksP = [] := by have e := rP.symm.trans e1; simpa using e
        obtain ⟨rfl, rfl, rfl, rfl⟩ : k6 = 2 ∧ n6 = m2 ∧ s6 = e0 ∧ ksQ = [] := by have e := rQ.symm.trans e2; simpa using e
        have hd : (n5 == n6) = decide (n5 = n6) := by rw [Bool.eq_iff_iff]; simp
        have HD := Lib.hid hd
        have HS : ∀ w' : World, w'.heap[w.heap.size]? = W5.heap[w.heap.size]? → w'.heap[w.heap.size + 1]? = W5.heap[w.heap.size + 1]? → (w'.cell? ⟨w.heap.size, 0, none⟩ = some (.int .i64 2) ∧ w'.cell? ⟨w.heap.size, 1, none⟩ = some (.int .i64 n5) ∧ w'.cell? ⟨w.heap.size, 2, none⟩ = some (.string e0) ∧ w'.cell? ⟨w.heap.size, 3, none⟩ = some (.slice a5 l5 c5) ∧ w'.cell? ⟨w.heap.size + 1, 0, none⟩ = some (.int .i64 2) ∧ w'.cell? ⟨w.heap.size + 1, 1, none⟩ = some (.int .i64 n6) ∧ w'.cell? ⟨w.heap.size + 1, 2, none⟩ = some (.string e0) ∧ w'.cell? ⟨w.heap.size + 1, 3, none⟩ = some (.slice a6 l6 c6)) := fun w' e1 e2 => by
          obtain ⟨p0, p1, p2, p3⟩ := tbox_cells (e1.trans HN.out.2.2.2.2.2.2.2.1)
          obtain ⟨q0, q1, q2, q3⟩ := tbox_cells (e2.trans HN.out.2.2.2.2.2.2.2.2)
          exact ⟨p0, p1, p2, p3, q0, q1, q2, q3⟩
        have hlt : w.heap.size + 1 < W5.heap.size := (Array.getElem?_eq_some_iff.1 HN.out.2.2.2.2.2.2.2.2).1
        obtain ⟨W6, hW6'⟩ := (fin (.slice none 0 0) (.slice none 0 0) ⟨_, _, _, rfl⟩ ⟨_, _, _, rfl⟩).out
        have e63 := hW6'.2.2.1.same w.heap.size (by omega) (by omega)
        have e73 := hW6'.2.2.1.same (w.heap.size + 1) (by omega) (by omega)
        have hW6 := Lib.hid hW6'
        clear hW6' fin hd rP rQ e1 e2 hlt
        go_upto_region 8 with fail
        clear x0 x1 x2 x3 y0 y1 y2 y3
        refine wp_region_held_drew (S := (fun w' : World => w'.cell? ⟨w.heap.size, 0, none⟩ = some (.int .i64 2) ∧ w'.cell? ⟨w.heap.size, 1, none⟩ = some (.int .i64 n5) ∧ w'.cell? ⟨w.heap.size, 2, none⟩ = some (.string e0) ∧ w'.cell? ⟨w.heap.size, 3, none⟩ = some (.slice a5 l5 c5) ∧ w'.cell? ⟨w.heap.size + 1, 0, none⟩ = some (.int .i64 2) ∧ w'.cell? ⟨w.heap.size + 1, 1, none⟩ = some (.int .i64 n6) ∧ w'.cell? ⟨w.heap.size + 1, 2, none⟩ = some (.string e0) ∧ w'.cell? ⟨w.heap.size + 1, 3, none⟩ = some (.slice a6 l6 c6))) (by kernel_rfl) (HS _ rfl rfl) (fun hHeld => ?_)
        refine wpAnyH_take (i := 0) (v := ?_) rfl (by kernel_rfl) (by kernel_rfl) (by kernel_rfl) (fun _ _ _ h => h) (Or.inl ⟨by kernel_rfl, ?_⟩) hHeld ?_
        rotate_left
        · intro w0 hSw
          (try dsimp only at hSw)
          go_simp
          try (with_reducible rfl)
        try simp only [Act.put, List.setIfInBounds_toArray, List.set_cons_zero, List.set_cons_succ]
        refine wpAnyH_take (i := 1) (v := ?_) rfl (by kernel_rfl) (by kernel_rfl) (by kernel_rfl) (fun _ _ _ h => h) (Or.inl ⟨by kernel_rfl, ?_⟩) hHeld ?_
        rotate_left
        · intro w0 hSw
          (try dsimp only at hSw)
          go_simp
          try (with_reducible rfl)
        try simp only [Act.put, List.setIfInBounds_toArray, List.set_cons_zero, List.set_cons_succ]
        refine wpAnyH_take (i := 2) (v := ?_) rfl (by kernel_rfl) (by kernel_rfl) (by kernel_rfl) (fun _ _ _ h => h) (Or.inl ⟨by kernel_rfl, ?_⟩) hHeld ?_
        rotate_left
        · intro w0 hSw
          (try dsimp only at hSw)
          go_simp
          try (with_reducible rfl)
        try simp only [Act.put, List.setIfInBounds_toArray, List.set_cons_zero, List.set_cons_succ]
        refine wpAnyH_take (i := 3) (v := ?_) rfl (by kernel_rfl) (by kernel_rfl) (by kernel_rfl) (fun _ _ _ h => h) (Or.inl ⟨by kernel_rfl, ?_⟩) hHeld ?_
        rotate_left
        · intro w0 hSw
          (try dsimp only at hSw)
          go_simp
          try (with_reducible rfl)
        try simp only [Act.put, List.setIfInBounds_toArray, List.set_cons_zero, List.set_cons_succ]
        refine wpAnyH_take (i := 4) (v := ?_) rfl (by kernel_rfl) (by kernel_rfl) (by kernel_rfl) (fun _ _ _ h => h) (Or.inl ⟨by kernel_rfl, ?_⟩) hHeld ?_
        rotate_left
        · intro w0 hSw
          (try dsimp only at hSw)
          go_simp
          try (with_reducible rfl)
        try simp only [Act.put, List.setIfInBounds_toArray, List.set_cons_zero, List.set_cons_succ]
        refine wpAnyH_take (i := 5) (v := ?_) rfl (by kernel_rfl) (by kernel_rfl) (by kernel_rfl) (fun _ _ _ h => h) (Or.inl ⟨by kernel_rfl, ?_⟩) hHeld ?_
        rotate_left
        · intro w0 hSw
          (try dsimp only at hSw)
          go_simp
          try (with_reducible rfl)
        try simp only [Act.put, List.setIfInBounds_toArray, List.set_cons_zero, List.set_cons_succ]
        refine wpAnyH_take (i := 6) (v := ?_) rfl (by kernel_rfl) (by kernel_rfl) (by kernel_rfl) (fun _ _ _ h => h) (Or.inl ⟨by kernel_rfl, ?_⟩) hHeld ?_
        rotate_left
        · intro w0 hSw
          (try dsimp only at hSw)
          go_simp
          try (with_reducible rfl)
        try simp only [Act.put, List.setIfInBounds_toArray, List.set_cons_zero, List.set_cons_succ]
        refine wpAnyH_ready (rs := [7]) (by kernel_rfl) (by simp) ?_
        refine AllReadyH.cons rfl (fun K hK => ?_) AllReadyH.nil
        go_simp
        rw [← hW6.out.1]
        refine hK.out _ _ (HS _ e63 e73) (fun hh4 => ?_)
        clear hK K g0 g1 gf
        try simp only [Act.put, List.setIfInBounds_toArray, List.set_cons_zero, List.set_cons_succ]
        refine wpAnyH_ready (rs := [8]) (by kernel_rfl) (by simp) ?_
        refine AllReadyH.cons rfl (fun K hK => ?_) AllReadyH.nil
        go_simp
        refine hK.out _ _ (HS _ e63 e73) (fun hh5 => ?_)
        clear hK K
        try simp only [Act.put, List.setIfInBounds_toArray, List.set_cons_zero, List.set_cons_succ]
        refine wpAnyH_ready (rs := [9]) (by kernel_rfl) (by simp) ?_
        refine AllReadyH.cons rfl (fun K hK => ?_) AllReadyH.nil
        go_simp
        refine hK.out _ _ (HS _ e63 e73) (fun hh6 => ?_)
        clear hK K
        try simp only [Act.put, List.setIfInBounds_toArray, List.set_cons_zero, List.set_cons_succ]
        refine wpAnyH_done (by kernel_rfl) ?_ _
        go_wp2_with fail
        obtain ⟨f0, f1⟩ := two_cells hW6.out.2.1
        refine bodyPost_ret (v := .tuple #[.agg #[.slice none 0 0, .slice none 0 0], .int .i64 (max lP lQ : Nat), .bool (n5 == n6)]) (by simp [results, Try.f60, go_sem, f0, f1]) rfl ?_
        rw [HST.out, HRP.out.1, HRP.out.2, if_pos ⟨rfl, rfl⟩, HD.out]
        have hdw : Below W6.heap.size W6 W6.drew := (Below.refl _ _).drew
        exact ⟨_, _, _, _, _, _, rfl, L, hW6.out.2.2.2.1.step hdw, hW6.out.2.2.2.2.trans (Mut.of_below hdw), noTs _ _, noTs _ _⟩
      · obtain ⟨rfl, rfl, rfl, rfl⟩ : k5 = 2 ∧ n5 = m1 ∧ s5 = e0 ∧ ksP = [] := by have e := rP.symm.trans e1; simpa using e
        obtain ⟨rfl, rfl, rfl, rfl⟩ : k6 = 3 ∧ n6 = 0 ∧ s6 = t2 ∧ ksQ = us2 := by have e := rQ.symm.trans e2; simpa using e
        obtain ⟨W6, hW6'⟩ := (fin (.slice none 0 0) (.slice none 0 0) ⟨_, _, _, rfl⟩ ⟨_, _, _, rfl⟩).out
        have hW6 := Lib.hid hW6'
        clear hW6' fin
        clear rP rQ e1 e2
        go_wp2_with fail
        rw [← hW6.out.1]
        obtain ⟨f0, f1⟩ := two_cells hW6.out.2.1
        refine bodyPost_ret (v := .tuple #[.agg #[.slice none 0 0, .slice none 0 0], .int .i64 (max lP lQ : Nat), .bool false]) (by simp [results, Try.f60, go_sem, f0, f1]) rfl ?_
        rw [HST.out, HRP.out.1, HRP.out.2]
        rw [if_neg (fun e => absurd e.2 k32), if_neg (fun e => absurd e.1 k23)]
        exact ⟨_, _, _, _, _, _, rfl, L, hW6.out.2.2.2.1, hW6.out.2.2.2.2, noTs _ _, noTs _ _⟩
      · obtain ⟨rfl, rfl, rfl, rfl⟩ : k5 = 3 ∧ n5 = 0 ∧ s5 = t1 ∧ ksP = us1 := by have e := rP.symm.trans e1; simpa using e
        obtain ⟨rfl, rfl, rfl, rfl⟩ : k6 = 2 ∧ n6 = m2 ∧ s6 = e0 ∧ ksQ = [] := by have e := rQ.symm.trans e2; simpa using e
        obtain ⟨W6, hW6'⟩ := (fin (.slice none 0 0) (.slice none 0 0) ⟨_, _, _, rfl⟩ ⟨_, _, _, rfl⟩).out
        have hW6 := Lib.hid hW6'
        clear hW6' fin
        clear rP rQ e1 e2
        go_wp2_with fail
        rw [← hW6.out.1]
        obtain ⟨f0, f1⟩ := two_cells hW6.out.2.1
        refine bodyPost_ret (v := .tuple #[.agg #[.slice none 0 0, .slice none 0 0], .int .i64 (max lP lQ : Nat), .bool false]) (by simp [results, Try.f60, go_sem, f0, f1]) rfl ?_
        rw [HST.out, HRP.out.1, HRP.out.2]
        rw [if_neg (fun e => absurd e.1 k32), if_neg (fun e => absurd e.2.1 k23)]
        exact ⟨_, _, _, _, _, _, rfl, L, hW6.out.2.2.2.1, hW6.out.2.2.2.2, noTs _ _, noTs _ _⟩
      · obtain ⟨rfl, rfl, rfl, rfl⟩ : k5 = 3 ∧ n5 = 0 ∧ s5 = t1 ∧ ksP = us1 := by have e := rP.symm.trans e1; simpa using e
        obtain ⟨rfl, rfl, rfl, rfl⟩ : k6 = 3 ∧ n6 = 0 ∧ s6 = t2 ∧ ksQ = us2 := by have e := rQ.symm.trans e2; simpa using e
        clear rP rQ e1 e2
        by_cases hss : s5 = s6
        · have hsb : (s5.toList == s6.toList) = true := by rw [hss]; simp
          have HSS := Lib.hid hss
          clear hss
          by_cases hll : l5 = l6
          · have hlb : ((l5 : Int) == (l6 : Int)) = true := by rw [hll]; simp
            obtain ⟨W6, hW6'⟩ := (fin (.slice a5 l5 c5) (.slice a6 l6 c6) ⟨_, _, _, rfl⟩ ⟨_, _, _, rfl⟩).out
            have hW6 := Lib.hid hW6'
            have HLL := Lib.hid hll
            clear hW6' fin hll
            go_wp2_with fail
            rw [← hW6.out.1]
            obtain ⟨f0, f1⟩ := two_cells hW6.out.2.1
            refine bodyPost_ret (v := .tuple #[.agg #[.slice a5 l5 c5, .slice a6 l6 c6], .int .i64 (max lP lQ : Nat), .bool true]) (by simp [results, Try.f60, go_sem, f0, f1]) rfl ?_
            obtain ⟨hno, tP5, tQ5, hl5, hl6, -⟩ := HN.out
            have hlk : ksP.length = ksQ.length := by rw [← hl5, ← hl6]; exact HLL.out
            rw [HRP.out.1] at tP5
            rw [HRP.out.2] at tQ5
            rw [HST.out, HRP.out.1, HRP.out.2, if_neg (fun e => absurd e.1 k32), if_pos ⟨rfl, rfl, HSS.out, hlk⟩]
            have em1 : (ksP.zip ksQ).map Prod.fst = ksP := List.map_fst_zip (by omega)
            have em2 : (ksP.zip ksQ).map Prod.snd = ksQ := List.map_snd_zip (by omega)
            refine ⟨_, _, _, _, _, _, rfl, L, hW6.out.2.2.2.1, hW6.out.2.2.2.2, ?_, ?_⟩
            · rw [show ((Tm.mk 3 0 s5 ksP).kids.zip (Tm.mk 3 0 s6 ksQ).kids).map Prod.fst = (ksP.zip ksQ).map Prod.fst from rfl, em1]
              exact ts_but hno hW6.out.2.2.1 tP5.kids
            · rw [show ((Tm.mk 3 0 s5 ksP).kids.zip (Tm.mk 3 0 s6 ksQ).kids).map Prod.snd = (ksP.zip ksQ).map Prod.snd from rfl, em2]
              exact ts_but hno hW6.out.2.2.1 tQ5.kids
          · have hlb : ((l5 : Int) == (l6 : Int)) = false := by simp; omega
            have HLL := Lib.hid hll
            clear hll
            obtain ⟨W6, hW6'⟩ := (fin (.slice none 0 0) (.slice none 0 0) ⟨_, _, _, rfl⟩ ⟨_, _, _, rfl⟩).out
            have hW6 := Lib.hid hW6'
            clear hW6' fin
            go_wp2_with fail
            rw [← hW6.out.1]
            obtain ⟨f0, f1⟩ := two_cells hW6.out.2.1
            refine bodyPost_ret (v := .tuple #[.agg #[.slice none 0 0, .slice none 0 0], .int .i64 (max lP lQ : Nat), .bool false]) (by simp [results, Try.f60, go_sem, f0, f1]) rfl ?_
            rw [HST.out, HRP.out.1, HRP.out.2]
            rw [if_neg (fun e => absurd e.1 k32), if_neg (fun e => HLL.out (by obtain ⟨_, _, _, hl5, hl6, _⟩ := HN.out; rw [hl5, hl6]; exact e.2.2.2))]
            exact ⟨_, _, _, _, _, _, rfl, L, hW6.out.2.2.2.1, hW6.out.2.2.2.2, noTs _ _, noTs _ _⟩
        · have hsb : (s5.toList == s6.toList) = false := by
            rw [ByteArray.toList_eq, ByteArray.toList_eq]
            rw [← Bool.not_eq_true]
            intro e
            have e' : s5.data.toList = s6.data.toList := by simpa using e
            apply hss
            cases s5; cases s6
            simp at e'
            rw [e']
          have HSS := Lib.hid hss
          clear hss
          obtain ⟨W6, hW6'⟩ := (fin (.slice none 0 0) (.slice none 0 0) ⟨_, _, _, rfl⟩ ⟨_, _, _, rfl⟩).out
          have hW6 := Lib.hid hW6'
          clear hW6' fin
          go_wp2_with fail
          rw [← hW6.out.1]
          obtain ⟨f0, f1⟩ := two_cells hW6.out.2.1
          refine bodyPost_ret (v := .tuple #[.agg #[.slice none 0 0, .slice none 0 0], .int .i64 (max lP lQ : Nat), .bool false]) (by simp [results, Try.f60, go_sem, f0, f1]) rfl ?_
          rw [HST.out, HRP.out.1, HRP.out.2]
          rw [if_neg (fun e => absurd e.1 k32), if_neg (fun e => HSS.out e.2.2.1)]
          exact ⟨_, _, _, _, _, _, rfl, L, hW6.out.2.2.2.1, hW6.out.2.2.2.2, noTs _ _, noTs _ _⟩
end Go.Proofs.Ytfjnajngelemkaa
