/-
  (*pairs).take.
-/
import Derived.Test.YtfjnajngelemkaaZUniE
namespace Go.Proofs.Ytfjnajngelemkaa
open Go.RowKit Go.Shelf
open Classical
set_option linter.unusedVariables false
set_option linter.unusedSimpArgs false

/-- A list of terms behind its first one. -/
theorem TsIn.tail {p : Nat → Prop} {W : World} {b o len cap : Nat} {A : Tm} {As : List Tm} (h : TsIn p W (.slice (some ⟨b, o, none⟩) len cap) (A :: As)) : TsIn p W (.slice (some ⟨b, o + 4, none⟩) (len - 1) (cap - 1)) As := by
  obtain ⟨a_, cap_, e, h1, h2, h3, hx⟩ := h
  injection e with e1 e2 e3
  subst e1 e2 e3
  have h1' : As.length + 1 ≤ cap := h1
  refine ⟨some ⟨b, o + 4, none⟩, cap - 1, by simp, by omega, by omega, (fun e => by cases e), fun i hi => ?_⟩
  obtain ⟨b', o', k', n', s', a', l', c', e, hb, c0, c1, c2, c3, ht⟩ := hx (i + 1) (by simp; omega)
  simp only [Option.some.injEq, Addr.mk.injEq, and_true] at e
  obtain ⟨rfl, rfl⟩ := e
  have e4 : o + (i + 1) * 4 = o + 4 + i * 4 := by omega
  rw [e4] at c0 c1 c2 c3
  exact ⟨b, o + 4, k', n', s', a', l', c', rfl, hb, c0, c1, c2, c3, by simpa using ht⟩
theorem TsIn.tail' {p : Nat → Prop} {W : World} {b o len cap : Nat} {A : Tm} {As : List Tm} (h : TsIn p W (.slice (some ⟨b, o, none⟩) len cap) (A :: As)) : TsIn p W (.slice (if cap = 1 then some ⟨b, o, none⟩ else some ⟨b, o + 4, none⟩) (len - 1) (cap - 1)) As := by
  by_cases hc : cap = 1
  · rw [if_pos hc]
    obtain ⟨a_, cap_, e, h1, h2, h3, hx⟩ := h
    injection e with e1 e2 e3
    subst e1 e2 e3
    have h1' : As.length + 1 ≤ cap := h1
    have : As = [] := List.eq_nil_of_length_eq_zero (by omega)
    subst this
    exact ⟨some ⟨b, o, none⟩, cap - 1, rfl, Nat.zero_le _, by omega, (fun e => by cases e), fun i hi => by cases hi⟩
  · rw [if_neg hc]; exact h.tail
theorem TsIn.head {p : Nat → Prop} {W : World} {v : Value} {A : Tm} {As : List Tm} (h : TsIn p W v (A :: As)) : ∃ b o cap k n s a l c, v = .slice (some ⟨b, o, none⟩) (As.length + 1) cap ∧ As.length + 1 ≤ cap ∧ cap ≤ maxLen ∧ p b ∧ W.cell? ⟨b, o, none⟩ = some (.int .i64 k) ∧ W.cell? ⟨b, o + 1, none⟩ = some (.int .i64 n) ∧ W.cell? ⟨b, o + 2, none⟩ = some (.string s) ∧ W.cell? ⟨b, o + 3, none⟩ = some (.slice a l c) ∧ TmIn p W (.agg #[.int .i64 k, .int .i64 n, .string s, .slice a l c]) A := by
  obtain ⟨a_, cap_, rfl, h1, h2, h3, hx⟩ := h
  obtain ⟨b', o', k', n', s', a', l', c', rfl, hb, c0, c1, c2, c3, ht⟩ := hx 0 (by simp)
  exact ⟨b', o', cap_, k', n', s', a', l', c', rfl, h1, h2, hb, by simpa using c0, by simpa using c1, by simpa using c2, by simpa using c3, ht⟩

theorem box4 {w4 : World} {B : Nat} {c0 c1 c2 c3 : Value} {t : TypeId} (y : w4.heap[B]? = some (.cells #[c0, c1, c2, c3] t (0, 0))) (v0 v1 v2 v3 : Value) : ∃ W, W = (((w4.setCell ⟨B, 0, none⟩ v0).setCell ⟨B, 1, none⟩ v1).setCell ⟨B, 2, none⟩ v2).setCell ⟨B, 3, none⟩ v3 ∧ W.heap[B]? = some (.cells #[v0, v1, v2, v3] t (0, 0)) ∧ ButN B w4 W :=
  ⟨_, rfl, four_block y v0 v1 v2 v3, ((((ButN.refl _ _).setAt 0 _).setAt 1 _).setAt 2 _).setAt 3 _⟩
/-- What take leaves. -/
def TakeP (q : Nat → Prop) (w : World) (R o : Nat) (cur : Array Value) (ty : TypeId) (A B : Tm) (As Bs : List Tm) (e : Ending) (w' : World) : Prop :=
  ∃ k1 n1 s1 a1 l1 c1 k2 n2 s2 a2 l2 c2, e = .returned (.tuple #[.agg #[.int .i64 k1, .int .i64 n1, .string s1, .slice a1 l1 c1], .agg #[.int .i64 k2, .int .i64 n2, .string s2, .slice a2 l2 c2]]) ∧ TmIn q w' (.agg #[.int .i64 k1, .int .i64 n1, .string s1, .slice a1 l1 c1]) A ∧ TmIn q w' (.agg #[.int .i64 k2, .int .i64 n2, .string s2, .slice a2 l2 c2]) B ∧ ∃ sa la ca sb lb cb, ButN R w w' ∧ w'.heap[R]? = some (.cells ((cur.setIfInBounds o (.slice sa la ca)).setIfInBounds (o + 1) (.slice sb lb cb)) ty (0, 0)) ∧ TsIn q w' (.slice sa la ca) As ∧ TsIn q w' (.slice sb lb cb) Bs

set_option maxRecDepth 100000 in
set_option maxHeartbeats 16000000 in
theorem take_at {q : Nat → Prop} {w : World} {R o : Nat} {cur : Array Value} {ty : TypeId} {va vb : Value} {A B : Tm} {As Bs : List Tm} (hq : ∀ c, q c → c < w.heap.size ∧ c ≠ R) (hblk : w.heap[R]? = some (.cells cur ty (0, 0))) (hc0 : w.cell? ⟨R, o, none⟩ = some va) (hc1 : w.cell? ⟨R, o + 1, none⟩ = some vb)
    (hA : TsIn q w va (A :: As)) (hB : TsIn q w vb (B :: Bs)) : Calls Try.prog 59 #[.pointer (some ⟨R, o, none⟩)] w (TakeP q w R o cur ty A B As Bs) := by
  obtain ⟨ba, oa, ca, k1, n1, s1, a1, l1, c1, rfl, hla, hca, hba, p0, p1, p2, p3, tA⟩ := id hA.head
  obtain ⟨bb, ob, cb, k2, n2, s2, a2, l2, c2, rfl, hlb, hcb, hbb, r0, r1, r2, r3, tB⟩ := id hB.head
  obtain ⟨la, hlae⟩ : ∃ la, la = As.length + 1 := ⟨_, rfl⟩
  obtain ⟨lb, hlbe⟩ : ∃ lb, lb = Bs.length + 1 := ⟨_, rfl⟩
  rw [← hlae] at hc0 hA hla
  rw [← hlbe] at hc1 hB hlb
  have hla1 : 1 ≤ la := by omega
  have hlb1 : 1 ≤ lb := by omega
  have hRlt : R < w.heap.size := (Array.getElem?_eq_some_iff.1 hblk).1
  have hba' := hq ba hba
  have hbb' := hq bb hbb
  obtain ⟨w2, hw2⟩ : ∃ w2, w2 = (w.alloc (.cells #[.int .i64 0, .int .i64 0, .string (ByteArray.mk #[]), .slice none 0 0] 24)).alloc (.cells #[.int .i64 0, .int .i64 0, .string (ByteArray.mk #[]), .slice none 0 0] 24) := ⟨_, rfl⟩
  have hb2 : Below w.heap.size w w2 := by rw [hw2]; exact ((Below.refl _ w).alloc (Nat.le_refl _) _).alloc (by simp) _
  have hx2 : w2.heap[w.heap.size]? = some (.cells #[.int .i64 0, .int .i64 0, .string (ByteArray.mk #[]), .slice none 0 0] 24 (0, 0)) := by rw [hw2]; exact (Below.heap_alloc _ _ _ (by simp)).trans (World.alloc_heap_new _ _)
  have hx3 : w2.heap[w.heap.size + 1]? = some (.cells #[.int .i64 0, .int .i64 0, .string (ByteArray.mk #[]), .slice none 0 0] 24 (0, 0)) := by rw [hw2]; simpa using World.alloc_heap_new (w.alloc (.cells #[.int .i64 0, .int .i64 0, .string (ByteArray.mk #[]), .slice none 0 0] 24)) (.cells #[.int .i64 0, .int .i64 0, .string (ByteArray.mk #[]), .slice none 0 0] 24)
  have hs2 : w2.heap.size = w.heap.size + 2 := by rw [hw2]; simp
  have hz := zeroTerm
  have HW := Lib.hid hw2
  have HS : ∀ w' : World, Below w.heap.size w w' → (w'.cell? ⟨R, o, none⟩ = some (.slice (some ⟨ba, oa, none⟩) la ca) ∧ w'.cell? ⟨R, o + 1, none⟩ = some (.slice (some ⟨bb, ob, none⟩) lb cb) ∧ w'.cell? ⟨ba, oa, none⟩ = some (.int .i64 k1) ∧ w'.cell? ⟨ba, oa + 1, none⟩ = some (.int .i64 n1) ∧ w'.cell? ⟨ba, oa + 2, none⟩ = some (.string s1) ∧ w'.cell? ⟨ba, oa + 3, none⟩ = some (.slice a1 l1 c1) ∧ w'.cell? ⟨bb, ob, none⟩ = some (.int .i64 k2) ∧ w'.cell? ⟨bb, ob + 1, none⟩ = some (.int .i64 n2) ∧ w'.cell? ⟨bb, ob + 2, none⟩ = some (.string s2) ∧ w'.cell? ⟨bb, ob + 3, none⟩ = some (.slice a2 l2 c2)) := fun w' hb => ⟨(hb.cell (p := ⟨R, o, none⟩) hRlt).trans hc0, (hb.cell (p := ⟨R, o + 1, none⟩) hRlt).trans hc1, (hb.cell (p := ⟨ba, _, none⟩) hba'.1).trans p0, (hb.cell (p := ⟨ba, _, none⟩) hba'.1).trans p1, (hb.cell (p := ⟨ba, _, none⟩) hba'.1).trans p2, (hb.cell (p := ⟨ba, _, none⟩) hba'.1).trans p3, (hb.cell (p := ⟨bb, _, none⟩) hbb'.1).trans r0, (hb.cell (p := ⟨bb, _, none⟩) hbb'.1).trans r1, (hb.cell (p := ⟨bb, _, none⟩) hbb'.1).trans r2, (hb.cell (p := ⟨bb, _, none⟩) hbb'.1).trans r3⟩
  have HG := Lib.hid (And.intro hq (And.intro hblk (And.intro hA (And.intro hB (And.intro tA (And.intro tB (And.intro hRlt (And.intro hba' (And.intro hbb' (And.intro hb2 (And.intro hx2 (And.intro hx3 (And.intro hs2 (And.intro hlae hlbe))))))))))))))
  have j1 : 0 < la := by omega
  have j2 : 0 < lb := by omega
  have i1 : (0 : Int) < (la : Int) := by omega
  have i2 : (0 : Int) < (lb : Int) := by omega
  have i3 : (1 : Int) ≤ (la : Int) := by omega
  have i4 : (1 : Int) ≤ (lb : Int) := by omega
  have i5 : la ≤ ca := hla
  have i6 : lb ≤ cb := hlb
  have i7 : (ca : Int) ≤ 9223372036854775807 := by unfold maxLen at hca; omega
  have i8 : (cb : Int) ≤ 9223372036854775807 := by unfold maxLen at hcb; omega
  clear hq hblk hA hB tA tB hRlt hba' hbb' hb2 hx2 hx3 hs2 hlae hlbe hw2 hc0 hc1 p0 p1 p2 p3 r0 r1 r2 r3 hba hbb hla hlb hca hcb
  go_enter Try.func59, Try.ntmps59
  go_upto_region 1 with fail
  rw [← HW.out]
  go_cut [4, 5] from 4 to 17 (fun v4 v5 wc => ∃ g4 g5 : Nat, v4 = .pointer (some ⟨g4, 0, none⟩) ∧ v5 = .pointer (some ⟨g5, 0, none⟩) ∧ Hid (wc.heap[g4]? = some (.cells #[.int .i64 k1, .int .i64 n1, .string s1, .slice a1 l1 c1] 24 (0, 0)) ∧ wc.heap[g5]? = some (.cells #[.int .i64 k2, .int .i64 n2, .string s2, .slice a2 l2 c2] 24 (0, 0)) ∧ Below w2.heap.size w2 wc ∧ w2.heap.size ≤ g4 ∧ w2.heap.size ≤ g5))
  case first =>
    refine wp_region_held_drew (S := (fun w' : World => w'.cell? ⟨R, o, none⟩ = some (.slice (some ⟨ba, oa, none⟩) la ca) ∧ w'.cell? ⟨R, o + 1, none⟩ = some (.slice (some ⟨bb, ob, none⟩) lb cb) ∧ w'.cell? ⟨ba, oa, none⟩ = some (.int .i64 k1) ∧ w'.cell? ⟨ba, oa + 1, none⟩ = some (.int .i64 n1) ∧ w'.cell? ⟨ba, oa + 2, none⟩ = some (.string s1) ∧ w'.cell? ⟨ba, oa + 3, none⟩ = some (.slice a1 l1 c1) ∧ w'.cell? ⟨bb, ob, none⟩ = some (.int .i64 k2) ∧ w'.cell? ⟨bb, ob + 1, none⟩ = some (.int .i64 n2) ∧ w'.cell? ⟨bb, ob + 2, none⟩ = some (.string s2) ∧ w'.cell? ⟨bb, ob + 3, none⟩ = some (.slice a2 l2 c2))) (by kernel_rfl) (HS _ (HG.out.2.2.2.2.2.2.2.2.2.1.trans ((Below.refl _ _).drew.mono HG.out.2.2.2.2.2.2.2.2.2.1.size))) (fun hHeld => ?_)
    have hE0 : Below w2.heap.size w2 w2.drew := (Below.refl _ _).drew
    refine wpAnyH_take (i := 0) (v := ?_) rfl (by kernel_rfl) (by kernel_rfl) (by kernel_rfl) (fun _ _ _ h => h) (Or.inl ⟨by kernel_rfl, ?_⟩) hHeld ?_
    rotate_left
    · intro w0 hSw
      (try dsimp only at hSw)
      go_simp
      try (with_reducible rfl)
    try simp only [Act.put, List.setIfInBounds_toArray, List.set_cons_zero, List.set_cons_succ]
    refine wpAnyH_take (i := 1) (v := ?_) rfl (by kernel_rfl) (by kernel_rfl) (by kernel_rfl) (fun _ _ _ h => h) (Or.inl ⟨by kernel_rfl, ?_⟩) hHeld ?_
    rotate_left
    · intro w0 hSw
      (try dsimp only at hSw)
      go_simp
      try (with_reducible rfl)
    try simp only [Act.put, List.setIfInBounds_toArray, List.set_cons_zero, List.set_cons_succ]
    refine wpAnyH_take (i := 2) (v := ?_) rfl (by kernel_rfl) (by kernel_rfl) (by kernel_rfl) (fun _ _ _ h => h) (Or.inl ⟨by kernel_rfl, ?_⟩) hHeld ?_
    rotate_left
    · intro w0 hSw
      (try dsimp only at hSw)
      go_simp
      try (with_reducible rfl)
    try simp only [Act.put, List.setIfInBounds_toArray, List.set_cons_zero, List.set_cons_succ]
    refine wpAnyH_take (i := 3) (v := ?_) rfl (by kernel_rfl) (by kernel_rfl) (by kernel_rfl) (fun _ _ _ h => h) (Or.inl ⟨by kernel_rfl, ?_⟩) hHeld ?_
    rotate_left
    · intro w0 hSw
      (try dsimp only at hSw)
      go_simp
      try (with_reducible rfl)
    try simp only [Act.put, List.setIfInBounds_toArray, List.set_cons_zero, List.set_cons_succ]
    refine wpAnyH_take (i := 4) (v := ?_) rfl (by kernel_rfl) (by kernel_rfl) (by kernel_rfl) (fun _ _ _ h => h) (Or.inl ⟨by kernel_rfl, ?_⟩) hHeld ?_
    rotate_left
    · intro w0 hSw
      (try dsimp only at hSw)
      go_simp
      try (with_reducible rfl)
    try simp only [Act.put, List.setIfInBounds_toArray, List.set_cons_zero, List.set_cons_succ]
    refine wpAnyH_take (i := 5) (v := ?_) rfl (by kernel_rfl) (by kernel_rfl) (by kernel_rfl) (fun _ _ _ h => h) (Or.inl ⟨by kernel_rfl, ?_⟩) hHeld ?_
    rotate_left
    · intro w0 hSw
      (try dsimp only at hSw)
      go_simp
      try (with_reducible rfl)
    try simp only [Act.put, List.setIfInBounds_toArray, List.set_cons_zero, List.set_cons_succ]
    refine wpAnyH_take (i := 6) (v := ?_) rfl (by kernel_rfl) (by kernel_rfl) (by kernel_rfl) (fun _ _ _ h => h) (Or.inl ⟨by kernel_rfl, ?_⟩) hHeld ?_
    rotate_left
    · intro w0 hSw
      (try dsimp only at hSw)
      go_simp
      try (with_reducible rfl)
    try simp only [Act.put, List.setIfInBounds_toArray, List.set_cons_zero, List.set_cons_succ]
    refine wpAnyH_take (i := 7) (v := ?_) rfl (by kernel_rfl) (by kernel_rfl) (by kernel_rfl) (fun _ _ _ h => h) (Or.inl ⟨by kernel_rfl, ?_⟩) hHeld ?_
    rotate_left
    · intro w0 hSw
      (try dsimp only at hSw)
      go_simp
      try (with_reducible rfl)
    try simp only [Act.put, List.setIfInBounds_toArray, List.set_cons_zero, List.set_cons_succ]
    refine wpAnyH_take (i := 8) (v := ?_) rfl (by kernel_rfl) (by kernel_rfl) (by kernel_rfl) (fun _ _ _ h => h) (Or.inl ⟨by kernel_rfl, ?_⟩) hHeld ?_
    rotate_left
    · intro w0 hSw
      (try dsimp only at hSw)
      go_simp
      try (with_reducible rfl)
    try simp only [Act.put, List.setIfInBounds_toArray, List.set_cons_zero, List.set_cons_succ]
    refine wpAnyH_take (i := 9) (v := ?_) rfl (by kernel_rfl) (by kernel_rfl) (by kernel_rfl) (fun _ _ _ h => h) (Or.inl ⟨by kernel_rfl, ?_⟩) hHeld ?_
    rotate_left
    · intro w0 hSw
      (try dsimp only at hSw)
      go_simp
      try (with_reducible rfl)
    try simp only [Act.put, List.setIfInBounds_toArray, List.set_cons_zero, List.set_cons_succ]
    refine wpAnyH_take (i := 10) (v := ?_) rfl (by kernel_rfl) (by kernel_rfl) (by kernel_rfl) (fun _ _ _ h => h) (Or.inl ⟨by kernel_rfl, ?_⟩) hHeld ?_
    rotate_left
    · intro w0 hSw
      (try dsimp only at hSw)
      go_simp
      try (with_reducible rfl)
    try simp only [Act.put, List.setIfInBounds_toArray, List.set_cons_zero, List.set_cons_succ]
    refine wpAnyH_take (i := 11) (v := ?_) rfl (by kernel_rfl) (by kernel_rfl) (by kernel_rfl) (fun _ _ _ h => h) (Or.inl ⟨by kernel_rfl, ?_⟩) hHeld ?_
    rotate_left
    · intro w0 hSw
      (try dsimp only at hSw)
      go_simp
      try (with_reducible rfl)
    try simp only [Act.put, List.setIfInBounds_toArray, List.set_cons_zero, List.set_cons_succ]
    have hb2 := HG.out.2.2.2.2.2.2.2.2.2.1
    generalize w2.drew = wD at hHeld hE0 ⊢
    refine wpAnyH_ready (rs := [12, 13]) (by kernel_rfl) (by simp) ?_
    refine AllReadyH.cons rfl (fun K hK => ?_) (AllReadyH.cons rfl (fun K hK => ?_) AllReadyH.nil)
    · go_simp
      obtain ⟨W1, hW1⟩ : ∃ W, W = World.alloc wD (.cells #[.int .i64 0, .int .i64 0, .string (ByteArray.mk #[]), .slice none 0 0] 24) := ⟨_, rfl⟩
      have hA1 : Below wD.heap.size wD W1 := by rw [hW1]; exact (Below.refl _ _).alloc (Nat.le_refl _) _
      have hN1 : W1.heap[wD.heap.size]? = some (.cells #[.int .i64 0, .int .i64 0, .string (ByteArray.mk #[]), .slice none 0 0] 24 (0, 0)) := by rw [hW1]; exact World.alloc_heap_new _ _
      have hE1 : Below w2.heap.size w2 W1 := hE0.trans (hA1.mono hE0.size)
      have hsz1 : W1.heap.size = wD.heap.size + 1 := by rw [hW1]; simp
      rw [← hW1]
      clear hW1
      refine hK.out _ _ (HS _ (hb2.trans (hE1.mono hb2.size))) (fun hh1 => ?_)
      clear hK K
      try simp only [Act.put, List.setIfInBounds_toArray, List.set_cons_zero, List.set_cons_succ]
      refine wpAnyH_ready (rs := [13]) (by kernel_rfl) (by simp) ?_
      refine AllReadyH.cons rfl (fun K hK => ?_) AllReadyH.nil
      go_simp
      obtain ⟨W2, hW2⟩ : ∃ W, W = World.alloc W1 (.cells #[.int .i64 0, .int .i64 0, .string (ByteArray.mk #[]), .slice none 0 0] 24) := ⟨_, rfl⟩
      have hA2 : Below W1.heap.size W1 W2 := by rw [hW2]; exact (Below.refl _ _).alloc (Nat.le_refl _) _
      have hN2 : W2.heap[W1.heap.size]? = some (.cells #[.int .i64 0, .int .i64 0, .string (ByteArray.mk #[]), .slice none 0 0] 24 (0, 0)) := by rw [hW2]; exact World.alloc_heap_new _ _
      rw [hsz1] at hN2
      have hN1' : W2.heap[wD.heap.size]? = some (.cells #[.int .i64 0, .int .i64 0, .string (ByteArray.mk #[]), .slice none 0 0] 24 (0, 0)) := tbox_below hN1 hA2
      have hE2 : Below w2.heap.size w2 W2 := hE1.trans (hA2.mono hE1.size)
      rw [← hW2]
      clear hW2
      refine hK.out _ _ (HS _ (hb2.trans (hE2.mono hb2.size))) (fun hh2 => ?_)
      clear hK K
      try simp only [Act.put, List.setIfInBounds_toArray, List.set_cons_zero, List.set_cons_succ]
      obtain ⟨g4, hg4⟩ : ∃ g, g = wD.heap.size := ⟨_, rfl⟩
      obtain ⟨g5, hg5⟩ : ∃ g, g = wD.heap.size + 1 := ⟨_, rfl⟩
      have L4 : w2.heap.size ≤ g4 := by have := hE0.size; omega
      have L5 : w2.heap.size ≤ g5 := by have := hE0.size; omega
      have hne : g5 ≠ g4 := by omega
      have M4 : W2.heap[g4]? = some (.cells #[.int .i64 0, .int .i64 0, .string (ByteArray.mk #[]), .slice none 0 0] 24 (0, 0)) := by rw [hg4]; assumption
      have M5 : W2.heap[g5]? = some (.cells #[.int .i64 0, .int .i64 0, .string (ByteArray.mk #[]), .slice none 0 0] 24 (0, 0)) := by rw [hg5]; assumption
      rw [← hg5, ← hg4]
      clear hg4 hg5 hN1 hN2 hN1' hA1 hA2 hsz1
      obtain ⟨t0, t1, t2, t3⟩ := tbox_cells M4
      have tf : ∀ j, W2.frozen? ⟨g4, j, none⟩ = false := fun j => by simp [World.frozen?, M4]
      obtain ⟨W3, hW3⟩ : ∃ W3, W3 = (((W2.setCell ⟨g4, 0, none⟩ (.int .i64 k1)).setCell ⟨g4, 1, none⟩ (.int .i64 n1)).setCell ⟨g4, 2, none⟩ (.string s1)).setCell ⟨g4, 3, none⟩ (.slice a1 l1 c1) := ⟨_, rfl⟩
      have hE3 : Below w2.heap.size w2 W3 := by rw [hW3]; exact (((hE2.setCell (p := ⟨g4, 0, none⟩) L4 _).setCell (p := ⟨g4, 1, none⟩) L4 _).setCell (p := ⟨g4, 2, none⟩) L4 _).setCell (p := ⟨g4, 3, none⟩) L4 _
      have P4 : W3.heap[g4]? = some (.cells #[.int .i64 k1, .int .i64 n1, .string s1, .slice a1 l1 c1] 24 (0, 0)) := by rw [hW3]; exact four_block M4 _ _ _ _
      have P5 : W3.heap[g5]? = some (.cells #[.int .i64 0, .int .i64 0, .string (ByteArray.mk #[]), .slice none 0 0] 24 (0, 0)) := by
        rw [hW3, Below.heap_setCell _ _ _ _ (by simpa using hne), Below.heap_setCell _ _ _ _ (by simpa using hne), Below.heap_setCell _ _ _ _ (by simpa using hne), Below.heap_setCell _ _ _ _ (by simpa using hne)]
        exact M5
      have HW3 := Lib.hid hW3
      clear hW3 M4 M5
      refine wpAnyH_ready (rs := [14]) (by kernel_rfl) (by simp) ?_
      refine AllReadyH.cons rfl (fun K hK => ?_) AllReadyH.nil
      go_simp
      rw [← HW3.out]
      refine hK.out _ _ (HS _ (hb2.trans (hE3.mono hb2.size))) (fun hh3 => ?_)
      clear hK K t0 t1 t2 t3 tf
      try simp only [Act.put, List.setIfInBounds_toArray, List.set_cons_zero, List.set_cons_succ]
      obtain ⟨t0, t1, t2, t3⟩ := tbox_cells P5
      have tf : ∀ j, W3.frozen? ⟨g5, j, none⟩ = false := fun j => by simp [World.frozen?, P5]
      obtain ⟨W4, hW4⟩ : ∃ W4, W4 = (((W3.setCell ⟨g5, 0, none⟩ (.int .i64 k2)).setCell ⟨g5, 1, none⟩ (.int .i64 n2)).setCell ⟨g5, 2, none⟩ (.string s2)).setCell ⟨g5, 3, none⟩ (.slice a2 l2 c2) := ⟨_, rfl⟩
      have hE4 : Below w2.heap.size w2 W4 := by rw [hW4]; exact (((hE3.setCell (p := ⟨g5, 0, none⟩) L5 _).setCell (p := ⟨g5, 1, none⟩) L5 _).setCell (p := ⟨g5, 2, none⟩) L5 _).setCell (p := ⟨g5, 3, none⟩) L5 _
      have Q5 : W4.heap[g5]? = some (.cells #[.int .i64 k2, .int .i64 n2, .string s2, .slice a2 l2 c2] 24 (0, 0)) := by rw [hW4]; exact four_block P5 _ _ _ _
      have Q4 : W4.heap[g4]? = some (.cells #[.int .i64 k1, .int .i64 n1, .string s1, .slice a1 l1 c1] 24 (0, 0)) := by
        have hne' : g4 ≠ g5 := fun e => hne e.symm
        rw [hW4, Below.heap_setCell _ _ _ _ (by simpa using hne'), Below.heap_setCell _ _ _ _ (by simpa using hne'), Below.heap_setCell _ _ _ _ (by simpa using hne'), Below.heap_setCell _ _ _ _ (by simpa using hne')]
        exact P4
      have HW4 := Lib.hid hW4
      have HF := Lib.hid (And.intro Q4 (And.intro Q5 (And.intro hE4 (And.intro L4 L5))))
      have hE4' := hb2.trans (hE4.mono hb2.size)
      clear hW4 P4 P5 Q4 Q5 hE4 L4 L5 hE3 hE2 hE1 hne
      refine wpAnyH_ready (rs := [15]) (by kernel_rfl) (by simp) ?_
      refine AllReadyH.cons rfl (fun K hK => ?_) AllReadyH.nil
      go_simp
      rw [← HW4.out]
      refine hK.out _ _ (HS _ hE4') (fun hh4 => ?_)
      clear hK K t0 t1 t2 t3 tf
      try simp only [Act.put, List.setIfInBounds_toArray, List.set_cons_zero, List.set_cons_succ]
      refine wpAnyH_done (by kernel_rfl) ?_ _
      go_wp2_with fail
      go_meet
      exact ⟨g4, g5, rfl, rfl, HF⟩
    · go_simp
      obtain ⟨W1, hW1⟩ : ∃ W, W = World.alloc wD (.cells #[.int .i64 0, .int .i64 0, .string (ByteArray.mk #[]), .slice none 0 0] 24) := ⟨_, rfl⟩
      have hA1 : Below wD.heap.size wD W1 := by rw [hW1]; exact (Below.refl _ _).alloc (Nat.le_refl _) _
      have hN1 : W1.heap[wD.heap.size]? = some (.cells #[.int .i64 0, .int .i64 0, .string (ByteArray.mk #[]), .slice none 0 0] 24 (0, 0)) := by rw [hW1]; exact World.alloc_heap_new _ _
      have hE1 : Below w2.heap.size w2 W1 := hE0.trans (hA1.mono hE0.size)
      have hsz1 : W1.heap.size = wD.heap.size + 1 := by rw [hW1]; simp
      rw [← hW1]
      clear hW1
      refine hK.out _ _ (HS _ (hb2.trans (hE1.mono hb2.size))) (fun hh1 => ?_)
      clear hK K
      try simp only [Act.put, List.setIfInBounds_toArray, List.set_cons_zero, List.set_cons_succ]
      refine wpAnyH_ready (rs := [12]) (by kernel_rfl) (by simp) ?_
      refine AllReadyH.cons rfl (fun K hK => ?_) AllReadyH.nil
      go_simp
      obtain ⟨W2, hW2⟩ : ∃ W, W = World.alloc W1 (.cells #[.int .i64 0, .int .i64 0, .string (ByteArray.mk #[]), .slice none 0 0] 24) := ⟨_, rfl⟩
      have hA2 : Below W1.heap.size W1 W2 := by rw [hW2]; exact (Below.refl _ _).alloc (Nat.le_refl _) _
      have hN2 : W2.heap[W1.heap.size]? = some (.cells #[.int .i64 0, .int .i64 0, .string (ByteArray.mk #[]), .slice none 0 0] 24 (0, 0)) := by rw [hW2]; exact World.alloc_heap_new _ _
      rw [hsz1] at hN2
      have hN1' : W2.heap[wD.heap.size]? = some (.cells #[.int .i64 0, .int .i64 0, .string (ByteArray.mk #[]), .slice none 0 0] 24 (0, 0)) := tbox_below hN1 hA2
      have hE2 : Below w2.heap.size w2 W2 := hE1.trans (hA2.mono hE1.size)
      rw [← hW2]
      clear hW2
      refine hK.out _ _ (HS _ (hb2.trans (hE2.mono hb2.size))) (fun hh2 => ?_)
      clear hK K
      try simp only [Act.put, List.setIfInBounds_toArray, List.set_cons_zero, List.set_cons_succ]
      obtain ⟨g4, hg4⟩ : ∃ g, g = wD.heap.size + 1 := ⟨_, rfl⟩
      obtain ⟨g5, hg5⟩ : ∃ g, g = wD.heap.size := ⟨_, rfl⟩
      have L4 : w2.heap.size ≤ g4 := by have := hE0.size; omega
      have L5 : w2.heap.size ≤ g5 := by have := hE0.size; omega
      have hne : g5 ≠ g4 := by omega
      have M4 : W2.heap[g4]? = some (.cells #[.int .i64 0, .int .i64 0, .string (ByteArray.mk #[]), .slice none 0 0] 24 (0, 0)) := by rw [hg4]; assumption
      have M5 : W2.heap[g5]? = some (.cells #[.int .i64 0, .int .i64 0, .string (ByteArray.mk #[]), .slice none 0 0] 24 (0, 0)) := by rw [hg5]; assumption
      rw [← hg4, ← hg5]
      clear hg4 hg5 hN1 hN2 hN1' hA1 hA2 hsz1
      obtain ⟨t0, t1, t2, t3⟩ := tbox_cells M4
      have tf : ∀ j, W2.frozen? ⟨g4, j, none⟩ = false := fun j => by simp [World.frozen?, M4]
      obtain ⟨W3, hW3⟩ : ∃ W3, W3 = (((W2.setCell ⟨g4, 0, none⟩ (.int .i64 k1)).setCell ⟨g4, 1, none⟩ (.int .i64 n1)).setCell ⟨g4, 2, none⟩ (.string s1)).setCell ⟨g4, 3, none⟩ (.slice a1 l1 c1) := ⟨_, rfl⟩
      have hE3 : Below w2.heap.size w2 W3 := by rw [hW3]; exact (((hE2.setCell (p := ⟨g4, 0, none⟩) L4 _).setCell (p := ⟨g4, 1, none⟩) L4 _).setCell (p := ⟨g4, 2, none⟩) L4 _).setCell (p := ⟨g4, 3, none⟩) L4 _
      have P4 : W3.heap[g4]? = some (.cells #[.int .i64 k1, .int .i64 n1, .string s1, .slice a1 l1 c1] 24 (0, 0)) := by rw [hW3]; exact four_block M4 _ _ _ _
      have P5 : W3.heap[g5]? = some (.cells #[.int .i64 0, .int .i64 0, .string (ByteArray.mk #[]), .slice none 0 0] 24 (0, 0)) := by
        rw [hW3, Below.heap_setCell _ _ _ _ (by simpa using hne), Below.heap_setCell _ _ _ _ (by simpa using hne), Below.heap_setCell _ _ _ _ (by simpa using hne), Below.heap_setCell _ _ _ _ (by simpa using hne)]
        exact M5
      have HW3 := Lib.hid hW3
      clear hW3 M4 M5
      refine wpAnyH_ready (rs := [14]) (by kernel_rfl) (by simp) ?_
      refine AllReadyH.cons rfl (fun K hK => ?_) AllReadyH.nil
      go_simp
      rw [← HW3.out]
      refine hK.out _ _ (HS _ (hb2.trans (hE3.mono hb2.size))) (fun hh3 => ?_)
      clear hK K t0 t1 t2 t3 tf
      try simp only [Act.put, List.setIfInBounds_toArray, List.set_cons_zero, List.set_cons_succ]
      obtain ⟨t0, t1, t2, t3⟩ := tbox_cells P5
      have tf : ∀ j, W3.frozen? ⟨g5, j, none⟩ = false := fun j => by simp [World.frozen?, P5]
      obtain ⟨W4, hW4⟩ : ∃ W4, W4 = (((W3.setCell ⟨g5, 0, none⟩ (.int .i64 k2)).setCell ⟨g5, 1, none⟩ (.int .i64 n2)).setCell ⟨g5, 2, none⟩ (.string s2)).setCell ⟨g5, 3, none⟩ (.slice a2 l2 c2) := ⟨_, rfl⟩
      have hE4 : Below w2.heap.size w2 W4 := by rw [hW4]; exact (((hE3.setCell (p := ⟨g5, 0, none⟩) L5 _).setCell (p := ⟨g5, 1, none⟩) L5 _).setCell (p := ⟨g5, 2, none⟩) L5 _).setCell (p := ⟨g5, 3, none⟩) L5 _
      have Q5 : W4.heap[g5]? = some (.cells #[.int .i64 k2, .int .i64 n2, .string s2, .slice a2 l2 c2] 24 (0, 0)) := by rw [hW4]; exact four_block P5 _ _ _ _
      have Q4 : W4.heap[g4]? = some (.cells #[.int .i64 k1, .int .i64 n1, .string s1, .slice a1 l1 c1] 24 (0, 0)) := by
        have hne' : g4 ≠ g5 := fun e => hne e.symm
        rw [hW4, Below.heap_setCell _ _ _ _ (by simpa using hne'), Below.heap_setCell _ _ _ _ (by simpa using hne'), Below.heap_setCell _ _ _ _ (by simpa using hne'), Below.heap_setCell _ _ _ _ (by simpa using hne')]
        exact P4
      have HW4 := Lib.hid hW4
      have HF := Lib.hid (And.intro Q4 (And.intro Q5 (And.intro hE4 (And.intro L4 L5))))
      have hE4' := hb2.trans (hE4.mono hb2.size)
      clear hW4 P4 P5 Q4 Q5 hE4 L4 L5 hE3 hE2 hE1 hne
      refine wpAnyH_ready (rs := [15]) (by kernel_rfl) (by simp) ?_
      refine AllReadyH.cons rfl (fun K hK => ?_) AllReadyH.nil
      go_simp
      rw [← HW4.out]
      refine hK.out _ _ (HS _ hE4') (fun hh4 => ?_)
      clear hK K t0 t1 t2 t3 tf
      try simp only [Act.put, List.setIfInBounds_toArray, List.set_cons_zero, List.set_cons_succ]
      refine wpAnyH_done (by kernel_rfl) ?_ _
      go_wp2_with fail
      go_meet
      exact ⟨g4, g5, rfl, rfl, HF⟩
  case rest =>
    obtain ⟨g4, g5, rfl, rfl, HC⟩ := hcut
    obtain ⟨hq, hblk, hA, hB, tA, tB, hRlt, hba', hbb', hb2, hx2, hx3, hs2, hlae, hlbe⟩ := id HG.out
    obtain ⟨Q4, Q5, hE, L4, L5⟩ := id HC.out
    have hb : Below w.heap.size w wc := hb2.trans (hE.mono hb2.size)
    have hblk1 : wc.heap[R]? = some (.cells cur ty (0, 0)) := (hb.block R hRlt).trans hblk
    have cc0 : wc.cell? ⟨R, o, none⟩ = some (.slice (some ⟨ba, oa, none⟩) la ca) := (HS wc hb).1
    have cc1 : wc.cell? ⟨R, o + 1, none⟩ = some (.slice (some ⟨bb, ob, none⟩) lb cb) := (HS wc hb).2.1
    clear HS
    have wf : ∀ j, wc.frozen? ⟨R, j, none⟩ = false := fun j => by simp [World.frozen?, hblk1]
    have hAc : TsIn q wc (.slice (some ⟨ba, oa, none⟩) la ca) (A :: As) := hA.carry (fun c hc => hb.block c (hq c hc).1) (fun _ h => h)
    have hBc : TsIn q wc (.slice (some ⟨bb, ob, none⟩) lb cb) (B :: Bs) := hB.carry (fun c hc => hb.block c (hq c hc).1) (fun _ h => h)
    have HH := Lib.hid (And.intro hblk1 (And.intro hAc (And.intro hBc (And.intro hb (And.intro hRlt hq)))))
    clear hq hblk hA hB tA tB hRlt hba' hbb' hb2 hx2 hx3 hs2 hlae hlbe Q4 Q5 hE L4 L5 hb hblk1 hAc hBc
    go_upto_region 2 with fail
    obtain ⟨wp, rfl⟩ : ∃ wp, wp = wc := ⟨_, rfl⟩
    go_cut [] from 6 to 33 (fun wx => ∃ (sa : Option Addr) (x1 x2 : Nat) (sb : Option Addr) (x3 x4 : Nat), Hid (wx.heap[R]? = some (.cells ((cur.setIfInBounds o (.slice sa x1 x2)).setIfInBounds (o + 1) (.slice sb x3 x4)) ty (0, 0)) ∧ ButN R wp wx ∧ TsIn q wx (.slice sa x1 x2) As ∧ TsIn q wx (.slice sb x3 x4) Bs))
    case first =>
      obtain ⟨hblk1, hAc, hBc, hb, hRlt, hq⟩ := HH.out
      have hE0 : Below wp.heap.size wp wp.drew := (Below.refl _ _).drew
      refine wp_region_held_drew (S := (fun w' : World => True)) (by kernel_rfl) trivial (fun hHeld => ?_)
      have hblkD : wp.drew.heap[R]? = some (.cells cur ty (0, 0)) := hblk1
      have ccD0 : wp.drew.cell? ⟨R, o, none⟩ = some (.slice (some ⟨ba, oa, none⟩) la ca) := cc0
      have ccD1 : wp.drew.cell? ⟨R, o + 1, none⟩ = some (.slice (some ⟨bb, ob, none⟩) lb cb) := cc1
      have btD : ButN R wp wp.drew := ⟨hE0.os, hE0.tape, hE0.output, hE0.size, fun k hk _ => hE0.block k hk⟩
      have hRc : R < wp.heap.size := (Array.getElem?_eq_some_iff.1 hblk1).1
      generalize wp.drew = wD at hblkD ccD0 ccD1 btD hE0 ⊢
      clear cc0 cc1 wf
      have wf : ∀ j, wD.frozen? ⟨R, j, none⟩ = false := fun j => by simp [World.frozen?, hblkD]
      obtain ⟨ta, hta⟩ : ∃ ta : Option Addr, ta = if ca = 1 then some ⟨ba, oa, none⟩ else some ⟨ba, oa + 4, none⟩ := ⟨_, rfl⟩
      obtain ⟨tb, htb⟩ : ∃ tb : Option Addr, tb = if cb = 1 then some ⟨bb, ob, none⟩ else some ⟨bb, ob + 4, none⟩ := ⟨_, rfl⟩
      obtain ⟨W1, hW1⟩ : ∃ W1, W1 = wD.setCell ⟨R, o, none⟩ (.slice ta (la - 1) (ca - 1)) := ⟨_, rfl⟩
      have hblk2 : W1.heap[R]? = some (.cells (cur.setIfInBounds o (.slice ta (la - 1) (ca - 1))) ty (0, 0)) := by rw [hW1]; exact set_block hblkD _
      have d1 : W1.cell? ⟨R, o + 1, none⟩ = some (.slice (some ⟨bb, ob, none⟩) lb cb) := by
        rw [← ccD1]
        simp only [World.cell?, hblkD, hblk2]
        rw [Array.getElem?_setIfInBounds_ne (by omega)]
      have df : ∀ j, W1.frozen? ⟨R, j, none⟩ = false := fun j => by simp [World.frozen?, hblk2]
      have bt1 : ButN R wp W1 := by rw [hW1]; exact btD.setAt _ _
      obtain ⟨W2, hW2⟩ : ∃ W2, W2 = W1.setCell ⟨R, o + 1, none⟩ (.slice tb (lb - 1) (cb - 1)) := ⟨_, rfl⟩
      have hblk3 : W2.heap[R]? = some (.cells ((cur.setIfInBounds o (.slice ta (la - 1) (ca - 1))).setIfInBounds (o + 1) (.slice tb (lb - 1) (cb - 1))) ty (0, 0)) := by rw [hW2]; exact set_block hblk2 _
      have bt2 : ButN R wp W2 := by rw [hW2]; exact bt1.setAt _ _
      have hA2 : TsIn q W2 (.slice ta (la - 1) (ca - 1)) As := by
        rw [hta]; exact hAc.tail'.carry (fun c hc => bt2.same c (Nat.lt_of_lt_of_le (hq c hc).1 hb.size) (hq c hc).2) (fun _ h => h)
      have hB2 : TsIn q W2 (.slice tb (lb - 1) (cb - 1)) Bs := by
        rw [htb]; exact hBc.tail'.carry (fun c hc => bt2.same c (Nat.lt_of_lt_of_le (hq c hc).1 hb.size) (hq c hc).2) (fun _ h => h)
      have HTA := Lib.hid hta
      have HTB := Lib.hid htb
      clear hta htb
      have HW1 := Lib.hid hW1
      have HW2 := Lib.hid hW2
      have HD := Lib.hid (And.intro hblk3 (And.intro bt2 (And.intro hA2 hB2)))
      clear hblk1 hAc hBc hb hRlt hq hblkD btD hRc hE0 hblk2 bt1 hW1 hW2 hblk3 bt2 hA2 hB2
      refine wpAnyH_take (i := 0) (v := ?_) rfl (by kernel_rfl) (by kernel_rfl) (by kernel_rfl) (fun _ _ _ h => h) (Or.inl ⟨by kernel_rfl, ?_⟩) hHeld ?_
      rotate_left
      · intro w0 hSw
        (try dsimp only at hSw)
        go_simp
        try (with_reducible rfl)
      try simp only [Act.put, List.setIfInBounds_toArray, List.set_cons_zero, List.set_cons_succ]
      refine wpAnyH_take (i := 1) (v := ?_) rfl (by kernel_rfl) (by kernel_rfl) (by kernel_rfl) (fun _ _ _ h => h) (Or.inl ⟨by kernel_rfl, ?_⟩) hHeld ?_
      rotate_left
      · intro w0 hSw
        (try dsimp only at hSw)
        go_simp
        try (with_reducible rfl)
      try simp only [Act.put, List.setIfInBounds_toArray, List.set_cons_zero, List.set_cons_succ]
      refine wpAnyH_take (i := 2) (v := ?_) rfl (by kernel_rfl) (by kernel_rfl) (by kernel_rfl) (fun _ _ _ h => h) (Or.inl ⟨by kernel_rfl, ?_⟩) hHeld ?_
      rotate_left
      · intro w0 hSw
        (try dsimp only at hSw)
        go_simp
        try (with_reducible rfl)
      try simp only [Act.put, List.setIfInBounds_toArray, List.set_cons_zero, List.set_cons_succ]
      refine wpAnyH_take (i := 3) (v := ?_) rfl (by kernel_rfl) (by kernel_rfl) (by kernel_rfl) (fun _ _ _ h => h) (Or.inl ⟨by kernel_rfl, ?_⟩) hHeld ?_
      rotate_left
      · intro w0 hSw
        (try dsimp only at hSw)
        go_simp
        try (with_reducible rfl)
      try simp only [Act.put, List.setIfInBounds_toArray, List.set_cons_zero, List.set_cons_succ]
      refine wpAnyH_take (i := 4) (v := ?_) rfl (by kernel_rfl) (by kernel_rfl) (by kernel_rfl) (fun _ _ _ h => h) (Or.inl ⟨by kernel_rfl, ?_⟩) hHeld ?_
      rotate_left
      · intro w0 hSw
        (try dsimp only at hSw)
        go_simp
        try (with_reducible rfl)
      try simp only [Act.put, List.setIfInBounds_toArray, List.set_cons_zero, List.set_cons_succ]
      refine wpAnyH_take (i := 7) (v := ?_) rfl (by kernel_rfl) (by kernel_rfl) (by kernel_rfl) (fun _ _ _ h => h) (Or.inl ⟨by kernel_rfl, ?_⟩) hHeld ?_
      rotate_left
      · intro w0 hSw
        (try dsimp only at hSw)
        go_simp
        try (with_reducible rfl)
      try simp only [Act.put, List.setIfInBounds_toArray, List.set_cons_zero, List.set_cons_succ]
      refine wpAnyH_take (i := 8) (v := ?_) rfl (by kernel_rfl) (by kernel_rfl) (by kernel_rfl) (fun _ _ _ h => h) (Or.inl ⟨by kernel_rfl, ?_⟩) hHeld ?_
      rotate_left
      · intro w0 hSw
        (try dsimp only at hSw)
        go_simp
        try (with_reducible rfl)
      try simp only [Act.put, List.setIfInBounds_toArray, List.set_cons_zero, List.set_cons_succ]
      refine wpAnyH_take (i := 9) (v := ?_) rfl (by kernel_rfl) (by kernel_rfl) (by kernel_rfl) (fun _ _ _ h => h) (Or.inl ⟨by kernel_rfl, ?_⟩) hHeld ?_
      rotate_left
      · intro w0 hSw
        (try dsimp only at hSw)
        go_simp
        try (with_reducible rfl)
      try simp only [Act.put, List.setIfInBounds_toArray, List.set_cons_zero, List.set_cons_succ]
      refine wpAnyH_ready (rs := [5, 10]) (by kernel_rfl) (by simp) ?_
      refine AllReadyH.cons rfl (fun K hK => ?_) (AllReadyH.cons rfl (fun K hK => ?_) AllReadyH.nil)
      · go_simp
        refine hK.out _ _ trivial (fun hh1 => ?_)
        clear hK K
        try simp only [Act.put, List.setIfInBounds_toArray, List.set_cons_zero, List.set_cons_succ]
        refine wpAnyH_take (i := 6) (v := .slice ta (la - 1) (ca - 1)) rfl (by kernel_rfl) (by kernel_rfl) (by kernel_rfl) (fun _ _ _ h => h) (Or.inl ⟨by kernel_rfl, ?_⟩) trivial ?_
        · intro w0 hSw
          go_simp
          try rw [← HTA.out]
        try simp only [Act.put, List.setIfInBounds_toArray, List.set_cons_zero, List.set_cons_succ]
        refine wpAnyH_ready (rs := [10]) (by kernel_rfl) (by simp) ?_
        refine AllReadyH.cons rfl (fun K hK => ?_) AllReadyH.nil
        go_simp
        refine hK.out _ _ trivial (fun hh2 => ?_)
        clear hK K
        try simp only [Act.put, List.setIfInBounds_toArray, List.set_cons_zero, List.set_cons_succ]
        refine wpAnyH_take (i := 11) (v := .slice tb (lb - 1) (cb - 1)) rfl (by kernel_rfl) (by kernel_rfl) (by kernel_rfl) (fun _ _ _ h => h) (Or.inl ⟨by kernel_rfl, ?_⟩) trivial ?_
        · intro w0 hSw
          go_simp
          try rw [← HTB.out]
        try simp only [Act.put, List.setIfInBounds_toArray, List.set_cons_zero, List.set_cons_succ]
        refine wpAnyH_take (i := 12) (v := ?_) rfl (by kernel_rfl) (by kernel_rfl) (by kernel_rfl) (fun _ _ _ h => h) (Or.inl ⟨by kernel_rfl, ?_⟩) trivial ?_
        rotate_left
        · intro w0 hSw
          (try dsimp only at hSw)
          go_simp
          try (with_reducible rfl)
        try simp only [Act.put, List.setIfInBounds_toArray, List.set_cons_zero, List.set_cons_succ]
        refine wpAnyH_take (i := 13) (v := ?_) rfl (by kernel_rfl) (by kernel_rfl) (by kernel_rfl) (fun _ _ _ h => h) (Or.inl ⟨by kernel_rfl, ?_⟩) trivial ?_
        rotate_left
        · intro w0 hSw
          (try dsimp only at hSw)
          go_simp
          try (with_reducible rfl)
        try simp only [Act.put, List.setIfInBounds_toArray, List.set_cons_zero, List.set_cons_succ]
        refine wpAnyH_ready (rs := [14]) (by kernel_rfl) (by simp) ?_
        refine AllReadyH.cons rfl (fun K hK => ?_) AllReadyH.nil
        go_simp
        rw [← HW1.out]
        refine hK.out _ _ trivial (fun hh3 => ?_)
        clear hK K
        try simp only [Act.put, List.setIfInBounds_toArray, List.set_cons_zero, List.set_cons_succ]
        refine wpAnyH_take (i := 15) (v := ?_) rfl (by kernel_rfl) (by kernel_rfl) (by kernel_rfl) (fun _ _ _ h => h) (Or.inl ⟨by kernel_rfl, ?_⟩) trivial ?_
        rotate_left
        · intro w0 hSw
          (try dsimp only at hSw)
          go_simp
          try (with_reducible rfl)
        try simp only [Act.put, List.setIfInBounds_toArray, List.set_cons_zero, List.set_cons_succ]
        refine wpAnyH_take (i := 16) (v := ?_) rfl (by kernel_rfl) (by kernel_rfl) (by kernel_rfl) (fun _ _ _ h => h) (Or.inl ⟨by kernel_rfl, ?_⟩) trivial ?_
        rotate_left
        · intro w0 hSw
          (try dsimp only at hSw)
          go_simp
          try (with_reducible rfl)
        try simp only [Act.put, List.setIfInBounds_toArray, List.set_cons_zero, List.set_cons_succ]
        refine wpAnyH_ready (rs := [17]) (by kernel_rfl) (by simp) ?_
        refine AllReadyH.cons rfl (fun K hK => ?_) AllReadyH.nil
        go_simp
        rw [← HW2.out]
        refine hK.out _ _ trivial (fun hh4 => ?_)
        clear hK K
        try simp only [Act.put, List.setIfInBounds_toArray, List.set_cons_zero, List.set_cons_succ]
        refine wpAnyH_done (by kernel_rfl) ?_ _
        go_wp2_with fail
        go_meet
        exact ⟨_, _, _, _, _, _, HD⟩
      · go_simp
        refine hK.out _ _ trivial (fun hh1 => ?_)
        clear hK K
        try simp only [Act.put, List.setIfInBounds_toArray, List.set_cons_zero, List.set_cons_succ]
        refine wpAnyH_take (i := 11) (v := .slice tb (lb - 1) (cb - 1)) rfl (by kernel_rfl) (by kernel_rfl) (by kernel_rfl) (fun _ _ _ h => h) (Or.inl ⟨by kernel_rfl, ?_⟩) trivial ?_
        · intro w0 hSw
          go_simp
          try rw [← HTB.out]
        try simp only [Act.put, List.setIfInBounds_toArray, List.set_cons_zero, List.set_cons_succ]
        refine wpAnyH_ready (rs := [5]) (by kernel_rfl) (by simp) ?_
        refine AllReadyH.cons rfl (fun K hK => ?_) AllReadyH.nil
        go_simp
        refine hK.out _ _ trivial (fun hh2 => ?_)
        clear hK K
        try simp only [Act.put, List.setIfInBounds_toArray, List.set_cons_zero, List.set_cons_succ]
        refine wpAnyH_take (i := 6) (v := .slice ta (la - 1) (ca - 1)) rfl (by kernel_rfl) (by kernel_rfl) (by kernel_rfl) (fun _ _ _ h => h) (Or.inl ⟨by kernel_rfl, ?_⟩) trivial ?_
        · intro w0 hSw
          go_simp
          try rw [← HTA.out]
        try simp only [Act.put, List.setIfInBounds_toArray, List.set_cons_zero, List.set_cons_succ]
        refine wpAnyH_take (i := 12) (v := ?_) rfl (by kernel_rfl) (by kernel_rfl) (by kernel_rfl) (fun _ _ _ h => h) (Or.inl ⟨by kernel_rfl, ?_⟩) trivial ?_
        rotate_left
        · intro w0 hSw
          (try dsimp only at hSw)
          go_simp
          try (with_reducible rfl)
        try simp only [Act.put, List.setIfInBounds_toArray, List.set_cons_zero, List.set_cons_succ]
        refine wpAnyH_take (i := 13) (v := ?_) rfl (by kernel_rfl) (by kernel_rfl) (by kernel_rfl) (fun _ _ _ h => h) (Or.inl ⟨by kernel_rfl, ?_⟩) trivial ?_
        rotate_left
        · intro w0 hSw
          (try dsimp only at hSw)
          go_simp
          try (with_reducible rfl)
        try simp only [Act.put, List.setIfInBounds_toArray, List.set_cons_zero, List.set_cons_succ]
        refine wpAnyH_ready (rs := [14]) (by kernel_rfl) (by simp) ?_
        refine AllReadyH.cons rfl (fun K hK => ?_) AllReadyH.nil
        go_simp
        rw [← HW1.out]
        refine hK.out _ _ trivial (fun hh3 => ?_)
        clear hK K
        try simp only [Act.put, List.setIfInBounds_toArray, List.set_cons_zero, List.set_cons_succ]
        refine wpAnyH_take (i := 15) (v := ?_) rfl (by kernel_rfl) (by kernel_rfl) (by kernel_rfl) (fun _ _ _ h => h) (Or.inl ⟨by kernel_rfl, ?_⟩) trivial ?_
        rotate_left
        · intro w0 hSw
          (try dsimp only at hSw)
          go_simp
          try (with_reducible rfl)
        try simp only [Act.put, List.setIfInBounds_toArray, List.set_cons_zero, List.set_cons_succ]
        refine wpAnyH_take (i := 16) (v := ?_) rfl (by kernel_rfl) (by kernel_rfl) (by kernel_rfl) (fun _ _ _ h => h) (Or.inl ⟨by kernel_rfl, ?_⟩) trivial ?_
        rotate_left
        · intro w0 hSw
          (try dsimp only at hSw)
          go_simp
          try (with_reducible rfl)
        try simp only [Act.put, List.setIfInBounds_toArray, List.set_cons_zero, List.set_cons_succ]
        refine wpAnyH_ready (rs := [17]) (by kernel_rfl) (by simp) ?_
        refine AllReadyH.cons rfl (fun K hK => ?_) AllReadyH.nil
        go_simp
        rw [← HW2.out]
        refine hK.out _ _ trivial (fun hh4 => ?_)
        clear hK K
        try simp only [Act.put, List.setIfInBounds_toArray, List.set_cons_zero, List.set_cons_succ]
        refine wpAnyH_done (by kernel_rfl) ?_ _
        go_wp2_with fail
        go_meet
        exact ⟨_, _, _, _, _, _, HD⟩
    case rest =>
      obtain ⟨sa, x1, x2, sb, x3, x4, HX⟩ := hcut
      clear cc0 cc1 wf
      obtain ⟨hblk1, hAc, hBc, hb, hRlt, hq⟩ := HH.out
      obtain ⟨hq', hblk', hA', hB', tA, tB, -, hba', hbb', hb2, hx2, hx3, hs2, -, -⟩ := id HG.out
      obtain ⟨Q4, Q5, hE, L4, L5⟩ := id HC.out
      obtain ⟨hxb, hbt, hxA, hxB⟩ := id HX.out
      have hR2 : R < w2.heap.size := by omega
      have e2 : wc.heap[w.heap.size]? = some (.cells #[.int .i64 0, .int .i64 0, .string (ByteArray.mk #[]), .slice none 0 0] 24 (0, 0)) := (hbt.same _ (by have := hE.size; omega) (by omega)).trans ((hE.block _ (by omega)).trans hx2)
      have e3 : wc.heap[w.heap.size + 1]? = some (.cells #[.int .i64 0, .int .i64 0, .string (ByteArray.mk #[]), .slice none 0 0] 24 (0, 0)) := (hbt.same _ (by have := hE.size; omega) (by omega)).trans ((hE.block _ (by omega)).trans hx3)
      have e4 : wc.heap[g4]? = some (.cells #[.int .i64 k1, .int .i64 n1, .string s1, .slice a1 l1 c1] 24 (0, 0)) := (hbt.same g4 (Array.getElem?_eq_some_iff.1 Q4).1 (by omega)).trans Q4
      have e5 : wc.heap[g5]? = some (.cells #[.int .i64 k2, .int .i64 n2, .string s2, .slice a2 l2 c2] 24 (0, 0)) := (hbt.same g5 (Array.getElem?_eq_some_iff.1 Q5).1 (by omega)).trans Q5
      have tA1 : TmIn q wc (.agg #[.int .i64 k1, .int .i64 n1, .string s1, .slice a1 l1 c1]) A := tA.carry (fun c hc => (hbt.same c (Nat.lt_of_lt_of_le (hq c hc).1 hb.size) (hq c hc).2).trans (hb.block c (hq c hc).1)) (fun _ h => h)
      have tB1 : TmIn q wc (.agg #[.int .i64 k2, .int .i64 n2, .string s2, .slice a2 l2 c2]) B := tB.carry (fun c hc => (hbt.same c (Nat.lt_of_lt_of_le (hq c hc).1 hb.size) (hq c hc).2).trans (hb.block c (hq c hc).1)) (fun _ h => h)
      have bw : ButN R w wc := ⟨hbt.os.trans hb.os, hbt.tape.trans hb.tape, hbt.output.trans hb.output, Nat.le_trans hb.size hbt.size, fun k hk hne => (hbt.same k (Nat.lt_of_lt_of_le hk hb.size) hne).trans (hb.block k hk)⟩
      have HS3 : ∀ w' : World, w'.heap[g4]? = wc.heap[g4]? → w'.heap[g5]? = wc.heap[g5]? → (w'.cell? ⟨g4, 0, none⟩ = some (.int .i64 k1) ∧ w'.cell? ⟨g4, 1, none⟩ = some (.int .i64 n1) ∧ w'.cell? ⟨g4, 2, none⟩ = some (.string s1) ∧ w'.cell? ⟨g4, 3, none⟩ = some (.slice a1 l1 c1) ∧ w'.cell? ⟨g5, 0, none⟩ = some (.int .i64 k2) ∧ w'.cell? ⟨g5, 1, none⟩ = some (.int .i64 n2) ∧ w'.cell? ⟨g5, 2, none⟩ = some (.string s2) ∧ w'.cell? ⟨g5, 3, none⟩ = some (.slice a2 l2 c2)) := fun w' h4 h5 => by
        obtain ⟨p0, p1, p2, p3⟩ := tbox_cells (h4.trans e4)
        obtain ⟨r0, r1, r2, r3⟩ := tbox_cells (h5.trans e5)
        exact ⟨p0, p1, p2, p3, r0, r1, r2, r3⟩
      obtain ⟨wD, hwD⟩ : ∃ wD, wD = wc.drew := ⟨_, rfl⟩
      have hdh : wD.heap = wc.heap := by rw [hwD]; rfl
      have hdo : wD.os = wc.os ∧ wD.tape = wc.tape ∧ wD.output = wc.output := by rw [hwD]; exact ⟨rfl, rfl, rfl⟩
      rw [← hdh] at e2 e3 e4 e5
      obtain ⟨W3, hW3, k2_, bt3⟩ := box4 (w4 := wD) e2 (.int .i64 k1) (.int .i64 n1) (.string s1) (.slice a1 l1 c1)
      have k3_ : W3.heap[w.heap.size + 1]? = some (.cells #[.int .i64 0, .int .i64 0, .string (ByteArray.mk #[]), .slice none 0 0] 24 (0, 0)) := (bt3.same _ (Array.getElem?_eq_some_iff.1 e3).1 (by omega)).trans e3
      obtain ⟨W4, hW4, k4_, bt4⟩ := box4 k3_ (.int .i64 k2) (.int .i64 n2) (.string s2) (.slice a2 l2 c2)
      have hwcs : w.heap.size + 2 ≤ wc.heap.size := by have := bw.size; have := hE.size; have := hbt.size; omega
      have hsz34 : wc.heap.size ≤ W3.heap.size := by have := bt3.size; rw [hdh] at this; exact this
      have hsz44 : W3.heap.size ≤ W4.heap.size := bt4.size
      have hq4 : ∀ c, q c → W4.heap[c]? = wc.heap[c]? := fun c hc => (bt4.same c (by have := (hq c hc).1; omega) (by have := (hq c hc).1; omega)).trans ((bt3.same c (by rw [hdh]; have := (hq c hc).1; omega) (by have := (hq c hc).1; omega)).trans (by rw [hdh]))
      have g43 : W3.heap[g4]? = wc.heap[g4]? := (bt3.same g4 (Array.getElem?_eq_some_iff.1 e4).1 (by omega)).trans (by rw [hdh])
      have g53 : W3.heap[g5]? = wc.heap[g5]? := (bt3.same g5 (Array.getElem?_eq_some_iff.1 e5).1 (by omega)).trans (by rw [hdh])
      have f2 : W4.heap[w.heap.size]? = some (.cells #[.int .i64 k1, .int .i64 n1, .string s1, .slice a1 l1 c1] 24 (0, 0)) := (bt4.same _ (by omega) (by omega)).trans k2_
      have HF := Lib.hid (And.intro f2 (And.intro k4_ (And.intro (tA1.carry hq4 (fun _ h => h)) (And.intro (tB1.carry hq4 (fun _ h => h)) (And.intro (hxA.carry hq4 (fun _ h => h)) (And.intro (hxB.carry hq4 (fun _ h => h)) (And.intro (show ButN R w W4 from ⟨((bt4.os.trans bt3.os).trans hdo.1).trans bw.os, ((bt4.tape.trans bt3.tape).trans hdo.2.1).trans bw.tape, ((bt4.output.trans bt3.output).trans hdo.2.2).trans bw.output, by omega, fun k hk hne => ((bt4.same k (by omega) (by omega)).trans ((bt3.same k (by rw [hdh]; omega) (by omega)).trans (by rw [hdh]))).trans (bw.same k hk hne)⟩) (((bt4.same R (by omega) (by omega)).trans ((bt3.same R (by rw [hdh]; omega) (by omega)).trans (by rw [hdh]))).trans hxb))))))))
      have zf : ∀ j, wD.frozen? ⟨w.heap.size, j, none⟩ = false := fun j => by simp [World.frozen?, e2]
      obtain ⟨y0, y1, y2, y3⟩ := tbox_cells e2
      obtain ⟨t0, t1, t2, t3⟩ := tbox_cells k3_
      have tf : ∀ j, W3.frozen? ⟨w.heap.size + 1, j, none⟩ = false := fun j => by simp [World.frozen?, k3_]
      have HW3 := Lib.hid hW3
      have HW4 := Lib.hid hW4
      have hS0 := HS3 wD (by rw [hdh]) (by rw [hdh])
      have HWD := Lib.hid hwD
      have hS3 := HS3 W3 g43 g53
      have hS4 := HS3 W4 ((bt4.same g4 (by have := (Array.getElem?_eq_some_iff.1 e4).1; rw [hdh] at this; omega) (by omega)).trans g43) ((bt4.same g5 (by have := (Array.getElem?_eq_some_iff.1 e5).1; rw [hdh] at this; omega) (by omega)).trans g53)
      clear hwD hdh hdo hsz44 hW3 hW4 hq4 g43 g53 f2 k2_ k3_ k4_ bt3 bt4 hwcs hsz34 bw tA1 tB1 e2 e3 e4 e5 hR2 hxb hbt hxA hxB Q4 Q5 hE L4 L5 hq' hblk' hA' hB' tA tB hba' hbb' hb2 hx2 hx3 hs2 hblk1 hAc hBc hb hRlt hq HS3
      go_upto_region 3 with fail
      refine wp_region_held_drew (S := (fun w' : World => w'.cell? ⟨g4, 0, none⟩ = some (.int .i64 k1) ∧ w'.cell? ⟨g4, 1, none⟩ = some (.int .i64 n1) ∧ w'.cell? ⟨g4, 2, none⟩ = some (.string s1) ∧ w'.cell? ⟨g4, 3, none⟩ = some (.slice a1 l1 c1) ∧ w'.cell? ⟨g5, 0, none⟩ = some (.int .i64 k2) ∧ w'.cell? ⟨g5, 1, none⟩ = some (.int .i64 n2) ∧ w'.cell? ⟨g5, 2, none⟩ = some (.string s2) ∧ w'.cell? ⟨g5, 3, none⟩ = some (.slice a2 l2 c2))) (by kernel_rfl) (by rw [← HWD.out]; exact hS0) (fun hHeld => ?_)
      rw [← HWD.out] at hHeld ⊢
      refine wpAnyH_take (i := 0) (v := ?_) rfl (by kernel_rfl) (by kernel_rfl) (by kernel_rfl) (fun _ _ _ h => h) (Or.inl ⟨by kernel_rfl, ?_⟩) hHeld ?_
      rotate_left
      · intro w0 hSw
        (try dsimp only at hSw)
        go_simp
        try (with_reducible rfl)
      try simp only [Act.put, List.setIfInBounds_toArray, List.set_cons_zero, List.set_cons_succ]
      refine wpAnyH_take (i := 1) (v := ?_) rfl (by kernel_rfl) (by kernel_rfl) (by kernel_rfl) (fun _ _ _ h => h) (Or.inl ⟨by kernel_rfl, ?_⟩) hHeld ?_
      rotate_left
      · intro w0 hSw
        (try dsimp only at hSw)
        go_simp
        try (with_reducible rfl)
      try simp only [Act.put, List.setIfInBounds_toArray, List.set_cons_zero, List.set_cons_succ]
      refine wpAnyH_ready (rs := [2]) (by kernel_rfl) (by simp) ?_
      refine AllReadyH.cons rfl (fun K hK => ?_) AllReadyH.nil
      go_simp
      rw [← HW3.out]
      refine hK.out _ _ hS3 (fun hh1 => ?_)
      clear hK K y0 y1 y2 y3 zf hS0 hHeld
      try simp only [Act.put, List.setIfInBounds_toArray, List.set_cons_zero, List.set_cons_succ]
      refine wpAnyH_ready (rs := [3]) (by kernel_rfl) (by simp) ?_
      refine AllReadyH.cons rfl (fun K hK => ?_) AllReadyH.nil
      go_simp
      rw [← HW4.out]
      refine hK.out _ _ hS4 (fun hh2 => ?_)
      clear hK K
      try simp only [Act.put, List.setIfInBounds_toArray, List.set_cons_zero, List.set_cons_succ]
      refine wpAnyH_done (by kernel_rfl) ?_ _
      go_wp2_with fail
      obtain ⟨f2, k4_, tA5, tB5, hxA5, hxB5, hbR, hRb⟩ := HF.out
      obtain ⟨v0, v1, v2, v3⟩ := tbox_cells f2
      obtain ⟨x0, x1_, x2_, x3_⟩ := tbox_cells k4_
      refine bodyPost_ret (v := .tuple #[.agg #[.int .i64 k1, .int .i64 n1, .string s1, .slice a1 l1 c1], .agg #[.int .i64 k2, .int .i64 n2, .string s2, .slice a2 l2 c2]]) (by simp [results, Try.f59, go_sem, v0, v1, v2, v3, x0, x1_, x2_, x3_]) rfl ?_
      exact ⟨_, _, _, _, _, _, _, _, _, _, _, _, rfl, tA5, tB5, _, _, _, _, _, _, hbR, hRb, hxA5, hxB5⟩
end Go.Proofs.Ytfjnajngelemkaa
