/-
  The law ArithFaults, walked.
-/
import Derived.Test.YtfjnajngelemkaaZArHn2
import Derived.Test.YtfjnajngelemkaaZSeal5
namespace Go.Proofs.Ytfjnajngelemkaa
open Go.RowKit Go.Shelf
open Classical
set_option linter.unusedVariables false
set_option linter.unusedSimpArgs false

theorem three_terms {w : World} {k1 n1 k2 n2 k3 n3 : Int} {s1 s2 s3 : ByteArray} {a1 a2 a3 : Option Addr} {l1 c1 l2 c2 l3 c3 : Nat} {T1 T2 T3 : Tm} (h1 : Has w (.agg #[.int .i64 k1, .int .i64 n1, .string s1, .slice a1 l1 c1]) T1) (h2 : Has w (.agg #[.int .i64 k2, .int .i64 n2, .string s2, .slice a2 l2 c2]) T2) (h3 : Has w (.agg #[.int .i64 k3, .int .i64 n3, .string s3, .slice a3 l3 c3]) T3) :
    HasTs (w.alloc (.cells #[.int .i64 k1, .int .i64 n1, .string s1, .slice a1 l1 c1, .int .i64 k2, .int .i64 n2, .string s2, .slice a2 l2 c2, .int .i64 k3, .int .i64 n3, .string s3, .slice a3 l3 c3] 24)) (.slice (some ⟨w.heap.size, 0, none⟩) 3 3) [T1, T2, T3] := by
  have hb : Below w.heap.size w (w.alloc (.cells #[.int .i64 k1, .int .i64 n1, .string s1, .slice a1 l1 c1, .int .i64 k2, .int .i64 n2, .string s2, .slice a2 l2 c2, .int .i64 k3, .int .i64 n3, .string s3, .slice a3 l3 c3] 24)) := (Below.refl _ w).alloc (Nat.le_refl _) _
  refine ⟨some ⟨w.heap.size, 0, none⟩, 3, rfl, by simp, by unfold maxLen; omega, (fun h => by cases h), fun i hi => ?_⟩
  have hi' : i = 0 ∨ i = 1 ∨ i = 2 := by simp at hi; omega
  rcases hi' with rfl | rfl | rfl
  · exact ⟨w.heap.size, 0, k1, n1, s1, a1, l1, c1, rfl, by simp, (World.cell?_alloc_new w _ _ _).trans rfl, (World.cell?_alloc_new w _ _ _).trans rfl, (World.cell?_alloc_new w _ _ _).trans rfl, (World.cell?_alloc_new w _ _ _).trans rfl, Has.below h1 hb⟩
  · exact ⟨w.heap.size, 0, k2, n2, s2, a2, l2, c2, rfl, by simp, (World.cell?_alloc_new w _ _ _).trans rfl, (World.cell?_alloc_new w _ _ _).trans rfl, (World.cell?_alloc_new w _ _ _).trans rfl, (World.cell?_alloc_new w _ _ _).trans rfl, Has.below h2 hb⟩
  · exact ⟨w.heap.size, 0, k3, n3, s3, a3, l3, c3, rfl, by simp, (World.cell?_alloc_new w _ _ _).trans rfl, (World.cell?_alloc_new w _ _ _).trans rfl, (World.cell?_alloc_new w _ _ _).trans rfl, (World.cell?_alloc_new w _ _ _).trans rfl, Has.below h3 hb⟩
theorem up_err (lv : Nat) (r : ER) : (r.up lv).err = r.err := by cases r <;> rfl
theorem plus_err (k : Nat) (r : ER) : (r.plus k).err = r.err := by cases r <;> rfl
theorem plus_lv (k : Nat) (r : ER) : (r.plus k).lv = r.lv := by cases r <;> rfl
theorem fin1_lv (o : Option Int) (l r : Nat) : (fin1 o l r).lv = l := by cases o <;> rfl
def addT (A B : Tm) : Tm := .mk 3 0 (ByteArray.mk #[43]) [A, B]
/-- ArithFaults, apart from memory. -/
theorem faults_ghost (A B : Tm) (h1 : (σ0.evl 9 2000 2000 0 A).err ≠ 3) (h2 : (σ0.evl 9 2000 2000 0 B).err ≠ 3) (h3 : (σ0.evl 9 2000 2000 0 (addT A B)).err ≠ 3) :
    ((σ0.evl 9 2000 2000 0 A).err ≠ 0 → (σ0.evl 9 2000 2000 0 (addT A B)).err = (σ0.evl 9 2000 2000 0 A).err ∧ (σ0.evl 9 2000 2000 0 (addT A B)).lv = (σ0.evl 9 2000 2000 0 A).lv) ∧
    ((σ0.evl 9 2000 2000 0 A).err = 0 → ((σ0.evl 9 2000 2000 0 B).err = 0 ∨ (σ0.evl 9 2000 2000 0 (addT A B)).err = (σ0.evl 9 2000 2000 0 B).err) ∧ (σ0.evl 9 2000 2000 0 A).lv ≤ (σ0.evl 9 2000 2000 0 (addT A B)).lv) := by
  have hS : σ0.evl 9 2000 2000 0 (addT A B) = (σ0.evl 9 1999 1999 0 A).next fun n l r => (σ0.evl 9 1999 r l B).next fun m l r => fin1 (A2.add.run n m) l r := by
    unfold addT
    rw [show (2000 : Nat) = 1999 + 1 from rfl, evl_fun _ _ _ _ _ _ _ _ (by decide)]
    simp only [evF, a2_add]
  have key : (σ0.evl 9 1999 1999 0 A).err ≠ 3 → σ0.evl 9 2000 2000 0 A = (σ0.evl 9 1999 1999 0 A).plus 1 := fun h => evl_more 9 σ0 1 1999 1 1999 0 A h
  have keyB : ∀ r l, r ≤ 2000 → (σ0.evl 9 1999 r l B).err ≠ 3 → (σ0.evl 9 2000 2000 0 B).err = (σ0.evl 9 1999 r l B).err := fun r l hr h => by
    rw [evl_at, up_err] at h
    have h' := evl_more 9 σ0 (2000 - r) 1999 1 r 0 B h
    rw [show r + (2000 - r) = 2000 by omega] at h'
    have h' : σ0.evl 9 2000 2000 0 B = _ := h'
    rw [h', plus_err, evl_at 9 σ0 1999 r l B, up_err]
  rw [hS] at h3 ⊢
  cases hA : σ0.evl 9 1999 1999 0 A with
  | bad e l =>
    rw [hA] at h3 key
    have hk := key h3
    rw [hk]
    refine ⟨fun _ => ⟨rfl, rfl⟩, fun h0 => ?_⟩
    rcases evl_err 9 σ0 1999 1999 0 A with ⟨n, l', r, e'⟩ | h'
    · rw [hA] at e'; cases e'
    · rw [hA] at h'; exact absurd h0 h'
  | ok n l r =>
    rw [hA] at h3 key
    have hk := key (by simp [ER.err])
    have hr := evl_left 9 σ0 1999 1999 0 A _ _ _ hA
    rw [hk]
    refine ⟨fun h0 => absurd rfl h0, fun _ => ?_⟩
    simp only [ER.next] at h3 ⊢
    have hg := evl_ge 9 σ0 1999 r l B
    have hkb := keyB r l (by omega)
    cases hB : σ0.evl 9 1999 r l B with
    | bad e l' =>
      rw [hB] at h3 hg hkb
      exact ⟨.inr (hkb h3).symm, hg⟩
    | ok m l' r' =>
      rw [hB] at h3 hg hkb
      refine ⟨.inl (hkb (by simp [ER.err])), ?_⟩
      show l ≤ (fin1 _ l' r').lv
      rw [fin1_lv]; exact hg
set_option maxRecDepth 100000 in
set_option maxHeartbeats 16000000 in
theorem arithFaults_at (op : ByteArray) (hop : op.size ≤ maxLen) (v1 : Value) (A : Tm) (v2 : Value) (B : Tm) (w : World) (hA : Has w v1 A) (hB : Has w v2 B) (sA : A.size ≤ 1048576) (sB : B.size ≤ 1048576) : Calls Try.prog 11 #[.string op, v1, v2] w (Gets w (.bool true)) := by
  obtain ⟨k1, n1, s1, a1, l1, c1, ks1, rfl, e1, -⟩ := hA.form
  obtain ⟨k2, n2, s2, a2, l2, c2, ks2, rfl, e2, -⟩ := hB.form
  clear e1 e2
  obtain ⟨w2, hw2⟩ : ∃ w2, w2 = (w.alloc (.cells #[.int .i64 k1, .int .i64 n1, .string s1, .slice a1 l1 c1] 24)).alloc (.cells #[.int .i64 k2, .int .i64 n2, .string s2, .slice a2 l2 c2] 24) := ⟨_, rfl⟩
  have hb2 : Below w.heap.size w w2 := by rw [hw2]; exact ((Below.refl _ w).alloc (Nat.le_refl _) _).alloc (by simp) _
  have hx1 : w2.heap[w.heap.size]? = some (.cells #[.int .i64 k1, .int .i64 n1, .string s1, .slice a1 l1 c1] 24 (0, 0)) := by rw [hw2]; exact (Below.heap_alloc _ _ _ (by simp)).trans (World.alloc_heap_new _ _)
  have hx2 : w2.heap[w.heap.size + 1]? = some (.cells #[.int .i64 k2, .int .i64 n2, .string s2, .slice a2 l2 c2] 24 (0, 0)) := by rw [hw2]; simpa using World.alloc_heap_new (w.alloc (.cells #[.int .i64 k1, .int .i64 n1, .string s1, .slice a1 l1 c1] 24)) (.cells #[.int .i64 k2, .int .i64 n2, .string s2, .slice a2 l2 c2] 24)
  have H2 := Lib.hid (And.intro hb2 (And.intro hx1 (And.intro hx2 (And.intro (Has.below hA hb2) (Has.below hB hb2)))))
  have HW := Lib.hid hw2
  have HO := Lib.hid hop
  clear hb2 hx1 hx2 hA hB hw2 hop
  go_enter Try.func11, Try.ntmps11
  go_upto_region 1 with fail
  rw [← HW.out]
  go_wp2_with fail
  refine (shown12_at w2).mono ?_
  rintro e w3 ⟨rfl, hb3⟩
  go_wp2_with fail
  refine (chain12_at 8 w3 (by decide)).mono ?_
  rintro e w4 ⟨v4, rfl, hO4, hb4⟩
  go_wp2_with fail
  refine (latt11_at 8 v4 w3 w4 (by decide) hO4).mono ?_
  rintro e w5 ⟨lb, rfl, hL5, hb5⟩
  have hb25 : Below w2.heap.size w2 w5 := hb3.trans ((hb4.trans (hb5.mono hb4.size)).mono hb3.size)
  have H5 := Lib.hid (And.intro hL5 hb25)
  clear hb3 hO4 hb4 hL5 hb5 hb25
  go_wp2_with fail
  refine (new_at10 w5 w2.heap.size H5.out.2.size).mono ?_
  rintro e w6 ⟨rfl, hB6, hlt6, hS6⟩
  have H6 := Lib.hid (And.intro hS6 (And.intro (H5.out.1.below hB6) (H5.out.2.trans (hB6.mono H5.out.2.size))))
  clear hB6 hlt6 hS6 H5
  obtain ⟨y0, y1, y2, y3⟩ := tbox_cells (tbox_below H2.out.2.1 H6.out.2.2)
  have hf1 := few12_at _ A w6 (Has.below H2.out.2.2.2.1 H6.out.2.2) (by omega)
  have hf2 : ∀ w7, Below w6.heap.size w6 w7 → Calls Try.prog 30 #[.agg #[.int .i64 k2, .int .i64 n2, .string s2, .slice a2 l2 c2]] w7 (Gets w7 (.bool (decide (B.size ≤ 300)))) := fun w7 h => few12_at _ B w7 (Has.below H2.out.2.2.2.2 (H6.out.2.2.trans (h.mono H6.out.2.2.size))) (by omega)
  by_cases hfA : A.size ≤ 300
  case neg =>
    rw [decide_eq_false hfA] at hf1
    clear hfA hf2
    go_wp2_with (go_at_call 30; refine hf1.mono ?_; clear hf1; rintro e w7 ⟨rfl, hb7⟩)
    go_ret
    exact ⟨rfl, H2.out.1.trans ((H6.out.2.2.trans (hb7.mono H6.out.2.2.size)).mono H2.out.1.size)⟩
  rw [decide_eq_true hfA] at hf1
  have HF1 := Lib.hid hfA
  clear hfA
  by_cases hfB : B.size ≤ 300
  case neg =>
    rw [decide_eq_false hfB] at hf2
    clear hfB
    go_wp2_with (first
      | (go_at_call 30; (have hq := hb7; clear hq); (with_reducible refine (hf2 w7 hb7).mono ?_); clear hf2; rintro e w8 ⟨rfl, hb8⟩)
      | (go_at_call 30; (with_reducible refine hf1.mono ?_); clear hf1; rintro e w7 ⟨rfl, hb7⟩; obtain ⟨z0, z1, z2, z3⟩ := tbox_cells (tbox_below (tbox_below H2.out.2.2.1 H6.out.2.2) hb7)))
    go_ret
    exact ⟨rfl, H2.out.1.trans ((H6.out.2.2.trans ((hb7.trans (hb8.mono hb7.size)).mono H6.out.2.2.size)).mono H2.out.1.size)⟩
  rw [decide_eq_true hfB] at hf2
  have HF2 := Lib.hid hfB
  clear hfB
  go_upto_region 6 with (first
    | (go_at_call 30; (have hq := hb7; clear hq); (with_reducible refine (hf2 w7 hb7).mono ?_); clear hf2; rintro e w8 ⟨rfl, hb8⟩)
    | (go_at_call 30; (with_reducible refine hf1.mono ?_); clear hf1; rintro e w7 ⟨rfl, hb7⟩; obtain ⟨z0, z1, z2, z3⟩ := tbox_cells (tbox_below (tbox_below H2.out.2.2.1 H6.out.2.2) hb7)))
  have hb68 := hb7.trans (hb8.mono hb7.size)
  have H8 := Lib.hid (And.intro (H6.out.1.step hb68) (And.intro (H6.out.2.1.below hb68) (H6.out.2.2.trans (hb68.mono H6.out.2.2.size))))
  clear hb68 hb7 hb8 z0 z1 z2 z3 y0 y1 y2 y3 H6
  have hgh := faults_ghost A B
  have hw3 : σ0.evl 9 2000 2000 0 (.mk 3 0 op [A, B, A]) = .bad 9 0 := by rw [show (2000 : Nat) = 1999 + 1 from rfl, evl_fun _ _ _ _ _ _ _ _ (by decide)]; rfl
  have hla := evl_lt (N := 9) (by decide) (σ := σ0) 2000 2000 0 A (by decide)
  have hls := evl_lt (N := 9) (by decide) (σ := σ0) 2000 2000 0 (addT A B) (by decide)
  obtain ⟨RA, hRA⟩ : ∃ x, σ0.evl 9 2000 2000 0 A = x := ⟨_, rfl⟩
  obtain ⟨RB, hRB⟩ : ∃ x, σ0.evl 9 2000 2000 0 B = x := ⟨_, rfl⟩
  obtain ⟨RS, hRS⟩ : ∃ x, σ0.evl 9 2000 2000 0 (addT A B) = x := ⟨_, rfl⟩
  rw [hRA, hRB, hRS] at hgh
  rw [hRA] at hla
  rw [hRS] at hls
  have HG := Lib.hid (And.intro hgh (And.intro hla hls))
  have HE := Lib.hid (And.intro hRA (And.intro hRB (And.intro hRS hw3)))
  clear hgh hla hls hRA hRB hRS hw3
  obtain ⟨y0, y1, y2, y3⟩ := tbox_cells (tbox_below H2.out.2.1 H8.out.2.2)
  go_wp2_with fail
  refine (aeval_at H8.out.1 H8.out.2.1 _ _ (Has.below H2.out.2.2.2.1 H8.out.2.2) (by omega)).mono ?_
  rw [HE.out.1]
  rintro e w9 ⟨rfl, hb9⟩
  have H9 := Lib.hid (And.intro (H8.out.1.step hb9) (And.intro (H8.out.2.1.below hb9) (H8.out.2.2.trans (hb9.mono H8.out.2.2.size))))
  clear hb9 y0 y1 y2 y3 H8
  obtain ⟨z0, z1, z2, z3⟩ := tbox_cells (tbox_below H2.out.2.2.1 H9.out.2.2)
  go_wp2_with fail
  refine (aeval_at H9.out.1 H9.out.2.1 _ _ (Has.below H2.out.2.2.2.2 H9.out.2.2) (by omega)).mono ?_
  rw [HE.out.2.1]
  rintro e w10 ⟨rfl, hb10⟩
  have H10 := Lib.hid (And.intro (H9.out.1.step hb10) (And.intro (H9.out.2.1.below hb10) (H9.out.2.2.trans (hb10.mono H9.out.2.2.size))))
  clear hb10 z0 z1 z2 z3 H9
  obtain ⟨y0, y1, y2, y3⟩ := tbox_cells (tbox_below H2.out.2.1 H10.out.2.2)
  obtain ⟨z0, z1, z2, z3⟩ := tbox_cells (tbox_below H2.out.2.2.1 H10.out.2.2)
  go_wp2_with fail
  refine (make_at (ByteArray.mk #[43]) _ [A, B] _ (by decide) (two_terms (Has.below H2.out.2.2.2.1 H10.out.2.2) (Has.below H2.out.2.2.2.2 H10.out.2.2)) (by rw [Tm.sizes_cons, Tm.sizes_cons, Tm.sizes_nil]; omega)).mono ?_
  intro e w11 h11
  obtain ⟨k3, n3, s3, a3, l3, c3, rfl, hN11, hb11⟩ := h11.has2
  have H11 := Lib.hid (And.intro (show Has w11 _ (addT A B) from has_new hN11) ((Below.refl _ _).alloc (Nat.le_refl _) _ |>.trans (hb11.mono (by simp))))
  clear h11 hN11 hb11 y0 y1 y2 y3 z0 z1 z2 z3
  go_wp2_with fail
  refine (aeval_at (H10.out.1.step H11.out.2) (H10.out.2.1.below H11.out.2) _ _ H11.out.1 (by unfold addT; rw [Tm.size_mk, Tm.sizes_cons, Tm.sizes_cons, Tm.sizes_nil]; have := HF1.out; have := HF2.out; omega)).mono ?_
  rw [HE.out.2.2.1]
  rintro e w12 ⟨rfl, hb12⟩
  have hb1012 := H11.out.2.trans (hb12.mono H11.out.2.size)
  have H12 := Lib.hid (And.intro (H10.out.1.step hb1012) (And.intro (H10.out.2.1.below hb1012) (H10.out.2.2.trans (hb1012.mono H10.out.2.2.size))))
  clear hb12 hb1012 H11 H10
  obtain ⟨y0, y1, y2, y3⟩ := tbox_cells (tbox_below H2.out.2.1 H12.out.2.2)
  obtain ⟨z0, z1, z2, z3⟩ := tbox_cells (tbox_below H2.out.2.2.1 H12.out.2.2)
  go_wp2_with fail
  refine (make_at op _ [A, B, A] _ HO.out (three_terms (Has.below H2.out.2.2.2.1 H12.out.2.2) (Has.below H2.out.2.2.2.2 H12.out.2.2) (Has.below H2.out.2.2.2.1 H12.out.2.2)) (by rw [Tm.sizes_cons, Tm.sizes_cons, Tm.sizes_cons, Tm.sizes_nil]; omega)).mono ?_
  intro e w13 h13
  obtain ⟨k4, n4, s4, a4, l4, c4, rfl, hN13, hb13⟩ := h13.has2
  have H13 := Lib.hid (And.intro (show Has w13 _ (.mk 3 0 op [A, B, A]) from has_new hN13) ((Below.refl _ _).alloc (Nat.le_refl _) _ |>.trans (hb13.mono (by simp))))
  clear h13 hN13 hb13 y0 y1 y2 y3 z0 z1 z2 z3
  go_wp2_with fail
  refine (aeval_at (H12.out.1.step H13.out.2) (H12.out.2.1.below H13.out.2) _ _ H13.out.1 (by rw [Tm.size_mk, Tm.sizes_cons, Tm.sizes_cons, Tm.sizes_cons, Tm.sizes_nil]; have := HF1.out; have := HF2.out; omega)).mono ?_
  rw [HE.out.2.2.2]
  rintro e w14 ⟨rfl, hb14⟩
  have hb1214 := H13.out.2.trans (hb14.mono H13.out.2.size)
  have H14 := Lib.hid (And.intro (H12.out.2.1.below hb1214) (H12.out.2.2.trans (hb1214.mono H12.out.2.2.size)))
  clear hb14 hb1214 H13 H12 HE
  obtain ⟨na, hna⟩ : ∃ x, RA.num = x := ⟨_, rfl⟩
  obtain ⟨ea, hea⟩ : ∃ x, RA.err = x := ⟨_, rfl⟩
  obtain ⟨la, hla⟩ : ∃ x, RA.lv = x := ⟨_, rfl⟩
  obtain ⟨nb, hnb⟩ : ∃ x, RB.num = x := ⟨_, rfl⟩
  obtain ⟨eb, heb⟩ : ∃ x, RB.err = x := ⟨_, rfl⟩
  obtain ⟨lbb, hlb⟩ : ∃ x, RB.lv = x := ⟨_, rfl⟩
  obtain ⟨ns, hns⟩ : ∃ x, RS.num = x := ⟨_, rfl⟩
  obtain ⟨es, hes⟩ : ∃ x, RS.err = x := ⟨_, rfl⟩
  obtain ⟨ls, hls⟩ : ∃ x, RS.lv = x := ⟨_, rfl⟩
  have hG := HG.out
  rw [hea, heb, hes, hla, hls] at hG
  rw [hna, hea, hla, hnb, heb, hlb, hns, hes, hls]
  rw [show (ER.bad 9 0).num = 0 from rfl, show (ER.bad 9 0).err = 9 from rfl, show (ER.bad 9 0).lv = 0 from rfl]
  have HG2 := Lib.hid hG
  clear hna hea hla hnb heb hlb hns hes hls hG HG
  by_cases h1 : ea = 3
  · subst h1
    go_wp2_with fail
    go_ret
    exact ⟨rfl, H2.out.1.trans (H14.out.2.mono H2.out.1.size)⟩
  have d1 : (ea == 3) = false := by simpa using h1
  by_cases h2 : eb = 3
  · subst h2
    clear h1
    go_wp2_with fail
    go_ret
    exact ⟨rfl, H2.out.1.trans (H14.out.2.mono H2.out.1.size)⟩
  have d2 : (eb == 3) = false := by simpa using h2
  by_cases h3 : es = 3
  · subst h3
    clear h1 h2
    go_wp2_with fail
    go_ret
    exact ⟨rfl, H2.out.1.trans (H14.out.2.mono H2.out.1.size)⟩
  have d3 : (es == 3) = false := by simpa using h3
  obtain ⟨g1, g2⟩ := HG2.out.1 h1 h2 h3
  by_cases h4 : ea = 0
  · obtain ⟨g3, g4⟩ := g2 h4
    have hd : decide (la ≤ ls) = true := decide_eq_true g4
    have hleq : Calls Try.prog 33 #[.pointer (some ⟨lb, 0, none⟩), .int .i64 (la : Int), .int .i64 (ls : Int)] w14 fun e w' => e = .returned (.bool true) ∧ Hid (Below w14.heap.size w14 w') := (ch_leq H14.out.1 (x := la) (y := ls) HG2.out.2.1 HG2.out.2.2).mono fun e w' h => by rw [hd] at h; exact h.below
    subst h4
    clear g1 g2 g4 hd h1 h2 h3 HG2
    by_cases h5 : eb = 0
    · subst h5
      clear g3
      go_wp2_with (go_at_call 33; refine hleq.mono ?_; clear hleq; rintro e w15 ⟨rfl, hb15⟩)
      go_ret
      exact ⟨rfl, H2.out.1.trans ((H14.out.2.trans (hb15.out.mono H14.out.2.size)).mono H2.out.1.size)⟩
    · obtain rfl : es = eb := g3.resolve_left h5
      have d5 : (es == 0) = false := by simpa using h5
      clear g3 h5
      go_wp2_with (go_at_call 33; refine hleq.mono ?_; clear hleq; rintro e w15 ⟨rfl, hb15⟩)
      go_ret
      exact ⟨rfl, H2.out.1.trans ((H14.out.2.trans (hb15.out.mono H14.out.2.size)).mono H2.out.1.size)⟩
  · obtain ⟨g3, g4⟩ := g1 h4
    have d4 : (ea != 0) = true := by simpa using h4
    subst g3
    subst g4
    clear g1 g2 h1 h2 h3 h4 HG2
    go_wp2_with fail
    go_ret
    exact ⟨rfl, H2.out.1.trans (H14.out.2.mono H2.out.1.size)⟩
end Go.Proofs.Ytfjnajngelemkaa
