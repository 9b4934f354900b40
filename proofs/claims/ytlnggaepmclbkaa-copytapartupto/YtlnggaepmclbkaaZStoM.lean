/-
  store.Full: the function that it makes, where it goes on.
-/
import Derived.Test.YtlnggaepmclbkaaZStoKn2
namespace Go.Proofs.Ytlnggaepmclbkaa
open Go.RowKit Go.Shelf
set_option linter.unusedVariables false
set_option linter.unusedSimpArgs false

theorem flat4_get : ∀ (xs : List C4) (i : Nat) (x : C4), xs[i]? = some x → ∀ j, j < 4 → (flat4 xs)[i * 4 + j]? = x.cells[j]?
  | y :: r, 0, x, h, j, hj => by
    simp at h; subst h
    rw [flat4, Nat.zero_mul, Nat.zero_add, List.getElem?_append_left (by simp [C4.cells]; exact hj)]
  | y :: r, i + 1, x, h, j, hj => by
    have := flat4_get r i x (by simpa using h) j hj
    rw [flat4, List.getElem?_append_right (by simp [C4.cells]; omega), ← this]
    congr 1
    simp [C4.cells]; omega
/-- What was filled so far. -/
structure Sofar (m : Nat) (W : World) (v : Value) (xs : List C4) (us : List Tm) : Prop where
  own : OwnC W m v xs
  len : xs.length = us.length
  at_ : ∀ (i : Nat) (q : C4) (u : Tm), xs[i]? = some q → us[i]? = some u → TmIn (fun c => m ≤ c ∧ c < W.heap.size ∧ v.ownBlock ≠ some c) W q.val u
theorem Sofar.nil (m : Nat) (W : World) : Sofar m W (.slice none 0 0) [] [] := ⟨World.ownsRow_nil _ _ _ _, rfl, fun i q u h => by simp at h⟩
theorem Sofar.later {m : Nat} {W W' : World} {v : Value} {xs : List C4} {us : List Tm} (h : Sofar m W v xs us) {B : Nat} (k : ButN B W W') (hB : B < m) : Sofar m W' v xs us := by
  obtain ⟨⟨h1, h2⟩, h3, h4⟩ := h
  refine ⟨⟨h1, ?_⟩, h3, fun i q u hq hu => (h4 i q u hq hu).carry (fun c hc => k.same c hc.2.1 (by omega)) fun c hc => ⟨hc.1, Nat.lt_of_lt_of_le hc.2.1 k.size, hc.2.2⟩⟩
  rcases h2 with h2 | ⟨g, cap, cur, rfl, hg, hh, r⟩
  · exact .inl h2
  · exact .inr ⟨g, cap, cur, rfl, hg, (k.same g (Array.getElem?_eq_some_iff.1 hh).1 (by omega)).trans hh, r⟩
/-- One more. -/
theorem Sofar.push {m : Nat} {W W' : World} {v v' : Value} {xs : List C4} {us : List Tm} (h : Sofar m W v xs us) (q : C4) (u : Tm) (ho : OwnC W' m v' (xs ++ [q])) (hg : W.grownBy W' v.ownBlock) (hat : v'.ownBlock = v.ownBlock ∨ v'.ownBlock = some W.heap.size)
    (hu : TmIn (fun c => m ≤ c ∧ c < W.heap.size ∧ v.ownBlock ≠ some c) W q.val u) : Sofar m W' v' (xs ++ [q]) (us ++ [u]) := by
  have key : ∀ {a : Value} {t : Tm}, TmIn (fun c => m ≤ c ∧ c < W.heap.size ∧ v.ownBlock ≠ some c) W a t → TmIn (fun c => m ≤ c ∧ c < W'.heap.size ∧ v'.ownBlock ≠ some c) W' a t := fun ht => by
    refine ht.carry (fun c hc => hg.block c hc.2.1 (fun e => hc.2.2 e.symm)) fun c hc => ⟨hc.1, Nat.lt_of_lt_of_le hc.2.1 hg.size, fun e => ?_⟩
    rcases hat with hat | hat
    · exact hc.2.2 (hat ▸ e)
    · rw [hat] at e; injection e with e; have := hc.2.1; omega
  refine ⟨ho, by rw [List.length_append, List.length_append, h.len]; rfl, fun i q' u' h1 h2 => ?_⟩
  by_cases hi : i < xs.length
  · rw [List.getElem?_append_left hi] at h1
    rw [List.getElem?_append_left (by rw [← h.len]; exact hi)] at h2
    exact key (h.at_ i q' u' h1 h2)
  · rw [List.getElem?_append_right (by omega)] at h1
    rw [List.getElem?_append_right (by rw [← h.len]; omega), ← h.len] at h2
    obtain ⟨j, hj⟩ : ∃ j, j = i - xs.length := ⟨_, rfl⟩
    rw [← hj] at h1 h2
    cases j with
    | zero => simp at h1 h2; subst h1 h2; exact key hu
    | succ j => simp at h1
theorem Sofar.ts {m : Nat} {W : World} {v : Value} {xs : List C4} {us : List Tm} (h : Sofar m W v xs us) : TsIn (fun c => m ≤ c ∧ c < W.heap.size) W v us := by
  obtain ⟨h1, h3, h4⟩ := h
  obtain ⟨h1, h2⟩ := h1
  rcases h2 with ⟨rfl, h0⟩ | ⟨g, cap, cur, rfl, hg, hh, hn, hcap, hsz, htake⟩
  · obtain rfl : us = [] := List.eq_nil_of_length_eq_zero (by rw [← h3, h0])
    exact noTs _ _
  · refine ⟨some ⟨g, 0, none⟩, cap, by rw [h3], by rw [← h3]; exact hn, hcap, (fun h => by cases h), fun i hi => ?_⟩
    have hi' : i < xs.length := by omega
    have hT := h4 i xs[i] us[i] (List.getElem?_eq_getElem hi') (List.getElem?_eq_getElem hi)
    have cell : ∀ j, j < 4 → W.cell? ⟨g, 0 + i * 4 + j, none⟩ = xs[i].cells[j]? := fun j hj => by
      have h5 := flat4_get xs i xs[i] (List.getElem?_eq_getElem hi') j hj
      rw [← htake, List.getElem?_take_of_lt (by omega)] at h5
      rw [← h5]
      simp [World.cell?, hh]
    exact ⟨g, 0, _, _, _, _, _, _, rfl, ⟨hg, (Array.getElem?_eq_some_iff.1 hh).1⟩, cell 0 (by omega), cell 1 (by omega), cell 2 (by omega), cell 3 (by omega), hT.carry (fun _ _ => rfl) fun c hc => ⟨hc.1, hc.2.1⟩⟩

set_option maxRecDepth 100000 in
set_option maxHeartbeats 8000000 in
theorem fill1_at (p : Nat → Prop) (n₀ n₁ b : Nat) (V L : Value) (σ : St) (Bn Bs Bf : Nat) : ∀ (f left : Nat) (T : Tm) (v : Value) (w : World), f ≤ 60 → left ≤ 1000 → FillSt p n₀ n₁ w b V L σ Bn Bs Bf → IsTm n₁ w v T →
    w.heap[Bn]? = some (.cells #[.int .i64 (1000 - (left : Int))] 3 (0, 0)) →
    Calls Try.prog 38 #[v, .int .i64 (61 - (f : Int)), .pointer (some ⟨Bn, 0, none⟩), .pointer (some ⟨Bs, 0, none⟩), .pointer (some ⟨Bf, 0, none⟩)] w (FPost Bn (σ.fill f left T) w) := by
  intro f
  induction f with
  | zero => exact fun left T v w hf hl H hv hn => fill1_bad p n₀ n₁ b V L σ Bn Bs Bf 0 left T v w hf hl (.inl rfl) H hv hn
  | succ f ih =>
  intro left T v w hf hl H hv hn
  by_cases hl0 : left = 0
  · exact fill1_bad p n₀ n₁ b V L σ Bn Bs Bf (f + 1) left T v w hf hl (.inr hl0) H hv hn
  obtain ⟨k, n, s, a, len, cap, ks, rfl, e, -⟩ := IsTm.form hv
  obtain ⟨sz, hsz⟩ : ∃ sz : Int, sz = 1000 - (left : Int) := ⟨_, rfl⟩
  obtain ⟨d, hd⟩ : ∃ d : Int, d = 61 - ((f + 1 : Nat) : Int) := ⟨_, rfl⟩
  have hs0 : 0 ≤ sz := by omega
  have hs2 : ¬ (sz + 1 > 1000) := by omega
  have hd1 : ¬ (d > 60) := by omega
  have hd2 : 0 ≤ d := by omega
  have hdf : d + 1 = 61 - (f : Int) := by omega
  rw [← hsz] at hn
  rw [← hd]
  have hBn := H.lt
  have hnw : n₁ ≤ w.heap.size := Nat.le_trans H.le (Nat.le_of_lt H.lt)
  have hBut : ButN Bn w (((w.alloc (.cells #[.int .i64 k, .int .i64 n, .string s, .slice a len cap] 24)).alloc (.cells #[.int .i64 0, .int .i64 0, .string (ByteArray.mk #[]), .slice none 0 0] 24)).setCell ⟨Bn, 0, none⟩ (.int .i64 (sz + 1))) := (((ButN.refl Bn w).alloc _).alloc _).set _
  have hx5 : (((w.alloc (.cells #[.int .i64 k, .int .i64 n, .string s, .slice a len cap] 24)).alloc (.cells #[.int .i64 0, .int .i64 0, .string (ByteArray.mk #[]), .slice none 0 0] 24)).setCell ⟨Bn, 0, none⟩ (.int .i64 (sz + 1))).heap[w.heap.size]? = some (.cells #[.int .i64 k, .int .i64 n, .string s, .slice a len cap] 24 (0, 0)) := by
    rw [Below.heap_setCell _ _ _ _ (by simp; omega), Below.heap_alloc _ _ _ (by simp)]
    exact World.alloc_heap_new _ _
  have hx7 : (((w.alloc (.cells #[.int .i64 k, .int .i64 n, .string s, .slice a len cap] 24)).alloc (.cells #[.int .i64 0, .int .i64 0, .string (ByteArray.mk #[]), .slice none 0 0] 24)).setCell ⟨Bn, 0, none⟩ (.int .i64 (sz + 1))).heap[w.heap.size + 1]? = some (.cells #[.int .i64 0, .int .i64 0, .string (ByteArray.mk #[]), .slice none 0 0] 24 (0, 0)) := by
    rw [Below.heap_setCell _ _ _ _ (by simp; omega)]
    have := World.alloc_heap_new (w.alloc (.cells #[.int .i64 k, .int .i64 n, .string s, .slice a len cap] 24)) (.cells #[.int .i64 0, .int .i64 0, .string (ByteArray.mk #[]), .slice none 0 0] 24)
    simpa using this
  have h1n : ((w.alloc (.cells #[.int .i64 k, .int .i64 n, .string s, .slice a len cap] 24)).alloc (.cells #[.int .i64 0, .int .i64 0, .string (ByteArray.mk #[]), .slice none 0 0] 24)).heap[Bn]? = some (.cells #[.int .i64 sz] 3 (0, 0)) := (Below.heap_alloc (w.alloc (.cells #[.int .i64 k, .int .i64 n, .string s, .slice a len cap] 24)) (.cells #[.int .i64 0, .int .i64 0, .string (ByteArray.mk #[]), .slice none 0 0] 24) Bn (by simp; omega)).trans ((Below.heap_alloc w (.cells #[.int .i64 k, .int .i64 n, .string s, .slice a len cap] 24) Bn hBn).trans hn)
  have cn : ((w.alloc (.cells #[.int .i64 k, .int .i64 n, .string s, .slice a len cap] 24)).alloc (.cells #[.int .i64 0, .int .i64 0, .string (ByteArray.mk #[]), .slice none 0 0] 24)).cell? ⟨Bn, 0, none⟩ = some (.int .i64 sz) := by simp [World.cell?, h1n]
  have fn : ((w.alloc (.cells #[.int .i64 k, .int .i64 n, .string s, .slice a len cap] 24)).alloc (.cells #[.int .i64 0, .int .i64 0, .string (ByteArray.mk #[]), .slice none 0 0] 24)).frozen? ⟨Bn, 0, none⟩ = false := by simp [World.frozen?, h1n]
  have hbn2 : (((w.alloc (.cells #[.int .i64 k, .int .i64 n, .string s, .slice a len cap] 24)).alloc (.cells #[.int .i64 0, .int .i64 0, .string (ByteArray.mk #[]), .slice none 0 0] 24)).setCell ⟨Bn, 0, none⟩ (.int .i64 (sz + 1))).heap[Bn]? = some (.cells #[.int .i64 (sz + 1)] 3 (0, 0)) := set_block (o := 0) h1n _
  have hsz2 : (((w.alloc (.cells #[.int .i64 k, .int .i64 n, .string s, .slice a len cap] 24)).alloc (.cells #[.int .i64 0, .int .i64 0, .string (ByteArray.mk #[]), .slice none 0 0] 24)).setCell ⟨Bn, 0, none⟩ (.int .i64 (sz + 1))).heap.size = w.heap.size + 2 := by simp
  have H2 := H.later hBut
  have hv2 : IsTm n₁ (((w.alloc (.cells #[.int .i64 k, .int .i64 n, .string s, .slice a len cap] 24)).alloc (.cells #[.int .i64 0, .int .i64 0, .string (ByteArray.mk #[]), .slice none 0 0] 24)).setCell ⟨Bn, 0, none⟩ (.int .i64 (sz + 1))) (.agg #[.int .i64 k, .int .i64 n, .string s, .slice a len cap]) T := IsTm.later (hBut.below hnw H.le) (Nat.le_refl _) hv
  have HF0 : Hid (Bs ≠ w.heap.size ∧ Bf ≠ w.heap.size) := ⟨Nat.ne_of_lt (Array.getElem?_eq_some_iff.1 H.s).1, Nat.ne_of_lt (Array.getElem?_eq_some_iff.1 H.fn).1⟩
  have HQ := Lib.hid (And.intro hBut (And.intro hx5 (And.intro hx7 (And.intro hbn2 (And.intro hsz2 (And.intro H2 hv2))))))
  have HE := Lib.hid (And.intro hnw (And.intro hBn (And.intro hsz (And.intro hdf (And.intro hl (And.intro hl0 (And.intro hf H.le)))))))
  have hz := zeroTerm
  clear hBn hnw hBut hx5 hx7 h1n hbn2 hsz2 H2 hv2 H hv e hn hsz hd hdf hl hl0 hf
  go_enter Try.func38, Try.ntmps38
  go_upto_region 2 with fail
  generalize (((w.alloc (.cells #[.int .i64 k, .int .i64 n, .string s, .slice a len cap] 24)).alloc (.cells #[.int .i64 0, .int .i64 0, .string (ByteArray.mk #[]), .slice none 0 0] 24)).setCell ⟨Bn, 0, none⟩ (.int .i64 (sz + 1))) = w2 at HQ ⊢
  clear cn fn
  obtain ⟨x0, x1, x2, x3⟩ := tbox_cells HQ.out.2.1
  have cn2 : w2.cell? ⟨Bn, 0, none⟩ = some (.int .i64 (sz + 1)) := by simp [World.cell?, HQ.out.2.2.2.1]
  have cs2 : w2.cell? ⟨Bs, 0, none⟩ = some (.pointer (some ⟨b, 0, none⟩)) := by simp [World.cell?, HQ.out.2.2.2.2.2.1.s]
  have hend := end_at HQ.out.2.2.2.2.2.1.st _ T (fun c => c < n₁) (fun c hc => HQ.out.2.2.2.2.2.1.sub c hc) (fun c hc => Nat.lt_of_lt_of_le hc (by rw [HQ.out.2.2.2.2.1]; have := HE.out.1; omega)) HQ.out.2.2.2.2.2.2
  have hend' : Calls Try.prog 39 #[.pointer (some ⟨b, 0, none⟩), .agg #[.int .i64 k, .int .i64 n, .string s, .slice a len cap]] w2 fun e w5 => ∃ k5 n5 s5 a5 l5 c5, e = .returned (.agg #[.int .i64 k5, .int .i64 n5, .string s5, .slice a5 l5 c5]) ∧
      w5.cell? ⟨w.heap.size, 0, none⟩ = some (.int .i64 k) ∧ w5.cell? ⟨w.heap.size, 1, none⟩ = some (.int .i64 n) ∧ w5.cell? ⟨w.heap.size, 2, none⟩ = some (.string s) ∧ w5.cell? ⟨w.heap.size, 3, none⟩ = some (.slice a len cap) ∧ (∀ j, w5.frozen? ⟨w.heap.size, j, none⟩ = false) ∧
      Hid (TmIn (fun c => c < n₁) w5 (.agg #[.int .i64 k5, .int .i64 n5, .string s5, .slice a5 l5 c5]) (σ.fin T) ∧ Below w2.heap.size w2 w5) := by
    refine hend.mono ?_
    rintro e w5 ⟨k5, n5, s5, a5, l5, c5, rfl, hT5, hb5⟩
    have g5 := tbox_below HQ.out.2.1 hb5
    obtain ⟨p0, p1, p2, p3⟩ := tbox_cells g5
    exact ⟨k5, n5, s5, a5, l5, c5, rfl, p0, p1, p2, p3, (fun j => by simp [World.frozen?, g5]), hT5, hb5⟩
  clear hend
  go_upto_region 7 with (go_at_call 39; (with_reducible refine hend'.mono ?_); rintro e w5 ⟨k5, n5, s5, a5, l5, c5, rfl, p0, p1, p2, p3, pf, HT⟩)
  have hb25 := HT.out.2
  have hBut5 : ButN Bn w w5 := HQ.out.1.trans (.of hb25)
  have g5 := tbox_below HQ.out.2.1 hb25
  obtain ⟨w6, hw6, hb6, hBut6, ho6, hs6⟩ := box_but (B := w.heap.size) hBut5 (Nat.le_refl _) g5 (.int .i64 k5) (.int .i64 n5) (.string s5) (.slice a5 l5 c5)
  rw [← hw6]
  have hne7 : w.heap.size + 1 ≠ w.heap.size := by omega
  have hBne : Bn ≠ w.heap.size := by have := HE.out.2.1; omega
  have hx7 : w6.heap[w.heap.size + 1]? = some (.cells #[.int .i64 0, .int .i64 0, .string (ByteArray.mk #[]), .slice none 0 0] 24 (0, 0)) := (ho6 _ hne7).trans (tbox_below HQ.out.2.2.1 hb25)
  have hn6 : w6.heap[Bn]? = some (.cells #[.int .i64 (sz + 1)] 3 (0, 0)) := (ho6 _ hBne).trans (tbox_below HQ.out.2.2.2.1 hb25)
  have hb56 : Below n₁ w5 w6 := by
    have g := ((((Below.refl 0 w5).setCell (p := ⟨w.heap.size, 0, none⟩) (Nat.zero_le _) (.int .i64 k5)).setCell (p := ⟨w.heap.size, 1, none⟩) (Nat.zero_le _) (.int .i64 n5)).setCell (p := ⟨w.heap.size, 2, none⟩) (Nat.zero_le _) (.string s5)).setCell (p := ⟨w.heap.size, 3, none⟩) (Nat.zero_le _) (.slice a5 l5 c5)
    rw [← hw6] at g
    exact ⟨g.os, g.tape, g.output, by omega, fun c hc => ho6 c (by have := HE.out.1; omega)⟩
  have hX6 : IsTm n₁ w6 (.agg #[.int .i64 k5, .int .i64 n5, .string s5, .slice a5 l5 c5]) (σ.fin T) := IsTm.later hb56 (Nat.le_refl _) HT.out.1
  have H6 : FillSt p n₀ n₁ w6 b V L σ Bn Bs Bf := by
    have h5 := HQ.out.2.2.2.2.2.1.later (.of hb25)
    have hs := h5.s
    have hf := h5.fn
    have e1 : Bs ≠ w.heap.size := HF0.out.1
    have e2 : Bf ≠ w.heap.size := HF0.out.2
    exact ⟨h5.st.belowN h5.sub h5.topb h5.topV h5.topL hb56, h5.sub, h5.topb, h5.topV, h5.topL, h5.le, by rw [hs6]; exact h5.lt, (ho6 _ e1).trans hs, (ho6 _ e2).trans hf, h5.ns, h5.nf⟩
  obtain ⟨k5_, n5_, s5_, a5_, l5_, c5_, ks5, e5, eX, hl5, hk5, hn5, hs5, hc5, hm5, ha5⟩ := IsTm.form hX6
  simp only [Value.agg.injEq, Array.mk.injEq, List.cons.injEq, Value.int.injEq, Value.string.injEq, Value.slice.injEq, true_and, and_true] at e5
  obtain ⟨rfl, rfl, rfl, rfl, rfl, rfl⟩ := e5
  have hX6' : IsTm n₁ w6 (.agg #[.int .i64 k5, .int .i64 n5, .string s5, .slice a5 l5 c5]) (.mk k5 n5 s5 ks5) := by rw [← eX]; exact hX6
  have hr : σ.fill (f + 1) left T = match fillL (σ.fill f) (left - 1) ks5 with | .bad e => .bad e | .ok us l => .ok (.mk k5 n5 s5 us) l := by
    rw [St.fill, if_neg HE.out.2.2.2.2.2.1, eX]; rfl
  have hl5m : l5 ≤ 9223372036854775807 := by unfold maxLen at hm5; omega
  have hn6' : w6.heap[Bn]? = some (.cells #[.int .i64 (1000 - ((left - 1 : Nat) : Int))] 3 (0, 0)) := by
    have h1 := HE.out.2.2.1
    have h2 := HE.out.2.2.2.2.2.1
    rw [hn6, show sz + 1 = 1000 - ((left - 1 : Nat) : Int) by omega]
  replace hn6 := hn6'
  clear hn6'
  have HR := Lib.hid (And.intro hr (And.intro hX6' (And.intro H6 (And.intro hBut6 (And.intro hb6 (And.intro hx7 (And.intro hn6 (And.intro hl5 (And.intro hk5 (And.intro hn5 (And.intro hs5 (And.intro hs6 hb25))))))))))))
  obtain ⟨y0, y1, y2, y3⟩ := tbox_cells hb6
  clear hr hX6' hX6 H6 hBut6 hb6 hx7 hn6 hl5 hk5 hn5 hs5 hs6 hb25 hb56 ho6 hne7 hBne hw6 g5 hBut5 eX hc5 hm5 ha5 HT p0 p1 p2 p3 pf x0 x1 x2 x3 cn2 cs2 hend'
  go_wp2_with fail
  go_loopw [9, 30] (fun kv i wr => ∃ (c : Nat) (us : List Tm) (l : Nat) (xs : List C4), i = .int .i64 c ∧ c ≤ l5 ∧ Hid (fillL (σ.fill f) (left - 1) (ks5.take c) = .ok us l) ∧ Sofar w6.heap.size wr kv xs us ∧ wr.heap[Bn]? = some (.cells #[.int .i64 (1000 - (l : Int))] 3 (0, 0)) ∧ ButN Bn w6 wr)
    (fun kv i _ => l5 - (intOf i).toNat)
  case atStart => exact ⟨0, [], left - 1, [], rfl, Nat.zero_le _, rfl, Sofar.nil _ _, HR.out.2.2.2.2.2.2.1, ButN.refl _ _⟩
  case round =>
    obtain ⟨c, us, l, xs, rfl, hcl, HL, hso, hnb, hbr⟩ := hrel
    have hl5 := HR.out.2.2.2.2.2.2.2.1
    by_cases hlt : c < l5
    · have hlt' : c < ks5.length := by omega
      obtain ⟨kb, ko, k1, n1, s1, a1, l1, c1, T1, rfl, hkb, e0, e1, e2, e3, hT1, ht1⟩ := IsTm.kid HR.out.2.1 c hlt'
      have hnw6 : n₁ ≤ w6.heap.size := by have := HE.out.1; have := HR.out.2.2.2.2.2.2.2.2.2.2.2.1; have := HR.out.2.2.2.1.size; omega
      have hB1 : Below n₁ w6 wr := hbr.below hnw6 HE.out.2.2.2.2.2.2.2
      have q0 := (hB1.cell (p := ⟨kb, ko + c * 4, none⟩) hkb).trans e0
      have q1 := (hB1.cell (p := ⟨kb, ko + c * 4 + 1, none⟩) hkb).trans e1
      have q2 := (hB1.cell (p := ⟨kb, ko + c * 4 + 2, none⟩) hkb).trans e2
      have q3 := (hB1.cell (p := ⟨kb, ko + c * 4 + 3, none⟩) hkb).trans e3
      have Hr := HR.out.2.2.1.later hbr
      have hb3 : Below wr.heap.size wr (wr.alloc (.cells #[.int .i64 k1, .int .i64 n1, .string s1, .slice a1 l1 c1] 24)) := (Below.refl _ wr).alloc (Nat.le_refl _) _
      have H3 := Hr.later (ButN.of hb3)
      have cf : (wr.alloc (.cells #[.int .i64 k1, .int .i64 n1, .string s1, .slice a1 l1 c1] 24)).cell? ⟨Bf, 0, none⟩ = some (.func (.func 38) #[] #[.pointer (some ⟨Bn, 0, none⟩), .pointer (some ⟨Bs, 0, none⟩), .pointer (some ⟨Bf, 0, none⟩)]) := by simp [World.cell?, H3.fn]
      have hn3 : (wr.alloc (.cells #[.int .i64 k1, .int .i64 n1, .string s1, .slice a1 l1 c1] 24)).heap[Bn]? = some (.cells #[.int .i64 (1000 - (l : Int))] 3 (0, 0)) := (hb3.block Bn Hr.lt).trans hnb
      have hgood := fillL_good (fun l t u l' => fill_size σ f l t u l') _ _ _ _ HL.out
      have hl1000 : l ≤ 1000 := by have := HE.out.2.2.2.2.1; omega
      have hcall : Calls Try.prog 38 #[.agg #[.int .i64 k1, .int .i64 n1, .string s1, .slice a1 l1 c1], .int .i64 (d + 1), .pointer (some ⟨Bn, 0, none⟩), .pointer (some ⟨Bs, 0, none⟩), .pointer (some ⟨Bf, 0, none⟩)] (wr.alloc (.cells #[.int .i64 k1, .int .i64 n1, .string s1, .slice a1 l1 c1] 24)) (FPost Bn (σ.fill f l T1) (wr.alloc (.cells #[.int .i64 k1, .int .i64 n1, .string s1, .slice a1 l1 c1] 24))) := by
        rw [HE.out.2.2.2.1]
        exact ih l T1 _ (wr.alloc (.cells #[.int .i64 k1, .int .i64 n1, .string s1, .slice a1 l1 c1] 24)) (by have := HE.out.2.2.2.2.2.2.1; omega) hl1000 H3 (IsTm.later (hB1.trans (hb3.mono (Nat.le_trans hnw6 hbr.size))) (Nat.le_refl _) ht1) hn3
      have hkt : ks5.take (c + 1) = ks5.take c ++ [T1] := by rw [List.take_add_one, hT1]; rfl
      have hstep : fillL (σ.fill f) (left - 1) (ks5.take (c + 1)) = (σ.fill f l T1).next us := by rw [hkt, fillL_snoc, HL.out]
      have hul : us.length ≤ 1000 := by have h1 := Tm.length_le_sizes us; have := HE.out.2.2.2.2.1; omega
      have hxl : xs.length + 1 ≤ 1000000000000 := by have := hso.len; omega
      have hci : (c : Int) < (l5 : Int) := by omega
      have hsz6 := HR.out.2.2.2.2.2.2.2.2.2.2.2.1
      have hsz5 : w.heap.size + 2 ≤ w6.heap.size := by have := HR.out.2.2.2.2.2.2.2.2.2.2.2.2.size; have := HQ.out.2.2.2.2.1; omega
      obtain ⟨va, vc, hkv⟩ := hso.own.form
      subst hkv
      have HV := Lib.hid (And.intro hso (And.intro hbr (And.intro hb3 (And.intro hstep (And.intro hnb (And.intro Hr.lt hsz5))))))
      clear hso hbr hB1 e0 e1 e2 e3 Hr hb3 H3 hn3 hgood hl1000 hkt hstep hul hnw6 hsz6 hsz5 ht1 hT1 hkb HL hl5 hnb ih
      cases hf : σ.fill f l T1 with
      | bad er =>
        rw [hf] at hcall
        have her : er ≠ 0 := by rcases fill_bads σ f l T1 er hf with h | h <;> omega
        have her' : (er != 0) = true := by simpa using her
        have HRES : Hid (σ.fill (f + 1) left T = .bad er) := by
          show _ = _
          rw [HR.out.1]
          have h1 : fillL (σ.fill f) (left - 1) ks5 = .bad er := by
            rw [← List.take_append_drop (c + 1) ks5]
            exact fillL_bad _ _ _ _ _ (by rw [HV.out.2.2.2.1, hf]; rfl)
          rw [h1]
        have hcall' : Calls Try.prog 38 #[.agg #[.int .i64 k1, .int .i64 n1, .string s1, .slice a1 l1 c1], .int .i64 (d + 1), .pointer (some ⟨Bn, 0, none⟩), .pointer (some ⟨Bs, 0, none⟩), .pointer (some ⟨Bf, 0, none⟩)] (wr.alloc (.cells #[.int .i64 k1, .int .i64 n1, .string s1, .slice a1 l1 c1] 24)) fun e w4 => e = .returned (.tuple #[.agg #[.int .i64 0, .int .i64 0, .string (ByteArray.mk #[]), .slice none 0 0], .int .i64 er]) ∧ (∀ o, (w4.alloc o).cell? ⟨w.heap.size + 1, 0, none⟩ = some (.int .i64 0)) ∧ (∀ o, (w4.alloc o).cell? ⟨w.heap.size + 1, 1, none⟩ = some (.int .i64 0)) ∧ (∀ o, (w4.alloc o).cell? ⟨w.heap.size + 1, 2, none⟩ = some (.string (ByteArray.mk #[]))) ∧ (∀ o, (w4.alloc o).cell? ⟨w.heap.size + 1, 3, none⟩ = some (.slice none 0 0)) ∧ (∀ o j, (w4.alloc o).frozen? ⟨w.heap.size + 1, j, none⟩ = false) ∧
            Hid (ButN Bn w w4 ∧ w4.heap[w.heap.size + 1]? = some (.cells #[.int .i64 0, .int .i64 0, .string (ByteArray.mk #[]), .slice none 0 0] 24 (0, 0))) := by
          refine hcall.mono ?_
          rintro e w4 ⟨hb4, he⟩
          have hbw : ButN Bn w6 w4 := (HV.out.2.1.trans (.of HV.out.2.2.1)).trans hb4
          have h7 : w4.heap[w.heap.size + 1]? = some (.cells #[.int .i64 0, .int .i64 0, .string (ByteArray.mk #[]), .slice none 0 0] 24 (0, 0)) := (hbw.same _ (by have := HV.out.2.2.2.2.2.2; omega) (by have := HE.out.2.1; omega)).trans HR.out.2.2.2.2.2.1
          obtain ⟨r0, r1, r2, r3⟩ := tbox_cells h7
          exact ⟨he, fun o => cell_al r0 o, fun o => cell_al r1 o, fun o => cell_al r2 o, fun o => cell_al r3 o, (fun o j => by simp [World.frozen?, (Below.heap_alloc w4 o _ (Array.getElem?_eq_some_iff.1 h7).1).trans h7]), HR.out.2.2.2.1.trans hbw, h7⟩
        clear hcall her hf
        go_wp2_with (go_at_call 38; (with_reducible refine hcall'.mono ?_); clear hcall'; rintro e w4 ⟨rfl, r0, r1, r2, r3, rf, HZ⟩)
        obtain ⟨W5, hW5, hb5, hB5, -, -⟩ := box_but (B := w.heap.size + 1) (HZ.out.1.alloc (.cells #[.int .i64 0, .int .i64 0, .string (ByteArray.mk #[]), .slice none 0 0] 24)) (Nat.le_succ _) ((Below.heap_alloc w4 (.cells #[.int .i64 0, .int .i64 0, .string (ByteArray.mk #[]), .slice none 0 0] 24) _ (Array.getElem?_eq_some_iff.1 HZ.out.2).1).trans HZ.out.2) (.int .i64 0) (.int .i64 0) (.string (ByteArray.mk #[])) (.slice none 0 0)
        rw [← hW5]
        obtain ⟨f0, f1, f2, f3⟩ := tbox_cells hb5
        refine bodyPost_ret (v := .tuple #[.agg #[.int .i64 0, .int .i64 0, .string (ByteArray.mk #[]), .slice none 0 0], .int .i64 er]) (by simp [results, Try.f38, go_sem, f0, f1, f2, f3]) rfl ?_
        rw [HRES.out]
        exact ⟨hB5, rfl⟩
      | ok u l2 =>
        rw [hf] at hcall
        have hcall' : Calls Try.prog 38 #[.agg #[.int .i64 k1, .int .i64 n1, .string s1, .slice a1 l1 c1], .int .i64 (d + 1), .pointer (some ⟨Bn, 0, none⟩), .pointer (some ⟨Bs, 0, none⟩), .pointer (some ⟨Bf, 0, none⟩)] (wr.alloc (.cells #[.int .i64 k1, .int .i64 n1, .string s1, .slice a1 l1 c1] 24)) fun e w4 => ∃ k4 n4 s4 a4 l4 c4, e = .returned (.tuple #[.agg #[.int .i64 k4, .int .i64 n4, .string s4, .slice a4 l4 c4], .int .i64 0]) ∧
            (w4.alloc (.cells #[.int .i64 k4, .int .i64 n4, .string s4, .slice a4 l4 c4] 24)).cell? ⟨w4.heap.size, 0, none⟩ = some (.int .i64 k4) ∧ (w4.alloc (.cells #[.int .i64 k4, .int .i64 n4, .string s4, .slice a4 l4 c4] 24)).cell? ⟨w4.heap.size, 1, none⟩ = some (.int .i64 n4) ∧ (w4.alloc (.cells #[.int .i64 k4, .int .i64 n4, .string s4, .slice a4 l4 c4] 24)).cell? ⟨w4.heap.size, 2, none⟩ = some (.string s4) ∧ (w4.alloc (.cells #[.int .i64 k4, .int .i64 n4, .string s4, .slice a4 l4 c4] 24)).cell? ⟨w4.heap.size, 3, none⟩ = some (.slice a4 l4 c4) ∧
            Hid (OwnC ((w4.alloc (.cells #[.int .i64 k4, .int .i64 n4, .string s4, .slice a4 l4 c4] 24)).alloc (.cells #[.int .i64 k4, .int .i64 n4, .string s4, .slice a4 l4 c4] 24)) w6.heap.size (.slice va xs.length vc) xs ∧ (∀ b, some (⟨w4.heap.size + 1, 0, none⟩ : Addr) = some b → ∀ j u, (flat4 [(⟨k4, n4, s4, a4, l4, c4⟩ : C4)])[j]? = some u → ((w4.alloc (.cells #[.int .i64 k4, .int .i64 n4, .string s4, .slice a4 l4 c4] 24)).alloc (.cells #[.int .i64 k4, .int .i64 n4, .string s4, .slice a4 l4 c4] 24)).cell? (b.add j) = some u) ∧ w6.heap.size ≤ ((w4.alloc (.cells #[.int .i64 k4, .int .i64 n4, .string s4, .slice a4 l4 c4] 24)).alloc (.cells #[.int .i64 k4, .int .i64 n4, .string s4, .slice a4 l4 c4] 24)).heap.size ∧
              Sofar w6.heap.size ((w4.alloc (.cells #[.int .i64 k4, .int .i64 n4, .string s4, .slice a4 l4 c4] 24)).alloc (.cells #[.int .i64 k4, .int .i64 n4, .string s4, .slice a4 l4 c4] 24)) (.slice va xs.length vc) xs us ∧ TmIn (fun c => w6.heap.size ≤ c ∧ c < ((w4.alloc (.cells #[.int .i64 k4, .int .i64 n4, .string s4, .slice a4 l4 c4] 24)).alloc (.cells #[.int .i64 k4, .int .i64 n4, .string s4, .slice a4 l4 c4] 24)).heap.size ∧ (Value.slice va xs.length vc).ownBlock ≠ some c) ((w4.alloc (.cells #[.int .i64 k4, .int .i64 n4, .string s4, .slice a4 l4 c4] 24)).alloc (.cells #[.int .i64 k4, .int .i64 n4, .string s4, .slice a4 l4 c4] 24)) (.agg #[.int .i64 k4, .int .i64 n4, .string s4, .slice a4 l4 c4]) u ∧ ButN Bn w6 ((w4.alloc (.cells #[.int .i64 k4, .int .i64 n4, .string s4, .slice a4 l4 c4] 24)).alloc (.cells #[.int .i64 k4, .int .i64 n4, .string s4, .slice a4 l4 c4] 24)) ∧ ((w4.alloc (.cells #[.int .i64 k4, .int .i64 n4, .string s4, .slice a4 l4 c4] 24)).alloc (.cells #[.int .i64 k4, .int .i64 n4, .string s4, .slice a4 l4 c4] 24)).heap[Bn]? = some (.cells #[.int .i64 (1000 - (l2 : Int))] 3 (0, 0))) := by
          refine hcall.mono ?_
          rintro e w4 ⟨hb4, k4, n4, s4, a4, l4, c4, rfl, hT4, hn4⟩
          have hbw : ButN Bn wr ((w4.alloc (.cells #[.int .i64 k4, .int .i64 n4, .string s4, .slice a4 l4 c4] 24)).alloc (.cells #[.int .i64 k4, .int .i64 n4, .string s4, .slice a4 l4 c4] 24)) := (((ButN.of HV.out.2.2.1).trans hb4).alloc _).alloc _
          have hbw6 := HV.out.2.1.trans hbw
          have g4 := World.alloc_heap_new w4 (.cells #[.int .i64 k4, .int .i64 n4, .string s4, .slice a4 l4 c4] 24)
          obtain ⟨t0, t1, t2, t3⟩ := tbox_cells g4
          have hlt4 : w4.heap.size < (w4.alloc (.cells #[.int .i64 k4, .int .i64 n4, .string s4, .slice a4 l4 c4] 24)).heap.size := by simp
          have hso := HV.out.1.later hbw (by have h1 := HV.out.2.2.2.2.2.2; have h2 := HE.out.2.1; omega)
          have g5 : ((w4.alloc (.cells #[.int .i64 k4, .int .i64 n4, .string s4, .slice a4 l4 c4] 24)).alloc (.cells #[.int .i64 k4, .int .i64 n4, .string s4, .slice a4 l4 c4] 24)).heap[w4.heap.size + 1]? = some (.cells #[.int .i64 k4, .int .i64 n4, .string s4, .slice a4 l4 c4] 24 (0, 0)) := by
            have := World.alloc_heap_new (w4.alloc (.cells #[.int .i64 k4, .int .i64 n4, .string s4, .slice a4 l4 c4] 24)) (.cells #[.int .i64 k4, .int .i64 n4, .string s4, .slice a4 l4 c4] 24)
            rw [World.size_alloc] at this
            exact this
          refine ⟨k4, n4, s4, a4, l4, c4, rfl, t0, t1, t2, t3, hso.own, ?_, hbw6.size, hso, ?_, hbw6, ?_⟩
          · intro b e j u hu
            cases e
            rw [addr4]
            have hj : (C4.cells ⟨k4, n4, s4, a4, l4, c4⟩)[j]? = some u := by simpa [flat4] using hu
            simp only [World.cell?, g5]
            simpa [C4.cells] using hj
          · refine hT4.carry (fun c hc => ?_) fun c hc => ?_
            · rw [Below.heap_alloc _ _ _ (by simp; omega), Below.heap_alloc _ _ _ hc.2]
            · have h1 := HV.out.2.1.size
              have h2 := HV.out.2.2.1.size
              refine ⟨by omega, by simp; omega, fun e => ?_⟩
              have := (HV.out.1.own.lt c e).2
              have h3 := hc.1
              simp at h3
              omega
          · rw [Below.heap_alloc _ _ _ (Nat.lt_trans (Array.getElem?_eq_some_iff.1 hn4).1 hlt4), Below.heap_alloc _ _ _ (Array.getElem?_eq_some_iff.1 hn4).1]
            exact hn4
        have HST := Lib.hid (show fillL (σ.fill f) (left - 1) (ks5.take (c + 1)) = .ok (us ++ [u]) l2 by rw [HV.out.2.2.2.1, hf]; rfl)
        clear hcall hf
        go_wp2_with (first
          | (at_builtin; refine wpList_pushes rfl _ _ rfl w6.heap.size (.slice va xs.length vc) xs rfl HZ.out.1 (some ⟨w4.heap.size + 1, 0, none⟩) 1 1 [⟨k4, n4, s4, a4, l4, c4⟩] rfl rfl (fun e => by cases e) HZ.out.2.1 hxl HZ.out.2.2.1 ?_; intro v' w10 hown10 hg10 hat10)
          | (go_at_call 38; (with_reducible refine hcall'.mono ?_); clear hcall'; rintro e w4 ⟨k4, n4, s4, a4, l4, c4, rfl, t0, t1, t2, t3, HZ⟩))
        go_roundw
        case rel =>
          have hrow : ∀ k, (Value.slice va xs.length vc).ownBlock = some k → w6.heap.size ≤ k := fun k e => (HZ.out.1.lt k e).1
          refine ⟨c + 1, us ++ [u], l2, xs ++ [⟨k4, n4, s4, a4, l4, c4⟩], by simp, hlt, HST.out, HZ.out.2.2.2.1.push _ u hown10 hg10 hat10 HZ.out.2.2.2.2.1, ?_, HZ.out.2.2.2.2.2.1.grown hg10 hrow⟩
          refine (hg10.block Bn (Array.getElem?_eq_some_iff.1 HZ.out.2.2.2.2.2.2).1 (fun e => ?_)).trans HZ.out.2.2.2.2.2.2
          have h1 := hrow Bn e.symm
          have h2 := HV.out.2.2.2.2.2.2
          have h3 := HE.out.2.1
          omega
        case measure => simp [intOf]; omega
    · have hce : c = l5 := by omega
      subst hce
      have hsz5 : w.heap.size + 2 ≤ w6.heap.size := by have := HR.out.2.2.2.2.2.2.2.2.2.2.2.2.size; have := HQ.out.2.2.2.2.1; have := HR.out.2.2.2.2.2.2.2.2.2.2.2.1; omega
      have hBn := HE.out.2.1
      have g5 : wr.heap[w.heap.size]? = some (.cells #[.int .i64 k5, .int .i64 n5, .string s5, .slice a5 c c5] 24 (0, 0)) := (hbr.same _ (by omega) (by omega)).trans HR.out.2.2.2.2.1
      have g7 : wr.heap[w.heap.size + 1]? = some (.cells #[.int .i64 0, .int .i64 0, .string (ByteArray.mk #[]), .slice none 0 0] 24 (0, 0)) := (hbr.same _ (by omega) (by omega)).trans HR.out.2.2.2.2.2.1
      obtain ⟨p0, p1, p2, p3⟩ := tbox_cells g5
      obtain ⟨r0, r1, r2, r3⟩ := tbox_cells g7
      have pf : ∀ j, wr.frozen? ⟨w.heap.size, j, none⟩ = false := fun j => by simp [World.frozen?, g5]
      have rf : ∀ j, wr.frozen? ⟨w.heap.size + 1, j, none⟩ = false := fun j => by simp [World.frozen?, g7]
      have hall : ks5.take c = ks5 := by rw [List.take_of_length_le (by omega)]
      rw [hall] at HL
      obtain ⟨va, vc, hkv⟩ := hso.own.form
      have hlen := hso.len
      subst hkv
      have hts := hso.ts
      have hbw : ButN Bn w wr := HR.out.2.2.2.1.trans hbr
      have hlt5 := hbr.size
      have HV := Lib.hid (And.intro hts (And.intro hbw (And.intro g5 (And.intro g7 (And.intro hnb (And.intro hsz5 (And.intro hlt5 (And.intro hlen hBn))))))))
      clear hts hbw g5 g7 hnb hsz5 hlt5 hlen hso hbr hBn ih hl5 hall
      go_wp2_with fail
      have hB8 : ButN Bn w (wr.setCell ⟨w.heap.size, 3, none⟩ (.slice va xs.length vc)) := HV.out.2.1.setNew (a := ⟨w.heap.size, 3, none⟩) (Nat.le_refl _) _
      have h78 : (wr.setCell ⟨w.heap.size, 3, none⟩ (.slice va xs.length vc)).heap[w.heap.size + 1]? = some (.cells #[.int .i64 0, .int .i64 0, .string (ByteArray.mk #[]), .slice none 0 0] 24 (0, 0)) := (Below.heap_setCell wr ⟨w.heap.size, 3, none⟩ _ _ (by simp)).trans HV.out.2.2.2.1
      obtain ⟨W5, hW5, hb5, hB5, ho5, hs5⟩ := box_but (B := w.heap.size + 1) hB8 (Nat.le_succ _) h78 (.int .i64 k5) (.int .i64 n5) (.string s5) (.slice va xs.length vc)
      rw [← hW5]
      obtain ⟨f0, f1, f2, f3⟩ := tbox_cells hb5
      refine bodyPost_ret (v := .tuple #[.agg #[.int .i64 k5, .int .i64 n5, .string s5, .slice va xs.length vc], .int .i64 0]) (by simp [results, Try.f38, go_sem, f0, f1, f2, f3]) rfl ?_
      have ho8 : ∀ k, k ≠ w.heap.size → k ≠ w.heap.size + 1 → W5.heap[k]? = wr.heap[k]? := fun k h1 h2 => (ho5 k h2).trans (Below.heap_setCell wr ⟨w.heap.size, 3, none⟩ _ k h1)
      have hs8 : W5.heap.size = wr.heap.size := by rw [hs5]; simp
      have h1 := HV.out.2.2.2.2.2.1
      have h2 := HV.out.2.2.2.2.2.2.1
      have h3 := HV.out.2.2.2.2.2.2.2.2
      refine ⟨hB5, ?_⟩
      rw [HR.out.1, HL.out]
      refine ⟨_, _, _, _, _, _, rfl, ?_, (ho8 Bn (by omega) (by omega)).trans HV.out.2.2.2.2.1⟩
      exact (HV.out.1.carry (q := fun c => w.heap.size ≤ c ∧ c < W5.heap.size) (fun c hc => ho8 c (by have := hc.1; omega) (by have := hc.1; omega)) fun c hc => ⟨by have := hc.1; omega, by rw [hs8]; exact hc.2⟩).term HR.out.2.2.2.2.2.2.2.2.1 HR.out.2.2.2.2.2.2.2.2.2.1 HR.out.2.2.2.2.2.2.2.2.2.2.1
end Go.Proofs.Ytlnggaepmclbkaa
