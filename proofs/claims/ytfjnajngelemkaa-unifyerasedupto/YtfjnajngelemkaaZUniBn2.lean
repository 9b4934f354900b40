/-
  unify.split, walk, bind, link.
-/
import Derived.Test.YtfjnajngelemkaaZUniA
import Derived.Test.YtfjnajngelemkaaZUniN
namespace Go.Proofs.Ytfjnajngelemkaa
open Go.RowKit Go.Shelf
open Classical
set_option linter.unusedVariables false
set_option linter.unusedSimpArgs false

mutual
/-- A term without the kids that stand behind the seals that it begins with. -/
def Tm.bare : Tm → Tm
  | .mk k n s ks => if k = 4 ∧ ks.length = 1 then .mk k n s (Tm.bares ks) else .mk k n s []
def Tm.bares : List Tm → List Tm
  | [] => []
  | t :: _ => [t.bare]
end
mutual
/-- These kids. -/
def Tm.ckids : Tm → List Tm
  | .mk k n s ks => if k = 4 ∧ ks.length = 1 then Tm.ckidss ks else ks
def Tm.ckidss : List Tm → List Tm
  | [] => []
  | t :: _ => t.ckids
end
theorem bare_wraps (n : Int) (s : ByteArray) (t : Tm) : (Tm.mk 4 n s [t]).bare = .mk 4 n s [t.bare] := by rw [Tm.bare, if_pos ⟨rfl, rfl⟩, Tm.bares]
theorem bare_else {k n : Int} {s : ByteArray} {ks : List Tm} (h : ¬ (k = 4 ∧ ks.length = 1)) : (Tm.mk k n s ks).bare = .mk k n s [] := by rw [Tm.bare, if_neg h]
theorem ckids_wraps (n : Int) (s : ByteArray) (t : Tm) : (Tm.mk 4 n s [t]).ckids = t.ckids := by rw [Tm.ckids, if_pos ⟨rfl, rfl⟩, Tm.ckidss]
theorem ckids_else {k n : Int} {s : ByteArray} {ks : List Tm} (h : ¬ (k = 4 ∧ ks.length = 1)) : (Tm.mk k n s ks).ckids = ks := by rw [Tm.ckids, if_neg h]
theorem strip_ckids {N : Nat} (T : Tm) : ∀ a, (T.strip Nat.max (lvC N) a).1.kids = T.ckids := by
  induction T using Tm.ind with
  | h k n s ks ih =>
    intro a
    by_cases h : k = 4 ∧ ks.length = 1
    · obtain ⟨t, rfl, rfl⟩ := wraps_form (n := n) (s := s) h
      rw [Tm.strip_wraps, ckids_wraps, ih t (by simp)]
    · rw [Tm.strip_else h, ckids_else h]; rfl
theorem bare_strip {N : Nat} {L : Int} (T : Tm) : (∀ a, (T.strip Nat.max (lvC N) a).1.kind ≠ 4) → ∀ a, T.bare.strip Nat.max (lvC N) a = (.mk (T.strip Nat.max (lvC N) a).1.kind (T.strip Nat.max (lvC N) a).1.num (T.strip Nat.max (lvC N) a).1.name [], (T.strip Nat.max (lvC N) a).2) := by
  induction T using Tm.ind with
  | h k n s ks ih =>
    intro hk a
    by_cases h : k = 4 ∧ ks.length = 1
    · obtain ⟨t, rfl, rfl⟩ := wraps_form (n := n) (s := s) h
      rw [bare_wraps, Tm.strip_wraps, Tm.strip_wraps]
      refine ih t (by simp) (fun b => ?_) _
      have h1 := hk b
      rw [Tm.strip_wraps, strip_max] at h1
      rw [strip_max]
      exact h1
    · have h1 := hk a
      rw [Tm.strip_else h] at h1
      have h1 : k ≠ 4 := h1
      rw [bare_else h, Tm.strip_else h, Tm.strip_else (fun e => h1 e.1)]
      rfl
theorem bare_size (T : Tm) : T.bare.size ≤ T.size := by
  induction T using Tm.ind with
  | h k n s ks ih =>
    by_cases h : k = 4 ∧ ks.length = 1
    · obtain ⟨t, rfl, rfl⟩ := wraps_form (n := n) (s := s) h
      have := ih t (by simp)
      rw [bare_wraps, Tm.size_mk, Tm.size_mk, Tm.sizes_cons, Tm.sizes_cons, Tm.sizes_nil]; omega
    · rw [bare_else h, Tm.size_mk, Tm.size_mk, Tm.sizes_nil]; omega

theorem one_ts {p q : Nat → Prop} {w : World} {k1 n1 : Int} {s1 : ByteArray} {a1 : Option Addr} {l1 c1 : Nat} {T1 : Tm} (h1 : TmIn p w (.agg #[.int .i64 k1, .int .i64 n1, .string s1, .slice a1 l1 c1]) T1) (hp : ∀ c, p c → c < w.heap.size) (hq : ∀ c, p c → q c) (hn : q w.heap.size) :
    TsIn q (w.alloc (.cells #[.int .i64 k1, .int .i64 n1, .string s1, .slice a1 l1 c1] 24)) (.slice (some ⟨w.heap.size, 0, none⟩) 1 1) [T1] := by
  have hb : Below w.heap.size w (w.alloc (.cells #[.int .i64 k1, .int .i64 n1, .string s1, .slice a1 l1 c1] 24)) := (Below.refl _ w).alloc (Nat.le_refl _) _
  refine ⟨some ⟨w.heap.size, 0, none⟩, 1, rfl, by simp, by unfold maxLen; omega, (fun h => by cases h), fun i hi => ?_⟩
  have hi' : i = 0 := by simp at hi; omega
  subst hi'
  exact ⟨w.heap.size, 0, k1, n1, s1, a1, l1, c1, rfl, hn, (World.cell?_alloc_new w _ _ _).trans rfl, (World.cell?_alloc_new w _ _ _).trans rfl, (World.cell?_alloc_new w _ _ _).trans rfl, (World.cell?_alloc_new w _ _ _).trans rfl, h1.carry (fun c hc => hb.block c (hp c hc)) hq⟩

/-- What split answers. -/
def SplitP (p : Nat → Prop) (T : Tm) (w : World) (e : Ending) (w' : World) : Prop :=
  ∃ k n s a l c va lv cv, e = .returned (.tuple #[.agg #[.int .i64 k, .int .i64 n, .string s, .slice a l c], .slice va lv cv]) ∧ TmIn (fun c => w.heap.size ≤ c ∧ c < w'.heap.size) w' (.agg #[.int .i64 k, .int .i64 n, .string s, .slice a l c]) T.bare ∧ TsIn p w' (.slice va lv cv) T.ckids ∧ Below w.heap.size w w'

set_option maxRecDepth 100000 in
set_option maxHeartbeats 4000000 in
theorem split_at {p : Nat → Prop} (T : Tm) : ∀ (v : Value) (w : World), (∀ c, p c → c < w.heap.size) → TmIn p w v T → Calls Try.prog 87 #[v] w (SplitP p T w) := by
  induction T using Tm.ind with
  | h k n s ks ih =>
    intro v w hp hv
    obtain ⟨k_, n_, s_, a, len, cap, ks_, rfl, e, hlen, hk, hn, hs', hlc, hcm, ha⟩ := hv.form
    injection e with e1 e2 e3 e4
    subst e1 e2 e3 e4
    obtain ⟨w2, hw2⟩ : ∃ w2, w2 = (w.alloc (.cells #[.int .i64 k, .int .i64 n, .string s, .slice a len cap] 24)).alloc (.cells #[.int .i64 0, .int .i64 0, .string (ByteArray.mk #[]), .slice none 0 0] 24) := ⟨_, rfl⟩
    have hb2 : Below w.heap.size w w2 := by rw [hw2]; exact ((Below.refl _ w).alloc (Nat.le_refl _) _).alloc (by simp) _
    have hx1 : w2.heap[w.heap.size]? = some (.cells #[.int .i64 k, .int .i64 n, .string s, .slice a len cap] 24 (0, 0)) := by rw [hw2]; exact (Below.heap_alloc _ _ _ (by simp)).trans (World.alloc_heap_new _ _)
    have hx2 : w2.heap[w.heap.size + 1]? = some (.cells #[.int .i64 0, .int .i64 0, .string (ByteArray.mk #[]), .slice none 0 0] 24 (0, 0)) := by rw [hw2]; simpa using World.alloc_heap_new (w.alloc (.cells #[.int .i64 k, .int .i64 n, .string s, .slice a len cap] 24)) (.cells #[.int .i64 0, .int .i64 0, .string (ByteArray.mk #[]), .slice none 0 0] 24)
    have hsz2 : w2.heap.size = w.heap.size + 2 := by rw [hw2]; simp
    -- the list taken away
    obtain ⟨w3, hw3⟩ : ∃ w3, w3 = w2.setCell ⟨w.heap.size, 3, none⟩ (.slice none 0 0) := ⟨_, rfl⟩
    have hb3 : Below w.heap.size w w3 := by rw [hw3]; exact hb2.setCell (p := ⟨w.heap.size, 3, none⟩) (Nat.le_refl _) _
    have hy1 : w3.heap[w.heap.size]? = some (.cells #[.int .i64 k, .int .i64 n, .string s, .slice none 0 0] 24 (0, 0)) := by rw [hw3]; exact set_block (o := 3) hx1 _
    have hy2 : w3.heap[w.heap.size + 1]? = some (.cells #[.int .i64 0, .int .i64 0, .string (ByteArray.mk #[]), .slice none 0 0] 24 (0, 0)) := by rw [hw3]; exact (Below.heap_setCell _ _ _ _ (by simp)).trans hx2
    have hsz3 : w3.heap.size = w.heap.size + 2 := by rw [hw3]; simp [hsz2]
    have hz := zeroTerm
    obtain ⟨x0, x1, x2, x3⟩ := tbox_cells hx1
    have xf : ∀ j, w2.frozen? ⟨w.heap.size, j, none⟩ = false := fun j => by simp [World.frozen?, hx1]
    obtain ⟨y0, y1, y2, y3⟩ := tbox_cells hy1
    obtain ⟨z0, z1, z2, z3⟩ := tbox_cells hy2
    have yf : ∀ j, w3.frozen? ⟨w.heap.size, j, none⟩ = false := fun j => by simp [World.frozen?, hy1]
    have zf : ∀ j, w3.frozen? ⟨w.heap.size + 1, j, none⟩ = false := fun j => by simp [World.frozen?, hy2]
    have HW := Lib.hid (And.intro hw2 (And.intro hw3 (And.intro hb3 (And.intro hy1 (And.intro hy2 hsz3)))))
    by_cases hw : k = 4 ∧ ks.length = 1
    · obtain ⟨t, rfl, rfl⟩ := wraps_form (n := n) (s := s) hw
      obtain rfl : len = 1 := hlen
      try clear hlen
      have hkids : TsIn p w (.slice a 1 cap) [t] := TmIn.kids hv
      obtain ⟨a_, cap_, e, -, -, -, hx⟩ := hkids
      injection e with e1 e2 e3
      subst e1 e3
      clear e2
      obtain ⟨b, o, k', n', s', a', l', c', rfl, hbp, c0, c1, c2, c3, ht⟩ := hx 0 (by simp)
      have hbn := hp b hbp
      simp only [Nat.zero_mul, Nat.add_zero] at c0 c1 c2 c3
      have ht : TmIn p w (.agg #[.int .i64 k', .int .i64 n', .string s', .slice a' l' c']) t := ht
      obtain ⟨w4, hw4⟩ : ∃ w4, w4 = w3.alloc (.cells #[.int .i64 0, .int .i64 0, .string (ByteArray.mk #[]), .slice none 0 0] 24) := ⟨_, rfl⟩
      have hb34 : Below w3.heap.size w3 w4 := by rw [hw4]; exact (Below.refl _ _).alloc (Nat.le_refl _) _
      have hb4 : Below w.heap.size w w4 := hb3.trans (hb34.mono hb3.size)
      have hv1 := tbox_below hy1 hb34
      have hv2 := tbox_below hy2 hb34
      have hv3 : w4.heap[w.heap.size + 2]? = some (.cells #[.int .i64 0, .int .i64 0, .string (ByteArray.mk #[]), .slice none 0 0] 24 (0, 0)) := by rw [hw4, ← hsz3]; exact World.alloc_heap_new _ _
      have hsz4 : w4.heap.size = w.heap.size + 3 := by rw [hw4]; simp [hsz3]
      have q0 := (hb4.cell (p := ⟨b, o, none⟩) hbn).trans c0
      have q1 := (hb4.cell (p := ⟨b, o + 1, none⟩) hbn).trans c1
      have q2 := (hb4.cell (p := ⟨b, o + 2, none⟩) hbn).trans c2
      have q3 := (hb4.cell (p := ⟨b, o + 3, none⟩) hbn).trans c3
      have hcall := ih t (by simp) _ w4 (fun c hc => Nat.lt_of_lt_of_le (hp c hc) hb4.size) (ht.carry (fun c hc => hb4.block c (hp c hc)) (fun _ hc => hc))
      have HV := Lib.hid (And.intro hw4 (And.intro hb4 (And.intro hv1 (And.intro hv2 (And.intro hv3 hsz4)))))
      have HP := Lib.hid (And.intro hk (And.intro hn hs'))
      have HPp := Lib.hid hp
      clear hb2 hx1 hx2 hsz2 hb3 hy1 hy2 hsz3 hw2 hw3 ih hv ha hlc hcm hw hx hb34 hb4 hv1 hv2 hv3 hsz4 hw4 c0 c1 c2 c3 ht hbn hp hk hn hs' y0 y1 y2 y3 z0 z1 z2 z3 yf zf
      go_enter Try.func87, Try.ntmps87
      go_upto_region 1 with fail
      rw [← HW.out.1]
      go_upto_region 3 with fail
      rw [← HW.out.2.1]
      clear x0 x1 x2 x3 xf
      obtain ⟨y0, y1, y2, y3⟩ := tbox_cells HW.out.2.2.2.1
      go_upto_region 5 with fail
      rw [HW.out.2.2.2.2.2, ← HV.out.1]
      clear y0 y1 y2 y3
      skip
      go_upto_region 6 with (go_at_call 87; refine hcall.mono ?_; clear hcall; rintro e w5 ⟨k5, n5, s5, a5, l5, c5, va, lv, cv, rfl, hT5, hK5, hB5⟩; have u1 := tbox_below HV.out.2.2.1 hB5; have u2 := tbox_below HV.out.2.2.2.1 hB5; have u3 := tbox_below HV.out.2.2.2.2.1 hB5; obtain ⟨g0, g1, g2, g3⟩ := tbox_cells u3; have gf : ∀ j, w5.frozen? ⟨w.heap.size + 2, j, none⟩ = false := (fun j => by simp [World.frozen?, u3]))
      have hsz5 : w.heap.size + 3 ≤ w5.heap.size := by have := hB5.size; have := HV.out.2.2.2.2.2; omega
      have hB05 : Below w.heap.size w w5 := HV.out.2.1.trans (hB5.mono HV.out.2.1.size)
      obtain ⟨w6, hw6, hb6, hT6, hB6, hs6⟩ := boxed_new (w := w) (q := fun c => w.heap.size + 3 ≤ c ∧ c < w5.heap.size) u3 hT5 (fun c hc => by have := hc.1; have := HV.out.2.2.2.2.2; omega) (fun c hc => ⟨by have := hc.1; have := HV.out.2.2.2.2.2; omega, hc.2⟩) hB05 (Nat.le_add_right _ _)
      have ho6 : ∀ c, c ≠ w.heap.size + 2 → w6.heap[c]? = w5.heap[c]? := fun c hc => by
        rw [hw6, Below.heap_setCell _ _ _ _ (by simpa using hc), Below.heap_setCell _ _ _ _ (by simpa using hc), Below.heap_setCell _ _ _ _ (by simpa using hc), Below.heap_setCell _ _ _ _ (by simpa using hc)]
      rw [← hw6]
      have r1 := (ho6 w.heap.size (by omega)).trans u1
      have r2 := (ho6 (w.heap.size + 1) (by omega)).trans u2
      obtain ⟨g0, g1, g2, g3⟩ := tbox_cells hb6
      have rf : ∀ j, w6.frozen? ⟨w.heap.size, j, none⟩ = false := fun j => by simp [World.frozen?, r1]
      obtain ⟨w8, hw8⟩ : ∃ w8, w8 = (w6.alloc (.cells #[.int .i64 k5, .int .i64 n5, .string s5, .slice a5 l5 c5] 24)).setCell ⟨w.heap.size, 3, none⟩ (.slice (some ⟨w6.heap.size, 0, none⟩) 1 1) := ⟨_, rfl⟩
      have hlt6 : w.heap.size + 3 ≤ w6.heap.size := by omega
      have hB8 : Below w.heap.size w w8 := by rw [hw8]; exact (hB6.alloc hB6.size _).setCell (p := ⟨w.heap.size, 3, none⟩) (Nat.le_refl _) _
      have r6 : (w6.alloc (.cells #[.int .i64 k5, .int .i64 n5, .string s5, .slice a5 l5 c5] 24)).heap[w.heap.size]? = some (.cells #[.int .i64 4, .int .i64 n, .string s, .slice none 0 0] 24 (0, 0)) := (Below.heap_alloc _ _ _ (by omega)).trans r1
      obtain ⟨p0, p1, p2, p3⟩ := tbox_cells r6
      have pf : ∀ j, (w6.alloc (.cells #[.int .i64 k5, .int .i64 n5, .string s5, .slice a5 l5 c5] 24)).frozen? ⟨w.heap.size, j, none⟩ = false := fun j => by simp [World.frozen?, r6]
      have t1 : w8.heap[w.heap.size]? = some (.cells #[.int .i64 4, .int .i64 n, .string s, .slice (some ⟨w6.heap.size, 0, none⟩) 1 1] 24 (0, 0)) := by rw [hw8]; exact set_block (o := 3) r6 _
      have t2 : w8.heap[w.heap.size + 1]? = some (.cells #[.int .i64 0, .int .i64 0, .string (ByteArray.mk #[]), .slice none 0 0] 24 (0, 0)) := by rw [hw8]; exact (Below.heap_setCell _ _ _ _ (by simp)).trans ((Below.heap_alloc _ _ _ (by omega)).trans r2)
      have hsz8 : w8.heap.size = w6.heap.size + 1 := by rw [hw8]; simp
      have hT8 : TsIn (fun c => w.heap.size + 3 ≤ c ∧ c < w8.heap.size) w8 (.slice (some ⟨w6.heap.size, 0, none⟩) 1 1) [t.bare] := by
        have h1 := one_ts (q := fun c => w.heap.size + 3 ≤ c ∧ c < w6.heap.size + 1) hT6 (fun c hc => by have := hc.2; omega) (fun c hc => ⟨hc.1, by have := hc.2; omega⟩) ⟨hlt6, by omega⟩
        rw [hw8]
        exact h1.carry (fun c hc => Below.heap_setCell _ _ _ _ (by have := hc.1; simp; omega)) (fun c hc => ⟨hc.1, by simpa using hc.2⟩)
      obtain ⟨w9, hw9, hb9, hT9, hB9, hs9⟩ := boxed_new (w := w) (q := fun c => w.heap.size + 3 ≤ c ∧ c < w8.heap.size) t2 (hT8.term (k := 4) (n := n) (s := s) HP.out.1 HP.out.2.1 HP.out.2.2) (fun c hc => by have := hc.1; omega) (fun c hc => hc) hB8 (Nat.le_succ _)
      obtain ⟨e0_, e1_, e2_, e3_⟩ := tbox_cells t1
      obtain ⟨d0, d1, d2, d3⟩ := tbox_cells t2
      have df : ∀ j, w8.frozen? ⟨w.heap.size + 1, j, none⟩ = false := fun j => by simp [World.frozen?, t2]
      have HF := Lib.hid (And.intro hw9 (And.intro hb9 (And.intro hT9 (And.intro hB9 (And.intro hs9 (And.intro hsz8 (And.intro hlt6 (And.intro (hK5.carry (fun c hc => (hB9.block c (HPp.out c hc)).trans (hB05.block c (HPp.out c hc)).symm) (fun _ h => h)) hB05))))))))
      have H8 := Lib.hid hw8
      clear hw9 hb9 hT9 hB9 hs9 hsz8 hlt6 hB8 r6 t1 t2 hT8 hw8 u1 u2 u3 hT5 hB5 hsz5 hw6 hb6 hT6 hB6 hs6 ho6 r1 r2 q0 q1 q2 q3 ht hbp gf
      go_upto_region 7 with fail
      rw [← H8.out]
      clear g0 g1 g2 g3 rf p0 p1 p2 p3 pf
      go_wp2_with fail
      obtain ⟨hw9, hb9, hT9, hB9, hs9, hsz8, hlt6, hK9, hB05⟩ := HF.out
      rw [← hw9]
      obtain ⟨f0, f1, f2, f3⟩ := tbox_cells hb9
      refine bodyPost_ret (v := .tuple #[.agg #[.int .i64 4, .int .i64 n, .string s, .slice (some ⟨w6.heap.size, 0, none⟩) 1 1], .slice va lv cv]) (by simp [results, Try.f87, go_sem, f0, f1, f2, f3]) rfl ?_
      refine ⟨_, _, _, _, _, _, _, _, _, rfl, ?_, ?_, hB9⟩
      · rw [bare_wraps]
        exact hT9.carry (fun _ _ => rfl) (fun c hc => ⟨by have := hc.1; omega, by rw [hs9]; exact hc.2⟩)
      · rw [ckids_wraps]
        exact hK9
    · have HL := Lib.hid hw
      have HT := Lib.hid (TmIn.kids hv)
      have HPp := Lib.hid hp
      clear hb2 hx1 hx2 hsz2 hb3 hy1 hy2 hsz3 hw2 hw3 ih hv ha hlc hcm y0 y1 y2 y3 z0 z1 z2 z3 yf zf hp
      have fin : Hid (∃ w4, w4 = ((((w3.setCell ⟨w.heap.size + 1, 0, none⟩ (.int .i64 k)).setCell ⟨w.heap.size + 1, 1, none⟩ (.int .i64 n)).setCell ⟨w.heap.size + 1, 2, none⟩ (.string s)).setCell ⟨w.heap.size + 1, 3, none⟩ (.slice none 0 0)) ∧
          w4.heap[w.heap.size + 1]? = some (.cells #[.int .i64 k, .int .i64 n, .string s, .slice none 0 0] 24 (0, 0)) ∧ TmIn (fun c => w.heap.size ≤ c ∧ c < w4.heap.size) w4 (.agg #[.int .i64 k, .int .i64 n, .string s, .slice none 0 0]) (Tm.mk k n s ks).bare ∧ TsIn p w4 (.slice a len cap) (Tm.mk k n s ks).ckids ∧ Below w.heap.size w w4) := by
        obtain ⟨w4, e, h1, h2, h3, h4⟩ := boxed_new (w := w) HW.out.2.2.2.2.1 ((noTs (fun _ => False) w3).term hk hn hs') (q := fun c => False) (fun b hb => hb.elim) (fun b hb => hb.elim) HW.out.2.2.1 (Nat.le_succ _)
        rw [bare_else HL.out, ckids_else HL.out]
        exact ⟨w4, e, h1, h2.carry (fun _ hb => hb.elim) (fun _ hb => hb.elim), HT.out.carry (fun c hc => h3.block c (HPp.out c hc)) (fun _ hc => hc), h3⟩
      by_cases h4 : k = 4
      · have hl1 : ((len : Int) == 1) = false := by
          have : len ≠ 1 := fun e => hw ⟨h4, hlen ▸ e⟩
          simp; omega
        subst h4
        clear hw hlen
        go_enter Try.func87, Try.ntmps87
        go_upto_region 1 with fail
        rw [← HW.out.1]
        go_upto_region 3 with fail
        rw [← HW.out.2.1]
        clear x0 x1 x2 x3 xf
        obtain ⟨y0, y1, y2, y3⟩ := tbox_cells HW.out.2.2.2.1
        obtain ⟨z0, z1, z2, z3⟩ := tbox_cells HW.out.2.2.2.2.1
        have zf : ∀ j, w3.frozen? ⟨w.heap.size + 1, j, none⟩ = false := fun j => by simp [World.frozen?, HW.out.2.2.2.2.1]
        go_wp2_with fail
        obtain ⟨w4, hw4, hb4, hT, hK, hB⟩ := fin.out
        rw [← hw4]
        obtain ⟨f0, f1, f2, f3⟩ := tbox_cells hb4
        refine bodyPost_ret (v := .tuple #[.agg #[.int .i64 4, .int .i64 n, .string s, .slice none 0 0], .slice a len cap]) (by simp [results, Try.f87, go_sem, f0, f1, f2, f3]) rfl ?_
        exact ⟨_, _, _, _, _, _, _, _, _, rfl, hT, hK, hB⟩
      · have h41 : (k == 4) = false := by simpa using h4
        clear hw h4 hlen
        go_enter Try.func87, Try.ntmps87
        go_upto_region 1 with fail
        rw [← HW.out.1]
        go_upto_region 3 with fail
        rw [← HW.out.2.1]
        clear x0 x1 x2 x3 xf
        obtain ⟨y0, y1, y2, y3⟩ := tbox_cells HW.out.2.2.2.1
        obtain ⟨z0, z1, z2, z3⟩ := tbox_cells HW.out.2.2.2.2.1
        have zf : ∀ j, w3.frozen? ⟨w.heap.size + 1, j, none⟩ = false := fun j => by simp [World.frozen?, HW.out.2.2.2.2.1]
        go_wp2_with fail
        obtain ⟨w4, hw4, hb4, hT, hK, hB⟩ := fin.out
        rw [← hw4]
        obtain ⟨f0, f1, f2, f3⟩ := tbox_cells hb4
        refine bodyPost_ret (v := .tuple #[.agg #[.int .i64 k, .int .i64 n, .string s, .slice none 0 0], .slice a len cap]) (by simp [results, Try.f87, go_sem, f0, f1, f2, f3]) rfl ?_
        exact ⟨_, _, _, _, _, _, _, _, _, rfl, hT, hK, hB⟩
end Go.Proofs.Ytfjnajngelemkaa

namespace Go.Proofs.Ytfjnajngelemkaa
open Go.RowKit Go.Shelf
open Classical
set_option linter.unusedVariables false
set_option linter.unusedSimpArgs false

set_option maxRecDepth 100000 in
set_option maxHeartbeats 4000000 in
theorem uwalk_at {n₀ : Nat} {w : World} {b : Nat} {V L : Value} {σ : St} (h : StAt (Oth w b V L) n₀ w b V L σ) {p : Nat → Prop} (hp : ∀ c, p c → c < w.heap.size) (v : Value) (T : Tm) (hv : TmIn p w v T) (hs : T.size ≤ 2000000) :
    Calls Try.prog 76 #[.pointer (some ⟨b, 0, none⟩), v] w fun e w' => ∃ k n s a l c, e = .returned (.agg #[.int .i64 k, .int .i64 n, .string s, .slice a l c]) ∧ TmIn (fun x => p x ∨ (w.heap.size ≤ x ∧ x < w'.heap.size)) w' (.agg #[.int .i64 k, .int .i64 n, .string s, .slice a l c]) (σ.fin T) ∧ Below w.heap.size w w' := by
  obtain ⟨k, n, s, a, len, cap, ks, rfl, e, hlen, -⟩ := hv.form
  obtain ⟨w2, hw2⟩ : ∃ w2, w2 = (w.alloc (.cells #[.int .i64 k, .int .i64 n, .string s, .slice a len cap] 24)).alloc (.cells #[.int .i64 0, .int .i64 0, .string (ByteArray.mk #[]), .slice none 0 0] 24) := ⟨_, rfl⟩
  have hb2 : Below w.heap.size w w2 := by rw [hw2]; exact ((Below.refl _ w).alloc (Nat.le_refl _) _).alloc (by simp) _
  have hx1 : w2.heap[w.heap.size]? = some (.cells #[.int .i64 k, .int .i64 n, .string s, .slice a len cap] 24 (0, 0)) := by rw [hw2]; exact (Below.heap_alloc _ _ _ (by simp)).trans (World.alloc_heap_new _ _)
  have hx2 : w2.heap[w.heap.size + 1]? = some (.cells #[.int .i64 0, .int .i64 0, .string (ByteArray.mk #[]), .slice none 0 0] 24 (0, 0)) := by rw [hw2]; simpa using World.alloc_heap_new (w.alloc (.cells #[.int .i64 k, .int .i64 n, .string s, .slice a len cap] 24)) (.cells #[.int .i64 0, .int .i64 0, .string (ByteArray.mk #[]), .slice none 0 0] 24)
  have hsz2 : w2.heap.size = w.heap.size + 2 := by rw [hw2]; simp
  obtain ⟨x0, x1, x2, x3⟩ := tbox_cells hx1
  have hz := zeroTerm
  have HW := Lib.hid hw2
  by_cases hk : k = 1
  · have hk1 : (k != 1) = false := by simpa using hk
    have hfs : (σ.fin T).size ≤ 1000000000000 := by have := fin_size h.ok T; omega
    have hcall := walk_at (h.step hb2) (.agg #[.int .i64 k, .int .i64 n, .string s, .slice a len cap]) T (Has.below (hv.carry (fun _ _ => rfl) hp) hb2) hfs
    have HH := Lib.hid (And.intro hb2 (And.intro hx2 (And.intro hsz2 (h.step hb2))))
    clear hb2 hx1 hx2 hsz2 h hv hk hlen e hw2 hfs
    go_enter Try.func76, Try.ntmps76
    go_upto_region 1 with fail
    rw [← HW.out]
    go_wp2_with (go_at_call 41; refine hcall.mono ?_; clear hcall; rintro e w5 ⟨r, rfl, hT5, hB5⟩; obtain ⟨k5, n5, s5, a5, l5, c5, ks5, rfl, -⟩ := hT5.form; have u2 := tbox_below HH.out.2.1 hB5; obtain ⟨z0, z1, z2, z3⟩ := tbox_cells u2; have zf : ∀ j, w5.frozen? ⟨w.heap.size + 1, j, none⟩ = false := (fun j => by simp [World.frozen?, u2]))
    have hB05 := HH.out.1.trans (hB5.mono HH.out.1.size)
    obtain ⟨w6, hw6, hb6, hT6, hB6, hs6⟩ := boxed_new (w := w) (q := fun c => w.heap.size + 2 ≤ c ∧ c < w5.heap.size) u2 hT5 (fun c hc => by have := hc.1; have := HH.out.2.2.1; omega) (fun c hc => ⟨by have := hc.1; have := HH.out.2.2.1; omega, hc.2⟩) hB05 (Nat.le_succ _)
    rw [← hw6]
    obtain ⟨f0, f1, f2, f3⟩ := tbox_cells hb6
    refine bodyPost_ret (v := .agg #[.int .i64 k5, .int .i64 n5, .string s5, .slice a5 l5 c5]) (by simp [results, Try.f76, go_sem, f0, f1, f2, f3]) rfl ?_
    exact ⟨_, _, _, _, _, _, rfl, hT6.carry (fun _ _ => rfl) fun c hc => .inr ⟨by have := hc.1; omega, by rw [hs6]; exact hc.2⟩, hB6⟩
  · have hk1 : (k != 1) = true := by simpa using hk
    have hfin : σ.fin T = T := fin_non (by rw [e]; exact hk)
    rw [hfin]
    obtain ⟨w6, hw6, hb6, hT6, hB6, hs6⟩ := boxed_new (w := w) (q := p) hx2 (p := p) (hv.carry (fun c hc => hb2.block c (hp c hc)) (fun _ hc => hc)) (fun c hc => by have := hp c hc; omega) (fun _ hc => hc) hb2 (Nat.le_succ _)
    have hT7 : TmIn (fun x => p x ∨ (w.heap.size ≤ x ∧ x < w6.heap.size)) w6 (.agg #[.int .i64 k, .int .i64 n, .string s, .slice a len cap]) T := hT6.carry (fun _ _ => rfl) fun c hc => .inl hc
    obtain ⟨z0, z1, z2, z3⟩ := tbox_cells hx2
    have zf : ∀ j, w2.frozen? ⟨w.heap.size + 1, j, none⟩ = false := fun j => by simp [World.frozen?, hx2]
    have HF := Lib.hid (And.intro hw6 (And.intro hb6 (And.intro hT7 hB6)))
    clear hb2 hx1 hx2 hsz2 h hv hk hlen e hw2 hw6 hb6 hT6 hB6 hs6 hT7 hfin
    go_enter Try.func76, Try.ntmps76
    go_upto_region 1 with fail
    rw [← HW.out]
    go_wp2_with fail
    rw [← HF.out.1]
    obtain ⟨f0, f1, f2, f3⟩ := tbox_cells HF.out.2.1
    refine bodyPost_ret (v := .agg #[.int .i64 k, .int .i64 n, .string s, .slice a len cap]) (by simp [results, Try.f76, go_sem, f0, f1, f2, f3]) rfl ?_
    exact ⟨_, _, _, _, _, _, rfl, HF.out.2.2.1, HF.out.2.2.2⟩

theorem bindE_cases (σ : St) (v : Int) (T : Tm) (hl : σ.vs.length ≤ 4096) : (v < 0 ∨ 4096 ≤ v) → σ.bindE v T ≠ 0 := by
  intro h e
  obtain ⟨n, rfl, hn, -⟩ := bindE_zero e
  have := (List.getElem?_eq_some_iff.1 hn).1
  omega
noncomputable def St.bnd (σ : St) (v : Int) (T : Tm) : St := if σ.bindE v T = 0 then σ.bind v.toNat T else σ

set_option maxRecDepth 100000 in
theorem bind_all {n₀ : Nat} {w : World} {b : Nat} {V L : Value} {σ : St} (h : StAt (Oth w b V L) n₀ w b V L σ) (hn₀ : n₀ ≤ w.heap.size) (v : Int) (t : Value) (T : Tm) (ht : Has w t T) (hs : T.size ≤ 2000000) :
    Calls Try.prog 95 #[.pointer (some ⟨b, 0, none⟩), .int .i64 v, t] w fun e w' => e = .returned (.int .i64 (σ.bindE v T)) ∧ ∃ L', StAt (Oth w' b V L') n₀ w' b V L' (σ.bnd v T) ∧ Mut w b V L w' V L' := by
  by_cases hb : σ.bindE v T = 0
  · obtain ⟨n, rfl, hn, hM⟩ := bindE_zero hb
    refine (bind_at10 h hn₀ n t T ht hs hn hM).mono ?_
    rintro e w' ⟨rfl, L', hS, hm⟩
    refine ⟨by rw [hb], L', ?_, hm⟩
    unfold St.bnd
    rw [if_pos hb]
    exact hS
  · refine (bind_bad h v t T ht (by omega) hb).mono ?_
    rintro e w' ⟨rfl, hB⟩
    refine ⟨rfl, L, ?_, Mut.of_below hB⟩
    unfold St.bnd
    rw [if_neg hb]
    exact h.step hB

set_option maxRecDepth 100000 in
set_option maxHeartbeats 4000000 in
theorem ubind_at {n₀ : Nat} {w : World} {b : Nat} {V L : Value} {σ : St} (h : StAt (Oth w b V L) n₀ w b V L σ) (hn₀ : n₀ ≤ w.heap.size) (u v : Value) (A T : Tm) (hu : Has w u A) (hv : Has w v T) (hs : T.size ≤ 2000000) :
    Calls Try.prog 86 #[.pointer (some ⟨b, 0, none⟩), u, v] w fun e w' => e = .returned (.bool (decide (σ.bindE A.num T = 0))) ∧ ∃ L', StAt (Oth w' b V L') n₀ w' b V L' (σ.bnd A.num T) ∧ Mut w b V L w' V L' := by
  obtain ⟨k1, n1, s1, a1, l1, c1, ks1, rfl, rfl, -, -, hn1, -⟩ := hu.form
  obtain ⟨k2, n2, s2, a2, l2, c2, ks2, rfl, eT, -⟩ := hv.form
  obtain ⟨w2, hw2⟩ : ∃ w2, w2 = (w.alloc (.cells #[.int .i64 k1, .int .i64 n1, .string s1, .slice a1 l1 c1] 24)).alloc (.cells #[.int .i64 k2, .int .i64 n2, .string s2, .slice a2 l2 c2] 24) := ⟨_, rfl⟩
  have hb2 : Below w.heap.size w w2 := by rw [hw2]; exact ((Below.refl _ w).alloc (Nat.le_refl _) _).alloc (by simp) _
  have hx1 : w2.heap[w.heap.size]? = some (.cells #[.int .i64 k1, .int .i64 n1, .string s1, .slice a1 l1 c1] 24 (0, 0)) := by rw [hw2]; exact (Below.heap_alloc _ _ _ (by simp)).trans (World.alloc_heap_new _ _)
  have hx2 : w2.heap[w.heap.size + 1]? = some (.cells #[.int .i64 k2, .int .i64 n2, .string s2, .slice a2 l2 c2] 24 (0, 0)) := by rw [hw2]; simpa using World.alloc_heap_new (w.alloc (.cells #[.int .i64 k1, .int .i64 n1, .string s1, .slice a1 l1 c1] 24)) (.cells #[.int .i64 k2, .int .i64 n2, .string s2, .slice a2 l2 c2] 24)
  obtain ⟨x0, x1, x2, x3⟩ := tbox_cells hx1
  obtain ⟨y0, y1, y2, y3⟩ := tbox_cells hx2
  have HW := Lib.hid hw2
  show Calls _ _ _ _ (fun e w' => e = .returned (.bool (decide (σ.bindE n1 T = 0))) ∧ ∃ L', StAt (Oth w' b V L') n₀ w' b V L' (σ.bnd n1 T) ∧ Mut w b V L w' V L')
  have hMb := Mut.of_below (b := b) (V := V) (L := L) hb2
  have hcall := bind_all (h.step hb2) (Nat.le_trans hn₀ hb2.size) n1 (.agg #[.int .i64 k2, .int .i64 n2, .string s2, .slice a2 l2 c2]) T (Has.below hv hb2) hs
  by_cases hr : n1 < 0 ∨ 4096 ≤ n1
  · have hne := bindE_cases σ n1 T h.ok.len hr
    have hbn : σ.bnd n1 T = σ := by unfold St.bnd; rw [if_neg hne]
    rw [decide_eq_false hne, hbn]
    have H := Lib.hid (And.intro (h.step hb2) hMb)
    clear hcall hne hbn h hu hv hb2 hx1 hx2 hMb hw2 eT
    by_cases h0 : n1 < 0
    · clear hr
      go_enter Try.func86, Try.ntmps86
      go_upto_region 1 with fail
      rw [← HW.out]
      go_wp2_with fail
      go_ret
      exact ⟨rfl, L, H.out.1, H.out.2⟩
    · have h1 : decide (n1 < 0) = false := decide_eq_false h0
      have h3 : n1 ≥ 4096 := by omega
      have h2 : decide (n1 ≥ 4096) = true := decide_eq_true h3
      clear hr
      go_enter Try.func86, Try.ntmps86
      go_upto_region 1 with fail
      rw [← HW.out]
      go_wp2_with fail
      go_ret
      exact ⟨rfl, L, H.out.1, H.out.2⟩
  · have h0 : ¬ n1 < 0 := fun e => hr (.inl e)
    have h1 : decide (n1 < 0) = false := decide_eq_false h0
    have h3 : ¬ n1 ≥ 4096 := fun e => hr (.inr e)
    have h2 : decide (n1 ≥ 4096) = false := decide_eq_false h3
    have hrr : n1 < 4096 := by omega
    have hr0 : 0 ≤ n1 := by omega
    obtain ⟨q, hq⟩ : ∃ q, σ.bindE n1 T = q := ⟨_, rfl⟩
    obtain ⟨τ, hτ⟩ : ∃ τ, σ.bnd n1 T = τ := ⟨_, rfl⟩
    rw [hq, hτ] at hcall ⊢
    have H := Lib.hid hMb
    clear h hu hv hb2 hx1 hx2 hMb hw2 eT hr hq hτ hs
    go_enter Try.func86, Try.ntmps86
    go_upto_region 1 with fail
    rw [← HW.out]
    go_wp2_with (go_at_call 95; refine hcall.mono ?_; clear hcall; rintro e w5 ⟨rfl, L', hS, hM⟩)
    go_ret
    exact ⟨congrArg (fun b => Ending.returned (Value.bool b)) (by rw [Bool.eq_iff_iff]; simp), L', hS, H.out.trans hM⟩
/-- LINK -/
theorem link_yes {σ : St} {A B : Tm} (h : A.kind = 1 ∧ B.kind = 1 ∧ A.num = B.num) : σ.link A B = (true, σ) := by unfold St.link; rw [if_pos h]
theorem link_a {σ : St} {A B : Tm} (h : ¬ (A.kind = 1 ∧ B.kind = 1 ∧ A.num = B.num)) (h1 : A.kind = 1) : σ.link A B = (decide (σ.bindE A.num B = 0), σ.bnd A.num B) := by
  unfold St.link St.bnd
  rw [if_neg h, if_pos h1]
  by_cases h2 : σ.bindE A.num B = 0
  · rw [if_pos h2, if_pos h2, decide_eq_true h2]
  · rw [if_neg h2, if_neg h2, decide_eq_false h2]
theorem link_b {σ : St} {A B : Tm} (h1 : A.kind ≠ 1) : σ.link A B = (decide (σ.bindE B.num A = 0), σ.bnd B.num A) := by
  unfold St.link St.bnd
  rw [if_neg (fun e => h1 e.1), if_neg h1]
  by_cases h2 : σ.bindE B.num A = 0
  · rw [if_pos h2, if_pos h2, decide_eq_true h2]
  · rw [if_neg h2, if_neg h2, decide_eq_false h2]

set_option maxRecDepth 100000 in
set_option maxHeartbeats 4000000 in
theorem link_at {n₀ : Nat} {w : World} {b : Nat} {V L : Value} {σ : St} (h : StAt (Oth w b V L) n₀ w b V L σ) (hn₀ : n₀ ≤ w.heap.size) (u v : Value) (A B : Tm) (hu : Has w u A) (hv : Has w v B) (hs : A.size ≤ 2000000) (ht : B.size ≤ 2000000) :
    Calls Try.prog 77 #[.pointer (some ⟨b, 0, none⟩), u, v] w fun e w' => e = .returned (.bool (σ.link A B).1) ∧ ∃ L', StAt (Oth w' b V L') n₀ w' b V L' (σ.link A B).2 ∧ Mut w b V L w' V L' := by
  obtain ⟨k1, n1, s1, a1, l1, c1, ks1, rfl, eA, -⟩ := hu.form
  obtain ⟨k2, n2, s2, a2, l2, c2, ks2, rfl, eB, -⟩ := hv.form
  obtain ⟨w2, hw2⟩ : ∃ w2, w2 = (w.alloc (.cells #[.int .i64 k1, .int .i64 n1, .string s1, .slice a1 l1 c1] 24)).alloc (.cells #[.int .i64 k2, .int .i64 n2, .string s2, .slice a2 l2 c2] 24) := ⟨_, rfl⟩
  have hb2 : Below w.heap.size w w2 := by rw [hw2]; exact ((Below.refl _ w).alloc (Nat.le_refl _) _).alloc (by simp) _
  have hx1 : w2.heap[w.heap.size]? = some (.cells #[.int .i64 k1, .int .i64 n1, .string s1, .slice a1 l1 c1] 24 (0, 0)) := by rw [hw2]; exact (Below.heap_alloc _ _ _ (by simp)).trans (World.alloc_heap_new _ _)
  have hx2 : w2.heap[w.heap.size + 1]? = some (.cells #[.int .i64 k2, .int .i64 n2, .string s2, .slice a2 l2 c2] 24 (0, 0)) := by rw [hw2]; simpa using World.alloc_heap_new (w.alloc (.cells #[.int .i64 k1, .int .i64 n1, .string s1, .slice a1 l1 c1] 24)) (.cells #[.int .i64 k2, .int .i64 n2, .string s2, .slice a2 l2 c2] 24)
  obtain ⟨x0, x1, x2, x3⟩ := tbox_cells hx1
  obtain ⟨y0, y1, y2, y3⟩ := tbox_cells hx2
  have HW := Lib.hid hw2
  have ekA : A.kind = k1 := by rw [eA]; rfl
  have ekB : B.kind = k2 := by rw [eB]; rfl
  have enA : A.num = n1 := by rw [eA]; rfl
  have enB : B.num = n2 := by rw [eB]; rfl
  have hMb := Mut.of_below (b := b) (V := V) (L := L) hb2
  have hS2 := h.step hb2
  have hc1 := ubind_at hS2 (Nat.le_trans hn₀ hb2.size) (.agg #[.int .i64 k1, .int .i64 n1, .string s1, .slice a1 l1 c1]) (.agg #[.int .i64 k2, .int .i64 n2, .string s2, .slice a2 l2 c2]) A B (Has.below hu hb2) (Has.below hv hb2) ht
  have hc2 := ubind_at hS2 (Nat.le_trans hn₀ hb2.size) (.agg #[.int .i64 k2, .int .i64 n2, .string s2, .slice a2 l2 c2]) (.agg #[.int .i64 k1, .int .i64 n1, .string s1, .slice a1 l1 c1]) B A (Has.below hv hb2) (Has.below hu hb2) hs
  have H := Lib.hid (And.intro hMb hS2)
  clear hb2 hx1 hx2 hMb hw2 h hS2 hu hv hs ht
  by_cases h1 : k1 = 1
  · have d1 : (k1 == 1) = true := by simpa using h1
    by_cases h2 : k2 = 1
    · have d2 : (k2 == 1) = true := by simpa using h2
      by_cases h3 : n1 = n2
      · have d3 : (n1 == n2) = true := by simpa using h3
        rw [link_yes ⟨ekA.trans h1, ekB.trans h2, by rw [enA, enB, h3]⟩]
        clear hc1 hc2 h1 h2 h3 ekA ekB enA enB eA eB
        go_enter Try.func77, Try.ntmps77
        go_upto_region 1 with fail
        rw [← HW.out]
        go_wp2_with fail
        go_ret
        exact ⟨rfl, L, H.out.2, H.out.1⟩
      · have d3 : (n1 == n2) = false := by simpa using h3
        rw [link_a (fun e => h3 (by rw [← enA, ← enB]; exact e.2.2)) (ekA.trans h1)]
        obtain ⟨q, hq⟩ : ∃ q, decide (σ.bindE A.num B = 0) = q := ⟨_, rfl⟩
        obtain ⟨τ, hτ⟩ : ∃ τ, σ.bnd A.num B = τ := ⟨_, rfl⟩
        rw [hq, hτ] at hc1 ⊢
        have hcall := hc1
        clear hc1 hc2 hq hτ
        clear h1 h2 h3 ekA ekB enA enB eA eB
        go_enter Try.func77, Try.ntmps77
        go_upto_region 1 with fail
        rw [← HW.out]
        go_wp2_with (go_at_call 86; refine hcall.mono ?_; clear hcall; rintro e w5 ⟨rfl, L', hS, hM⟩)
        go_ret
        exact ⟨rfl, L', hS, H.out.1.trans hM⟩
    · have d2 : (k2 == 1) = false := by simpa using h2
      rw [link_a (fun e => h2 (by rw [← ekB]; exact e.2.1)) (ekA.trans h1)]
      obtain ⟨q, hq⟩ : ∃ q, decide (σ.bindE A.num B = 0) = q := ⟨_, rfl⟩
      obtain ⟨τ, hτ⟩ : ∃ τ, σ.bnd A.num B = τ := ⟨_, rfl⟩
      rw [hq, hτ] at hc1 ⊢
      have hcall := hc1
      clear hc1 hc2 hq hτ
      clear h1 h2 ekA ekB enA enB eA eB
      go_enter Try.func77, Try.ntmps77
      go_upto_region 1 with fail
      rw [← HW.out]
      go_wp2_with (go_at_call 86; refine hcall.mono ?_; clear hcall; rintro e w5 ⟨rfl, L', hS, hM⟩)
      go_ret
      exact ⟨rfl, L', hS, H.out.1.trans hM⟩
  · have d1 : (k1 == 1) = false := by simpa using h1
    rw [link_b (fun e => h1 (by rw [← ekA]; exact e))]
    obtain ⟨q, hq⟩ : ∃ q, decide (σ.bindE B.num A = 0) = q := ⟨_, rfl⟩
    obtain ⟨τ, hτ⟩ : ∃ τ, σ.bnd B.num A = τ := ⟨_, rfl⟩
    rw [hq, hτ] at hc2 ⊢
    have hcall := hc2
    clear hc1 hc2 hq hτ
    clear h1 ekA ekB enA enB eA eB
    go_enter Try.func77, Try.ntmps77
    go_upto_region 1 with fail
    rw [← HW.out]
    go_wp2_with (go_at_call 86; refine hcall.mono ?_; clear hcall; rintro e w5 ⟨rfl, L', hS, hM⟩)
    go_ret
    exact ⟨rfl, L', hS, H.out.1.trans hM⟩

end Go.Proofs.Ytfjnajngelemkaa
