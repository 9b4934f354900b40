/-
  The reference's Erase.
-/
import Derived.Test.YtnkfjomnpnbidaaZRefBaren2
import Derived.Test.YtnkfjomnpnbidaaZRefCmpn4
import Derived.Test.YtnkfjomnpnbidaaZLastn2
import Derived.Deep.DeepCutAuto
import Derived.Test.YtnkfjomnpnbidaaZSealM
namespace Go.Proofs.Ytnkfjomnpnbidaa
open Go.RowKit Go.Shelf
set_option linter.unusedVariables false
set_option linter.unusedSimpArgs false

set_option maxRecDepth 100000 in
set_option maxHeartbeats 8000000 in
theorem rerase_at (T : Tm) : ∀ (v : Value) (w : World), Has w v T → T.size ≤ 1000000000 → Calls Try.prog 33 #[v] w (NewTm w T.er) := by
  induction T using Tm.ind with
  | h k n s ks ih =>
    intro v w hv hs
    obtain ⟨k_, n_, s_, a, len, cap, ks_, rfl, e, rfl, hk, hn, hs', hc, hm, ha⟩ := hv.form
    injection e with e1 e2 e3 e4
    subst e1 e2 e3 e4
    rw [Tm.size_mk] at hs
    have hlen : ks.length ≤ 1000000000 := by have := Tm.length_le_sizes ks; omega
    have hz := zeroTerm
    by_cases hw : k = 4 ∧ ks.length = 1
    · obtain ⟨hk4, hl1⟩ := hw
      subst hk4
      obtain ⟨b, o, k1, n1, s1, a1, l1, c1, T1, rfl, hbn, e0, e1, e2, e3, hT1, ht1⟩ := IsTm.kid hv 0 (by omega)
      obtain rfl : ks = [T1] := by
        match ks, hl1, hT1 with
        | [t], _, h => simp at h; rw [h]
      rw [Tm.er_wraps]
      have hs1 : T1.size ≤ 1000000000 := by rw [Tm.sizes_cons] at hs; omega
      obtain ⟨w2, hw2⟩ : ∃ w2, w2 = ((w.alloc (.cells #[.int .i64 4, .int .i64 n, .string s, .slice (some ⟨b, o, none⟩) 1 cap] 24)).alloc (.cells #[.int .i64 0, .int .i64 0, .string (ByteArray.mk #[]), .slice none 0 0] 24)) := ⟨_, rfl⟩
      have hB2 : Below w.heap.size w w2 := by rw [hw2]; exact ((Below.refl _ w).alloc (Nat.le_refl _) _).alloc (by simp) _
      have hsz2 : w2.heap.size = w.heap.size + 1 + 1 := by rw [hw2]; simp
      have hx1 : w2.heap[w.heap.size]? = some (.cells #[.int .i64 4, .int .i64 n, .string s, .slice (some ⟨b, o, none⟩) 1 cap] 24 (0, 0)) := by rw [hw2]; exact (Below.heap_alloc _ _ _ (by simp)).trans (World.alloc_heap_new _ _)
      have hx2 : w2.heap[w.heap.size + 1]? = some (.cells #[.int .i64 0, .int .i64 0, .string (ByteArray.mk #[]), .slice none 0 0] 24 (0, 0)) := by rw [hw2]; simpa using World.alloc_heap_new (w.alloc (.cells #[.int .i64 4, .int .i64 n, .string s, .slice (some ⟨b, o, none⟩) 1 cap] 24)) (.cells #[.int .i64 0, .int .i64 0, .string (ByteArray.mk #[]), .slice none 0 0] 24)
      have q0 := (hB2.cell (p := ⟨b, o + 0 * 4, none⟩) hbn).trans e0
      have q1 := (hB2.cell (p := ⟨b, o + 0 * 4 + 1, none⟩) hbn).trans e1
      have q2 := (hB2.cell (p := ⟨b, o + 0 * 4 + 2, none⟩) hbn).trans e2
      have q3 := (hB2.cell (p := ⟨b, o + 0 * 4 + 3, none⟩) hbn).trans e3
      simp only [Nat.zero_mul, Nat.add_zero] at q0 q1 q2 q3
      obtain ⟨t0, t1, t2, t3⟩ := tbox_cells hx1
      have hih := ih T1 (by simp) _ w2 (IsTm.later hB2 hB2.size ht1) hs1
      have HW := Lib.hid hw2
      have HH := Lib.hid (And.intro hB2 (And.intro hsz2 hx2))
      clear hw2 hB2 hsz2 hx1 hx2 ih hv e0 e1 e2 e3 ht1 hT1 hs hs1
      go_enter Try.func33, Try.ntmps33
      go_upto_region 1 with fail
      rw [← HW.out]
      go_wp2_with fail
      refine hih.mono ?_
      clear hih
      intro e w3 h
      obtain ⟨r, rfl, hr, hb3⟩ := h
      obtain ⟨k4, n4, s4, a4, l4, c4, ks4, rfl, -, -, hk4, hn4, hs4, -⟩ := hr.form
      have y2 := (hb3.block (w.heap.size + 1) (by have := HH.out.2.1; omega)).trans HH.out.2.2
      obtain ⟨x0, x1, x2, x3⟩ := tbox_cells y2
      have xf : ∀ j, w3.frozen? ⟨w.heap.size + 1, j, none⟩ = false := fun j => by simp [World.frozen?, y2]
      have HE := Lib.hid (And.intro hr (And.intro hb3 y2))
      clear hr hb3 y2 t0 t1 t2 t3 q0 q1 q2 q3
      go_wp2_with fail
      obtain ⟨hr, hb3, y2⟩ := HE.out
      have hwr := HH.out.1.trans (hb3.mono HH.out.1.size)
      have hb5 := four_block y2 (.int .i64 k4) (.int .i64 n4) (.string s4) (.slice a4 l4 c4)
      have ho5 : ∀ b, w2.heap.size ≤ b → ((((w3.setCell ⟨w.heap.size + 1, 0, none⟩ (.int .i64 k4)).setCell ⟨w.heap.size + 1, 1, none⟩ (.int .i64 n4)).setCell ⟨w.heap.size + 1, 2, none⟩ (.string s4)).setCell ⟨w.heap.size + 1, 3, none⟩ (.slice a4 l4 c4)).heap[b]? = w3.heap[b]? := fun b hb => by
        have := HH.out.2.1
        rw [Below.heap_setCell _ _ _ _ (by simp; omega), Below.heap_setCell _ _ _ _ (by simp; omega), Below.heap_setCell _ _ _ _ (by simp; omega), Below.heap_setCell _ _ _ _ (by simp; omega)]
      have hB5 := (((hwr.setCell (p := ⟨w.heap.size + 1, 0, none⟩) (Nat.le_succ _) (.int .i64 k4)).setCell (p := ⟨w.heap.size + 1, 1, none⟩) (Nat.le_succ _) (.int .i64 n4)).setCell (p := ⟨w.heap.size + 1, 2, none⟩) (Nat.le_succ _) (.string s4)).setCell (p := ⟨w.heap.size + 1, 3, none⟩) (Nat.le_succ _) (.slice a4 l4 c4)
      have hs5 : ((((w3.setCell ⟨w.heap.size + 1, 0, none⟩ (.int .i64 k4)).setCell ⟨w.heap.size + 1, 1, none⟩ (.int .i64 n4)).setCell ⟨w.heap.size + 1, 2, none⟩ (.string s4)).setCell ⟨w.heap.size + 1, 3, none⟩ (.slice a4 l4 c4)).heap.size = w3.heap.size := by simp
      generalize ((((w3.setCell ⟨w.heap.size + 1, 0, none⟩ (.int .i64 k4)).setCell ⟨w.heap.size + 1, 1, none⟩ (.int .i64 n4)).setCell ⟨w.heap.size + 1, 2, none⟩ (.string s4)).setCell ⟨w.heap.size + 1, 3, none⟩ (.slice a4 l4 c4)) = w5 at hb5 ho5 hB5 hs5 ⊢
      obtain ⟨f0, f1, f2, f3⟩ := tbox_cells hb5
      refine bodyPost_ret (v := .agg #[.int .i64 k4, .int .i64 n4, .string s4, .slice a4 l4 c4]) (by simp [results, Try.f33, go_sem, f0, f1, f2, f3]) rfl ?_
      exact ⟨_, rfl, hr.carry (fun b hb => ho5 b hb.1) (fun b hb => ⟨by have := HH.out.2.1; have := hb.1; omega, by rw [hs5]; exact hb.2⟩), hB5⟩
    rw [Tm.er_else hw]
    by_cases hk4 : k = 4
    · have hl1 : ((ks.length : Int) == 1) = false := by
        have : ¬ ks.length = 1 := fun e => hw ⟨hk4, e⟩
        simp; omega
      subst hk4
      obtain ⟨w3, hw3⟩ : ∃ w3, w3 = (((w.alloc (.cells #[.int .i64 4, .int .i64 n, .string s, .slice a ks.length cap] 24)).alloc (.cells #[.int .i64 0, .int .i64 0, .string (ByteArray.mk #[]), .slice none 0 0] 24)).alloc (.cells #[.int .i64 4, .int .i64 n, .string s, .slice none 0 0] 24)) := ⟨_, rfl⟩
      have hB3 : Below w.heap.size w w3 := by rw [hw3]; exact (((Below.refl _ w).alloc (Nat.le_refl _) _).alloc (by simp) _).alloc (by simp; omega) _
      have hsz3 : w3.heap.size = w.heap.size + 1 + 1 + 1 := by rw [hw3]; simp
      have hx1 : w3.heap[w.heap.size]? = some (.cells #[.int .i64 4, .int .i64 n, .string s, .slice a ks.length cap] 24 (0, 0)) := by rw [hw3]; exact ((Below.heap_alloc _ _ _ (by simp; omega)).trans (Below.heap_alloc _ _ _ (by simp))).trans (World.alloc_heap_new _ _)
      have hx3 : w3.heap[w.heap.size + 1 + 1]? = some (.cells #[.int .i64 4, .int .i64 n, .string s, .slice none 0 0] 24 (0, 0)) := by rw [hw3]; simpa using World.alloc_heap_new ((w.alloc (.cells #[.int .i64 4, .int .i64 n, .string s, .slice a ks.length cap] 24)).alloc (.cells #[.int .i64 0, .int .i64 0, .string (ByteArray.mk #[]), .slice none 0 0] 24)) (.cells #[.int .i64 4, .int .i64 n, .string s, .slice none 0 0] 24)
      have hx2 : w3.heap[w.heap.size + 1]? = some (.cells #[.int .i64 0, .int .i64 0, .string (ByteArray.mk #[]), .slice none 0 0] 24 (0, 0)) := by rw [hw3]; refine (Below.heap_alloc _ _ _ (by simp)).trans ?_; simpa using World.alloc_heap_new (w.alloc (.cells #[.int .i64 4, .int .i64 n, .string s, .slice a ks.length cap] 24)) (.cells #[.int .i64 0, .int .i64 0, .string (ByteArray.mk #[]), .slice none 0 0] 24)
      have hAf3 : After w3 (w.heap.size + 1 + 1) 4 n s w3 := ⟨rfl, rfl, rfl, Nat.le_refl _, fun _ _ _ => rfl, ⟨_, hx3⟩, by omega⟩
      have HH := Lib.hid (And.intro (And.intro hsz3 hs) (And.intro hB3 (And.intro hAf3 (And.intro hx1 hx3))))
      have HX2 := Lib.hid hx2
      have HW3 := Lib.hid hw3
      clear hs hw3 hB3 hsz3 hx1 hx2 hx3 hAf3
      go_enter Try.func33, Try.ntmps33
      go_wp2_with fail
      rw [← HW3.out]
      go_loopw [4] (fun i wr => ∃ c : Nat, i = .int .i64 c ∧ c ≤ ks.length ∧ ∃ aX cX, After w3 (w.heap.size + 1 + 1) 4 n s wr ∧ wr.heap[w.heap.size + 1 + 1]? = some (.cells #[.int .i64 4, .int .i64 n, .string s, .slice aX c cX] 24 (0, 0)) ∧ OwnTl wr w3.heap.size (w.heap.size + 1 + 1) (.slice aX c cX) (((ks.take c).map Tm.er))) (fun i _ => ks.length - (intOf i).toNat)
      case atStart => exact ⟨0, rfl, Nat.zero_le _, none, 0, HH.out.2.2.1, HH.out.2.2.2.2, by rw [List.take_zero]; exact OwnTl.nil _ _ _⟩
      case round =>
        obtain ⟨c, rfl, hcl, aX, cX, hAf, hbB, hown⟩ := hrel
        have hw3 : Below w.heap.size w w3 := HH.out.2.1
        have hsz3 : w3.heap.size = w.heap.size + 1 + 1 + 1 := HH.out.1.1
        have hwr : Below w.heap.size w wr := hw3.trans (hAf.isBelow (by omega))
        have htb := (hAf.same w.heap.size (by omega) (by omega)).trans HH.out.2.2.2.1
        obtain ⟨t0, t1, t2, t3⟩ := tbox_cells htb
        have hltw : w.heap.size < wr.heap.size := by have := hAf.size; omega
        by_cases hlt : c < ks.length
        · obtain ⟨b, o, k1, n1, s1, a1, l1, c1, T1, rfl, hbn, e0, e1, e2, e3, hT1, ht1⟩ := IsTm.kid hv c hlt
          have q0 := (hwr.cell (p := ⟨b, o + c * 4, none⟩) hbn).trans e0
          have q1 := (hwr.cell (p := ⟨b, o + c * 4 + 1, none⟩) hbn).trans e1
          have q2 := (hwr.cell (p := ⟨b, o + c * 4 + 2, none⟩) hbn).trans e2
          have q3 := (hwr.cell (p := ⟨b, o + c * 4 + 3, none⟩) hbn).trans e3
          have hsz1 := Tm.size_le_sizes (List.mem_of_getElem? hT1)
          have hs0 := HH.out.1.2
          have p0 := (hw3.cell (p := ⟨b, o + c * 4, none⟩) hbn).trans e0
          have p1 := (hw3.cell (p := ⟨b, o + c * 4 + 1, none⟩) hbn).trans e1
          have p2 := (hw3.cell (p := ⟨b, o + c * 4 + 2, none⟩) hbn).trans e2
          have p3 := (hw3.cell (p := ⟨b, o + c * 4 + 3, none⟩) hbn).trans e3
          obtain ⟨u0, u1, u2, u3⟩ := tbox_cells HH.out.2.2.2.1
          have hnew : ∀ w', Below wr.heap.size wr w' → Calls Try.prog 33 #[.agg #[.int .i64 k1, .int .i64 n1, .string s1, .slice a1 l1 c1]] w' fun e w4 => ∃ k4 n4 s4 a4 l4 c4, e = .returned (.agg #[.int .i64 k4, .int .i64 n4, .string s4, .slice a4 l4 c4]) ∧ TmIn (fun b => wr.heap.size ≤ b ∧ b < w4.heap.size) w4 (.agg #[.int .i64 k4, .int .i64 n4, .string s4, .slice a4 l4 c4]) (T1.er) ∧ Below wr.heap.size wr w4 := fun w' hb =>
            (ih T1 (List.mem_of_getElem? hT1) _ w' (IsTm.later (hwr.trans (hb.mono hwr.size)) (hwr.trans (hb.mono hwr.size)).size ht1) (by omega)).mono fun e w4 h => by
              obtain ⟨r, rfl, hr, hb4⟩ := h
              obtain ⟨k4, n4, s4, a4, l4, c4, ks4, rfl, -⟩ := hr.form
              exact ⟨k4, n4, s4, a4, l4, c4, rfl, hr.carry (fun _ _ => rfl) (fun b hb' => ⟨Nat.le_trans hb.size hb'.1, hb'.2⟩), hb.trans (hb4.mono hb.size)⟩
          have hsucc : ((ks.take (c + 1)).map Tm.er) = ((ks.take c).map Tm.er) ++ [T1.er] := by
            have e : ks.take (c + 1) = ks.take c ++ [T1] := by rw [List.take_add_one, hT1]; rfl
            rw [e, List.map_append]; rfl
          have hbne : b ≠ w.heap.size + 1 + 1 := by omega
          have HS : ∀ w', After w3 (w.heap.size + 1 + 1) 4 n s w' → w'.cell? ⟨w.heap.size + 1 + 1, 3, none⟩ = some (.slice aX c cX) → (w'.cell? ⟨w.heap.size, 3, none⟩ = some (.slice (some ⟨b, o, none⟩) ks.length cap) ∧ w'.cell? ⟨b, o + c * 4, none⟩ = some (.int .i64 k1) ∧ w'.cell? ⟨b, o + c * 4 + 1, none⟩ = some (.int .i64 n1) ∧ w'.cell? ⟨b, o + c * 4 + 2, none⟩ = some (.string s1) ∧ w'.cell? ⟨b, o + c * 4 + 3, none⟩ = some (.slice a1 l1 c1) ∧ w'.cell? ⟨w.heap.size + 1 + 1, 3, none⟩ = some (.slice aX c cX) ∧ w'.frozen? ⟨w.heap.size + 1 + 1, 3, none⟩ = false ∧ After w3 (w.heap.size + 1 + 1) 4 n s w') := fun w' h hc =>
            ⟨h.cell u3 (by omega), h.cell p0 hbne, h.cell p1 hbne, h.cell p2 hbne, h.cell p3 hbne, hc, h.some.2, h⟩
          have hAfB : ∀ w', Below wr.heap.size wr w' → After w3 (w.heap.size + 1 + 1) 4 n s w' := fun w' h => hAf.below h
          have hll : (((ks.take c).map Tm.er)).length + [T1.er].length ≤ 1000000000000 := by rw [List.length_map, List.length_take]; simp; omega
          have hown' : ∀ (v : Value) w', v = .slice aX c cX → Below wr.heap.size wr w' → OwnTl w' w3.heap.size (w.heap.size + 1 + 1) v (((ks.take c).map Tm.er)) := fun v w' e hb => by
            rw [e]
            exact hown.kept hb.size (fun b' hb' _ => hb.block b' hb') (fun e' => by have := hown.lt _ e'; omega)
          have hlit : ∀ (v : Value) w4 k4 n4 s4 a4 l4 c4, v = .slice aX c cX → Below wr.heap.size wr w4 → TmIn (fun b => wr.heap.size ≤ b ∧ b < w4.heap.size) w4 (.agg #[.int .i64 k4, .int .i64 n4, .string s4, .slice a4 l4 c4]) (T1.er) → TsIn (PvL (w4.alloc (.cells #[.int .i64 k4, .int .i64 n4, .string s4, .slice a4 l4 c4] 24)) w3.heap.size (w.heap.size + 1 + 1) v) (w4.alloc (.cells #[.int .i64 k4, .int .i64 n4, .string s4, .slice a4 l4 c4] 24)) (.slice (some ⟨w4.heap.size, 0, none⟩) 1 1) [T1.er] := fun v w4 k4 n4 s4 a4 l4 c4 e hb hT => by
            have h3 := hAf.size
            have h4 := hb.size
            have hlt2 := hown.lt2
            have hblk : (w4.alloc (.cells #[.int .i64 k4, .int .i64 n4, .string s4, .slice a4 l4 c4] 24)).heap[w4.heap.size]? = some (.cells #[.int .i64 k4, .int .i64 n4, .string s4, .slice a4 l4 c4] 24 (0, 0)) := World.alloc_heap_new _ _
            obtain ⟨c0', c1', c2', c3'⟩ := tbox_cells hblk
            refine ⟨some ⟨w4.heap.size, 0, none⟩, 1, rfl, by simp, by unfold maxLen; omega, (fun h => by cases h), fun i hi => ?_⟩
            have hi' : i = 0 := by simp at hi; omega
            subst hi'
            exact ⟨w4.heap.size, 0, k4, n4, s4, a4, l4, c4, rfl, ⟨by simp, fun e' => by have := hlt2 _ (by rw [← e]; exact e'); omega, by omega, by omega⟩, c0', c1', c2', c3', hT.carry (fun b' hb' => Below.heap_alloc _ _ _ hb'.2) (fun b' hb' => ⟨by have := hb'.2; simp; omega, fun e' => by have := hlt2 _ (by rw [← e]; exact e'); have := hb'.1; omega, by have := hb'.1; omega, by have := hb'.1; omega⟩)⟩
          have hsz4 : ∀ w' (o' : Obj), Below wr.heap.size wr w' → w3.heap.size ≤ (w'.alloc o').heap.size ∧ w.heap.size + 1 + 1 < (w'.alloc o').heap.size := fun w' o' hb => by have h1 := hb.size; have h2 := hAf.size; simp; omega
          have hal : ∀ w' (o' : Obj), Below wr.heap.size wr w' → Below wr.heap.size wr (w'.alloc o') := fun w' o' h => h.alloc h.size o'
          have hlt3 : ∀ v : Value, v = .slice aX c cX → ∀ b', v.ownBlock = some b' → w3.heap.size ≤ b' := fun v e b' e' => hown.lt b' (by rw [← e]; exact e')
          have hdr : Below wr.heap.size wr wr.drew := (Below.refl _ _).drew
          have hcB : ∀ w', Below wr.heap.size wr w' → w'.cell? ⟨w.heap.size + 1 + 1, 3, none⟩ = some (.slice aX c cX) := fun w' h => (tbox_cells (tbox_below hbB h)).2.2.2
          have HSB := fun w' (h : Below wr.heap.size wr w') => HS w' (hAf.below h) (hcB w' h)
          have hgB := fun wx wB (h : Below wr.heap.size wr wx) (hg : wx.grownBy wB (Value.slice aX c cX).ownBlock) => HS wB (After.grown (hAf.below h) hg (hlt3 _ rfl)) ((World.cell?_of_block (a := ⟨w.heap.size + 1 + 1, 3, none⟩) (hg.block (w.heap.size + 1 + 1) (by have h1 := h.size; have h2 := hAf.size; omega) (fun e => by have := hlt3 _ rfl _ e.symm; omega))).trans (hcB wx h))
          have HA := Lib.hid (And.intro hAf (And.intro hsucc (And.intro hsz3 hbB)))
          have hlenX : (((ks.take c).map Tm.er) ++ [T1.er]).length = c + 1 := by rw [List.length_append, List.length_map, List.length_take]; simp; omega
          have HLX := Lib.hid hlenX
          clear hcB hsz3 hsucc hbB hown hAf hlenX e0 e1 e2 e3 p0 p1 p2 p3 u0 u1 u2 u3 t0 t1 t2 hsz1 hs0 hT1 ht1 ih hv htb hbne q0 q1 q2 q3
          go_wp2_with fail
          clear t3
          refine wp_region_noPanic ?_
          refine wp_region_last (S := (fun w' => w'.cell? ⟨w.heap.size, 3, none⟩ = some (.slice (some ⟨b, o, none⟩) ks.length cap) ∧ w'.cell? ⟨b, o + c * 4, none⟩ = some (.int .i64 k1) ∧ w'.cell? ⟨b, o + c * 4 + 1, none⟩ = some (.int .i64 n1) ∧ w'.cell? ⟨b, o + c * 4 + 2, none⟩ = some (.string s1) ∧ w'.cell? ⟨b, o + c * 4 + 3, none⟩ = some (.slice a1 l1 c1) ∧ w'.cell? ⟨w.heap.size + 1 + 1, 3, none⟩ = some (.slice aX c cX) ∧ w'.frozen? ⟨w.heap.size + 1 + 1, 3, none⟩ = false ∧ After w3 (w.heap.size + 1 + 1) 4 n s w')) 11 (by kernel_rfl) (by kernel_rfl) (HSB _ hdr) (fun hHeld => ?_)
          simp only [List.take_succ_cons, List.take_zero]
          refine wpAnyH_take (i := 0) (v := ?vvj_0) rfl (by kernel_rfl) (by kernel_rfl) (by kernel_rfl) (fun _ _ _ h => h) (Or.inl ⟨by rfl, ?hyj_0⟩) hHeld ?restj_0
          case hyj_0 =>
            intro w0 hSw
            (try dsimp only at hSw)
            go_simp
            try (with_reducible rfl)
          try simp only [Act.put, List.setIfInBounds_toArray, List.set_cons_zero, List.set_cons_succ]
          refine wpAnyH_take (i := 1) (v := ?vvj_1) rfl (by kernel_rfl) (by kernel_rfl) (by kernel_rfl) (fun _ _ _ h => h) (Or.inl ⟨by rfl, ?hyj_1⟩) hHeld ?restj_1
          case hyj_1 =>
            intro w0 hSw
            (try dsimp only at hSw)
            go_simp
            try (with_reducible rfl)
          try simp only [Act.put, List.setIfInBounds_toArray, List.set_cons_zero, List.set_cons_succ]
          refine wpAnyH_take (i := 2) (v := ?vvj_2) rfl (by kernel_rfl) (by kernel_rfl) (by kernel_rfl) (fun _ _ _ h => h) (Or.inl ⟨by rfl, ?hyj_2⟩) hHeld ?restj_2
          case hyj_2 =>
            intro w0 hSw
            (try dsimp only at hSw)
            go_simp
            try (with_reducible rfl)
          try simp only [Act.put, List.setIfInBounds_toArray, List.set_cons_zero, List.set_cons_succ]
          refine wpAnyH_take (i := 3) (v := ?vvj_3) rfl (by kernel_rfl) (by kernel_rfl) (by kernel_rfl) (fun _ _ _ h => h) (Or.inl ⟨by rfl, ?hyj_3⟩) hHeld ?restj_3
          case hyj_3 =>
            intro w0 hSw
            (try dsimp only at hSw)
            go_simp
            try (with_reducible rfl)
          try simp only [Act.put, List.setIfInBounds_toArray, List.set_cons_zero, List.set_cons_succ]
          refine wpAnyH_take (i := 4) (v := ?vvj_4) rfl (by kernel_rfl) (by kernel_rfl) (by kernel_rfl) (fun _ _ _ h => h) (Or.inl ⟨by rfl, ?hyj_4⟩) hHeld ?restj_4
          case hyj_4 =>
            intro w0 hSw
            (try dsimp only at hSw)
            go_simp
            try (with_reducible rfl)
          try simp only [Act.put, List.setIfInBounds_toArray, List.set_cons_zero, List.set_cons_succ]
          refine wpAnyH_take (i := 5) (v := ?vvj_5) rfl (by kernel_rfl) (by kernel_rfl) (by kernel_rfl) (fun _ _ _ h => h) (Or.inl ⟨by rfl, ?hyj_5⟩) hHeld ?restj_5
          case hyj_5 =>
            intro w0 hSw
            (try dsimp only at hSw)
            go_simp
            try (with_reducible rfl)
          try simp only [Act.put, List.setIfInBounds_toArray, List.set_cons_zero, List.set_cons_succ]
          refine wpAnyH_take (i := 6) (v := ?vvj_6) rfl (by kernel_rfl) (by kernel_rfl) (by kernel_rfl) (fun _ _ _ h => h) (Or.inl ⟨by rfl, ?hyj_6⟩) hHeld ?restj_6
          case hyj_6 =>
            intro w0 hSw
            (try dsimp only at hSw)
            go_simp
            try (with_reducible rfl)
          try simp only [Act.put, List.setIfInBounds_toArray, List.set_cons_zero, List.set_cons_succ]
          refine wpAnyH_ready (rs := [7]) (by kernel_rfl) (by simp) ?_
          refine AllReadyH.cons rfl (fun K hK => ?_) AllReadyH.nil
          go_simp
          with_reducible refine (hnew _ hdr).mono ?_
          rintro e w4 ⟨k4, n4, s4, a4, l4, c4, rfl, hT4, hb4⟩
          go_wp2_with fail
          refine hK.out _ _ (HSB _ hb4) (fun hHeld2 => ?_)
          clear hK K hHeld
          try simp only [Act.put, List.setIfInBounds_toArray, List.set_cons_zero, List.set_cons_succ]
          refine wpAnyH_ready (rs := [8]) (by kernel_rfl) (by simp) ?_
          refine AllReadyH.cons rfl (fun K hK => ?_) AllReadyH.nil
          go_simp
          refine hK.out _ _ (HSB _ (hal _ _ hb4)) (fun hHeld3 => ?_)
          clear hK K hHeld2
          try simp only [Act.put, List.setIfInBounds_toArray, List.set_cons_zero, List.set_cons_succ]
          refine wpAnyH_ready (rs := [9]) (by kernel_rfl) (by simp) ?_
          refine AllReadyH.cons rfl (fun K hK => ?_) AllReadyH.nil
          refine step_append_tl rfl (.tmp 34) (.tmp 41) rfl w3.heap.size (w.heap.size + 1 + 1) (.slice aX c cX) _ (((ks.take c).map Tm.er)) [T1.er] rfl rfl (hown' _ _ rfl (hal _ _ hb4)) (hlit _ _ _ _ _ _ _ _ rfl hb4 hT4) hll (hsz4 _ _ hb4).1 (hsz4 _ _ hb4).2 ?_
          intro v2 wB ho2 hg2 hat2
          obtain ⟨a2', c2', e2⟩ := ho2.form
          rw [HLX.out] at e2
          subst e2
          have hSB := hgB _ wB (hal _ _ hb4) hg2
          refine hK.out _ _ hSB (fun hHeld4 => ?_)
          clear hK K hHeld3
          try simp only [Act.put, List.setIfInBounds_toArray, List.set_cons_zero, List.set_cons_succ]
          refine wpAnyH_take (i := 10) (v := ?vvj_11) rfl (by kernel_rfl) (by kernel_rfl) (by kernel_rfl) (fun _ _ _ h => h) (Or.inl ⟨by rfl, ?hyj_11⟩) hHeld4 ?restj_11
          case hyj_11 =>
            intro w0 hSw
            (try dsimp only at hSw)
            go_simp
            try (with_reducible rfl)
          try simp only [Act.put, List.setIfInBounds_toArray, List.set_cons_zero, List.set_cons_succ]
          refine wpAnyH_done (by kernel_rfl) ?_ _
          refine last_of_list rfl ?_
          clear hHeld4
          have hAf5 := hSB.2.2.2.2.2.2.2
          obtain ⟨-, -, -, -, -, r5, r6, -⟩ := hSB
          go_wp2_with fail
          refine NoPanic.normal ?_
          all_goals
            have hAf6 : After w3 (w.heap.size + 1 + 1) 4 n s (wB.setCell ⟨w.heap.size + 1 + 1, 3, none⟩ (.slice a2' (c + 1) c2')) := hAf5.set _
            have hz6 : (wB.setCell ⟨w.heap.size + 1 + 1, 3, none⟩ (.slice a2' (c + 1) c2')).heap[w.heap.size + 1 + 1]? = some (.cells #[.int .i64 4, .int .i64 n, .string s, .slice a2' (c + 1) c2'] 24 (0, 0)) := by
              obtain ⟨v0, hv0⟩ := hAf6.box
              rw [hv0, set_inv hv0]
            have ho6 : OwnTl (wB.setCell ⟨w.heap.size + 1 + 1, 3, none⟩ (.slice a2' (c + 1) c2')) w3.heap.size (w.heap.size + 1 + 1) (.slice a2' (c + 1) c2') (((ks.take c).map Tm.er) ++ [T1.er]) :=
              ho2.kept (by simp) (fun b' _ hb' => Below.heap_setCell wB ⟨w.heap.size + 1 + 1, 3, none⟩ _ b' hb') (fun e' => by have := ho2.lt _ e'; have := HA.out.2.2.1; omega)
            rw [← HA.out.2.1] at ho6
            have H6 := Lib.hid (And.intro hAf6 (And.intro hz6 ho6))
            clear hAf6 hz6 ho6 ho2 hg2 hat2 hown' hlit hnew HS HSB hgB hAf5 r5 r6 hAfB hsz4 hal hlt3 hdr hb4 hT4
            generalize hW6 : (wB.setCell ⟨w.heap.size + 1 + 1, 3, none⟩ (.slice a2' (c + 1) c2')) = w6 at H6 ⊢
            clear hW6
            go_wp2_with fail
            go_roundw
            case rel => exact ⟨c + 1, by simp, hlt, a2', c2', H6.out.1, H6.out.2.1, H6.out.2.2⟩
            case measure => simp [intOf]; omega
        · have hce : c = ks.length := by omega
          subst hce
          rw [List.take_length] at hown
          have y2 := (hAf.same (w.heap.size + 1) (by omega) (by omega)).trans HX2.out
          obtain ⟨x0, x1, x2, x3⟩ := tbox_cells y2
          have xf : ∀ j, wr.frozen? ⟨w.heap.size + 1, j, none⟩ = false := fun j => by simp [World.frozen?, y2]
          obtain ⟨z0, z1, z2, z3⟩ := tbox_cells hbB
          have HE := Lib.hid (And.intro hown (And.intro hwr (And.intro y2 (And.intro hsz3 hAf.size))))
          clear hown hwr y2 hsz3 hAf hbB ih hv htb
          go_wp2_with fail
          obtain ⟨hown, hwr, y2, hsz3, hsz⟩ := HE.out
          have hb5 := four_block y2 (.int .i64 4) (.int .i64 n) (.string s) (.slice aX ks.length cX)
          have ho5 : ∀ b, w3.heap.size ≤ b → ((((wr.setCell ⟨w.heap.size + 1, 0, none⟩ (.int .i64 4)).setCell ⟨w.heap.size + 1, 1, none⟩ (.int .i64 n)).setCell ⟨w.heap.size + 1, 2, none⟩ (.string s)).setCell ⟨w.heap.size + 1, 3, none⟩ (.slice aX ks.length cX)).heap[b]? = wr.heap[b]? := fun b hb => by
            rw [Below.heap_setCell _ _ _ _ (by simp; omega), Below.heap_setCell _ _ _ _ (by simp; omega), Below.heap_setCell _ _ _ _ (by simp; omega), Below.heap_setCell _ _ _ _ (by simp; omega)]
          have hB5 := (((hwr.setCell (p := ⟨w.heap.size + 1, 0, none⟩) (Nat.le_succ _) (.int .i64 4)).setCell (p := ⟨w.heap.size + 1, 1, none⟩) (Nat.le_succ _) (.int .i64 n)).setCell (p := ⟨w.heap.size + 1, 2, none⟩) (Nat.le_succ _) (.string s)).setCell (p := ⟨w.heap.size + 1, 3, none⟩) (Nat.le_succ _) (.slice aX ks.length cX)
          have hs5 : ((((wr.setCell ⟨w.heap.size + 1, 0, none⟩ (.int .i64 4)).setCell ⟨w.heap.size + 1, 1, none⟩ (.int .i64 n)).setCell ⟨w.heap.size + 1, 2, none⟩ (.string s)).setCell ⟨w.heap.size + 1, 3, none⟩ (.slice aX ks.length cX)).heap.size = wr.heap.size := by simp
          generalize ((((wr.setCell ⟨w.heap.size + 1, 0, none⟩ (.int .i64 4)).setCell ⟨w.heap.size + 1, 1, none⟩ (.int .i64 n)).setCell ⟨w.heap.size + 1, 2, none⟩ (.string s)).setCell ⟨w.heap.size + 1, 3, none⟩ (.slice aX ks.length cX)) = w5 at hb5 ho5 hB5 hs5 ⊢
          obtain ⟨f0, f1, f2, f3⟩ := tbox_cells hb5
          refine bodyPost_ret (v := .agg #[.int .i64 4, .int .i64 n, .string s, .slice aX ks.length cX]) (by simp [results, Try.f33, go_sem, f0, f1, f2, f3]) rfl ?_
          exact ⟨_, rfl, (hown.ts.carry (q := fun b => w.heap.size ≤ b ∧ b < w5.heap.size) (fun b hb => ho5 b hb.1) (fun b hb => ⟨by have := hb.1; omega, by rw [hs5]; exact hb.2⟩)).term hk hn hs', hB5⟩

    · have hkb : (k == 4) = false := by simpa using hk4
      obtain ⟨w3, hw3⟩ : ∃ w3, w3 = (((w.alloc (.cells #[.int .i64 k, .int .i64 n, .string s, .slice a ks.length cap] 24)).alloc (.cells #[.int .i64 0, .int .i64 0, .string (ByteArray.mk #[]), .slice none 0 0] 24)).alloc (.cells #[.int .i64 k, .int .i64 n, .string s, .slice none 0 0] 24)) := ⟨_, rfl⟩
      have hB3 : Below w.heap.size w w3 := by rw [hw3]; exact (((Below.refl _ w).alloc (Nat.le_refl _) _).alloc (by simp) _).alloc (by simp; omega) _
      have hsz3 : w3.heap.size = w.heap.size + 1 + 1 + 1 := by rw [hw3]; simp
      have hx1 : w3.heap[w.heap.size]? = some (.cells #[.int .i64 k, .int .i64 n, .string s, .slice a ks.length cap] 24 (0, 0)) := by rw [hw3]; exact ((Below.heap_alloc _ _ _ (by simp; omega)).trans (Below.heap_alloc _ _ _ (by simp))).trans (World.alloc_heap_new _ _)
      have hx3 : w3.heap[w.heap.size + 1 + 1]? = some (.cells #[.int .i64 k, .int .i64 n, .string s, .slice none 0 0] 24 (0, 0)) := by rw [hw3]; simpa using World.alloc_heap_new ((w.alloc (.cells #[.int .i64 k, .int .i64 n, .string s, .slice a ks.length cap] 24)).alloc (.cells #[.int .i64 0, .int .i64 0, .string (ByteArray.mk #[]), .slice none 0 0] 24)) (.cells #[.int .i64 k, .int .i64 n, .string s, .slice none 0 0] 24)
      have hx2 : w3.heap[w.heap.size + 1]? = some (.cells #[.int .i64 0, .int .i64 0, .string (ByteArray.mk #[]), .slice none 0 0] 24 (0, 0)) := by rw [hw3]; refine (Below.heap_alloc _ _ _ (by simp)).trans ?_; simpa using World.alloc_heap_new (w.alloc (.cells #[.int .i64 k, .int .i64 n, .string s, .slice a ks.length cap] 24)) (.cells #[.int .i64 0, .int .i64 0, .string (ByteArray.mk #[]), .slice none 0 0] 24)
      have hAf3 : After w3 (w.heap.size + 1 + 1) k n s w3 := ⟨rfl, rfl, rfl, Nat.le_refl _, fun _ _ _ => rfl, ⟨_, hx3⟩, by omega⟩
      have HH := Lib.hid (And.intro (And.intro hsz3 hs) (And.intro hB3 (And.intro hAf3 (And.intro hx1 hx3))))
      have HX2 := Lib.hid hx2
      have HW3 := Lib.hid hw3
      clear hs hw3 hB3 hsz3 hx1 hx2 hx3 hAf3
      go_enter Try.func33, Try.ntmps33
      go_wp2_with fail
      rw [← HW3.out]
      go_loopw [4] (fun i wr => ∃ c : Nat, i = .int .i64 c ∧ c ≤ ks.length ∧ ∃ aX cX, After w3 (w.heap.size + 1 + 1) k n s wr ∧ wr.heap[w.heap.size + 1 + 1]? = some (.cells #[.int .i64 k, .int .i64 n, .string s, .slice aX c cX] 24 (0, 0)) ∧ OwnTl wr w3.heap.size (w.heap.size + 1 + 1) (.slice aX c cX) (((ks.take c).map Tm.er))) (fun i _ => ks.length - (intOf i).toNat)
      case atStart => exact ⟨0, rfl, Nat.zero_le _, none, 0, HH.out.2.2.1, HH.out.2.2.2.2, by rw [List.take_zero]; exact OwnTl.nil _ _ _⟩
      case round =>
        obtain ⟨c, rfl, hcl, aX, cX, hAf, hbB, hown⟩ := hrel
        have hw3 : Below w.heap.size w w3 := HH.out.2.1
        have hsz3 : w3.heap.size = w.heap.size + 1 + 1 + 1 := HH.out.1.1
        have hwr : Below w.heap.size w wr := hw3.trans (hAf.isBelow (by omega))
        have htb := (hAf.same w.heap.size (by omega) (by omega)).trans HH.out.2.2.2.1
        obtain ⟨t0, t1, t2, t3⟩ := tbox_cells htb
        have hltw : w.heap.size < wr.heap.size := by have := hAf.size; omega
        by_cases hlt : c < ks.length
        · obtain ⟨b, o, k1, n1, s1, a1, l1, c1, T1, rfl, hbn, e0, e1, e2, e3, hT1, ht1⟩ := IsTm.kid hv c hlt
          have q0 := (hwr.cell (p := ⟨b, o + c * 4, none⟩) hbn).trans e0
          have q1 := (hwr.cell (p := ⟨b, o + c * 4 + 1, none⟩) hbn).trans e1
          have q2 := (hwr.cell (p := ⟨b, o + c * 4 + 2, none⟩) hbn).trans e2
          have q3 := (hwr.cell (p := ⟨b, o + c * 4 + 3, none⟩) hbn).trans e3
          have hsz1 := Tm.size_le_sizes (List.mem_of_getElem? hT1)
          have hs0 := HH.out.1.2
          have p0 := (hw3.cell (p := ⟨b, o + c * 4, none⟩) hbn).trans e0
          have p1 := (hw3.cell (p := ⟨b, o + c * 4 + 1, none⟩) hbn).trans e1
          have p2 := (hw3.cell (p := ⟨b, o + c * 4 + 2, none⟩) hbn).trans e2
          have p3 := (hw3.cell (p := ⟨b, o + c * 4 + 3, none⟩) hbn).trans e3
          obtain ⟨u0, u1, u2, u3⟩ := tbox_cells HH.out.2.2.2.1
          have hnew : ∀ w', Below wr.heap.size wr w' → Calls Try.prog 33 #[.agg #[.int .i64 k1, .int .i64 n1, .string s1, .slice a1 l1 c1]] w' fun e w4 => ∃ k4 n4 s4 a4 l4 c4, e = .returned (.agg #[.int .i64 k4, .int .i64 n4, .string s4, .slice a4 l4 c4]) ∧ TmIn (fun b => wr.heap.size ≤ b ∧ b < w4.heap.size) w4 (.agg #[.int .i64 k4, .int .i64 n4, .string s4, .slice a4 l4 c4]) (T1.er) ∧ Below wr.heap.size wr w4 := fun w' hb =>
            (ih T1 (List.mem_of_getElem? hT1) _ w' (IsTm.later (hwr.trans (hb.mono hwr.size)) (hwr.trans (hb.mono hwr.size)).size ht1) (by omega)).mono fun e w4 h => by
              obtain ⟨r, rfl, hr, hb4⟩ := h
              obtain ⟨k4, n4, s4, a4, l4, c4, ks4, rfl, -⟩ := hr.form
              exact ⟨k4, n4, s4, a4, l4, c4, rfl, hr.carry (fun _ _ => rfl) (fun b hb' => ⟨Nat.le_trans hb.size hb'.1, hb'.2⟩), hb.trans (hb4.mono hb.size)⟩
          have hsucc : ((ks.take (c + 1)).map Tm.er) = ((ks.take c).map Tm.er) ++ [T1.er] := by
            have e : ks.take (c + 1) = ks.take c ++ [T1] := by rw [List.take_add_one, hT1]; rfl
            rw [e, List.map_append]; rfl
          have hbne : b ≠ w.heap.size + 1 + 1 := by omega
          have HS : ∀ w', After w3 (w.heap.size + 1 + 1) k n s w' → w'.cell? ⟨w.heap.size + 1 + 1, 3, none⟩ = some (.slice aX c cX) → (w'.cell? ⟨w.heap.size, 3, none⟩ = some (.slice (some ⟨b, o, none⟩) ks.length cap) ∧ w'.cell? ⟨b, o + c * 4, none⟩ = some (.int .i64 k1) ∧ w'.cell? ⟨b, o + c * 4 + 1, none⟩ = some (.int .i64 n1) ∧ w'.cell? ⟨b, o + c * 4 + 2, none⟩ = some (.string s1) ∧ w'.cell? ⟨b, o + c * 4 + 3, none⟩ = some (.slice a1 l1 c1) ∧ w'.cell? ⟨w.heap.size + 1 + 1, 3, none⟩ = some (.slice aX c cX) ∧ w'.frozen? ⟨w.heap.size + 1 + 1, 3, none⟩ = false ∧ After w3 (w.heap.size + 1 + 1) k n s w') := fun w' h hc =>
            ⟨h.cell u3 (by omega), h.cell p0 hbne, h.cell p1 hbne, h.cell p2 hbne, h.cell p3 hbne, hc, h.some.2, h⟩
          have hAfB : ∀ w', Below wr.heap.size wr w' → After w3 (w.heap.size + 1 + 1) k n s w' := fun w' h => hAf.below h
          have hll : (((ks.take c).map Tm.er)).length + [T1.er].length ≤ 1000000000000 := by rw [List.length_map, List.length_take]; simp; omega
          have hown' : ∀ (v : Value) w', v = .slice aX c cX → Below wr.heap.size wr w' → OwnTl w' w3.heap.size (w.heap.size + 1 + 1) v (((ks.take c).map Tm.er)) := fun v w' e hb => by
            rw [e]
            exact hown.kept hb.size (fun b' hb' _ => hb.block b' hb') (fun e' => by have := hown.lt _ e'; omega)
          have hlit : ∀ (v : Value) w4 k4 n4 s4 a4 l4 c4, v = .slice aX c cX → Below wr.heap.size wr w4 → TmIn (fun b => wr.heap.size ≤ b ∧ b < w4.heap.size) w4 (.agg #[.int .i64 k4, .int .i64 n4, .string s4, .slice a4 l4 c4]) (T1.er) → TsIn (PvL (w4.alloc (.cells #[.int .i64 k4, .int .i64 n4, .string s4, .slice a4 l4 c4] 24)) w3.heap.size (w.heap.size + 1 + 1) v) (w4.alloc (.cells #[.int .i64 k4, .int .i64 n4, .string s4, .slice a4 l4 c4] 24)) (.slice (some ⟨w4.heap.size, 0, none⟩) 1 1) [T1.er] := fun v w4 k4 n4 s4 a4 l4 c4 e hb hT => by
            have h3 := hAf.size
            have h4 := hb.size
            have hlt2 := hown.lt2
            have hblk : (w4.alloc (.cells #[.int .i64 k4, .int .i64 n4, .string s4, .slice a4 l4 c4] 24)).heap[w4.heap.size]? = some (.cells #[.int .i64 k4, .int .i64 n4, .string s4, .slice a4 l4 c4] 24 (0, 0)) := World.alloc_heap_new _ _
            obtain ⟨c0', c1', c2', c3'⟩ := tbox_cells hblk
            refine ⟨some ⟨w4.heap.size, 0, none⟩, 1, rfl, by simp, by unfold maxLen; omega, (fun h => by cases h), fun i hi => ?_⟩
            have hi' : i = 0 := by simp at hi; omega
            subst hi'
            exact ⟨w4.heap.size, 0, k4, n4, s4, a4, l4, c4, rfl, ⟨by simp, fun e' => by have := hlt2 _ (by rw [← e]; exact e'); omega, by omega, by omega⟩, c0', c1', c2', c3', hT.carry (fun b' hb' => Below.heap_alloc _ _ _ hb'.2) (fun b' hb' => ⟨by have := hb'.2; simp; omega, fun e' => by have := hlt2 _ (by rw [← e]; exact e'); have := hb'.1; omega, by have := hb'.1; omega, by have := hb'.1; omega⟩)⟩
          have hsz4 : ∀ w' (o' : Obj), Below wr.heap.size wr w' → w3.heap.size ≤ (w'.alloc o').heap.size ∧ w.heap.size + 1 + 1 < (w'.alloc o').heap.size := fun w' o' hb => by have h1 := hb.size; have h2 := hAf.size; simp; omega
          have hal : ∀ w' (o' : Obj), Below wr.heap.size wr w' → Below wr.heap.size wr (w'.alloc o') := fun w' o' h => h.alloc h.size o'
          have hlt3 : ∀ v : Value, v = .slice aX c cX → ∀ b', v.ownBlock = some b' → w3.heap.size ≤ b' := fun v e b' e' => hown.lt b' (by rw [← e]; exact e')
          have hdr : Below wr.heap.size wr wr.drew := (Below.refl _ _).drew
          have hcB : ∀ w', Below wr.heap.size wr w' → w'.cell? ⟨w.heap.size + 1 + 1, 3, none⟩ = some (.slice aX c cX) := fun w' h => (tbox_cells (tbox_below hbB h)).2.2.2
          have HSB := fun w' (h : Below wr.heap.size wr w') => HS w' (hAf.below h) (hcB w' h)
          have hgB := fun wx wB (h : Below wr.heap.size wr wx) (hg : wx.grownBy wB (Value.slice aX c cX).ownBlock) => HS wB (After.grown (hAf.below h) hg (hlt3 _ rfl)) ((World.cell?_of_block (a := ⟨w.heap.size + 1 + 1, 3, none⟩) (hg.block (w.heap.size + 1 + 1) (by have h1 := h.size; have h2 := hAf.size; omega) (fun e => by have := hlt3 _ rfl _ e.symm; omega))).trans (hcB wx h))
          have HA := Lib.hid (And.intro hAf (And.intro hsucc (And.intro hsz3 hbB)))
          have hlenX : (((ks.take c).map Tm.er) ++ [T1.er]).length = c + 1 := by rw [List.length_append, List.length_map, List.length_take]; simp; omega
          have HLX := Lib.hid hlenX
          clear hcB hsz3 hsucc hbB hown hAf hlenX e0 e1 e2 e3 p0 p1 p2 p3 u0 u1 u2 u3 t0 t1 t2 hsz1 hs0 hT1 ht1 ih hv htb hbne q0 q1 q2 q3
          go_wp2_with fail
          clear t3
          refine wp_region_noPanic ?_
          refine wp_region_last (S := (fun w' => w'.cell? ⟨w.heap.size, 3, none⟩ = some (.slice (some ⟨b, o, none⟩) ks.length cap) ∧ w'.cell? ⟨b, o + c * 4, none⟩ = some (.int .i64 k1) ∧ w'.cell? ⟨b, o + c * 4 + 1, none⟩ = some (.int .i64 n1) ∧ w'.cell? ⟨b, o + c * 4 + 2, none⟩ = some (.string s1) ∧ w'.cell? ⟨b, o + c * 4 + 3, none⟩ = some (.slice a1 l1 c1) ∧ w'.cell? ⟨w.heap.size + 1 + 1, 3, none⟩ = some (.slice aX c cX) ∧ w'.frozen? ⟨w.heap.size + 1 + 1, 3, none⟩ = false ∧ After w3 (w.heap.size + 1 + 1) k n s w')) 11 (by kernel_rfl) (by kernel_rfl) (HSB _ hdr) (fun hHeld => ?_)
          simp only [List.take_succ_cons, List.take_zero]
          refine wpAnyH_take (i := 0) (v := ?vvk_0) rfl (by kernel_rfl) (by kernel_rfl) (by kernel_rfl) (fun _ _ _ h => h) (Or.inl ⟨by rfl, ?hyk_0⟩) hHeld ?restk_0
          case hyk_0 =>
            intro w0 hSw
            (try dsimp only at hSw)
            go_simp
            try (with_reducible rfl)
          try simp only [Act.put, List.setIfInBounds_toArray, List.set_cons_zero, List.set_cons_succ]
          refine wpAnyH_take (i := 1) (v := ?vvk_1) rfl (by kernel_rfl) (by kernel_rfl) (by kernel_rfl) (fun _ _ _ h => h) (Or.inl ⟨by rfl, ?hyk_1⟩) hHeld ?restk_1
          case hyk_1 =>
            intro w0 hSw
            (try dsimp only at hSw)
            go_simp
            try (with_reducible rfl)
          try simp only [Act.put, List.setIfInBounds_toArray, List.set_cons_zero, List.set_cons_succ]
          refine wpAnyH_take (i := 2) (v := ?vvk_2) rfl (by kernel_rfl) (by kernel_rfl) (by kernel_rfl) (fun _ _ _ h => h) (Or.inl ⟨by rfl, ?hyk_2⟩) hHeld ?restk_2
          case hyk_2 =>
            intro w0 hSw
            (try dsimp only at hSw)
            go_simp
            try (with_reducible rfl)
          try simp only [Act.put, List.setIfInBounds_toArray, List.set_cons_zero, List.set_cons_succ]
          refine wpAnyH_take (i := 3) (v := ?vvk_3) rfl (by kernel_rfl) (by kernel_rfl) (by kernel_rfl) (fun _ _ _ h => h) (Or.inl ⟨by rfl, ?hyk_3⟩) hHeld ?restk_3
          case hyk_3 =>
            intro w0 hSw
            (try dsimp only at hSw)
            go_simp
            try (with_reducible rfl)
          try simp only [Act.put, List.setIfInBounds_toArray, List.set_cons_zero, List.set_cons_succ]
          refine wpAnyH_take (i := 4) (v := ?vvk_4) rfl (by kernel_rfl) (by kernel_rfl) (by kernel_rfl) (fun _ _ _ h => h) (Or.inl ⟨by rfl, ?hyk_4⟩) hHeld ?restk_4
          case hyk_4 =>
            intro w0 hSw
            (try dsimp only at hSw)
            go_simp
            try (with_reducible rfl)
          try simp only [Act.put, List.setIfInBounds_toArray, List.set_cons_zero, List.set_cons_succ]
          refine wpAnyH_take (i := 5) (v := ?vvk_5) rfl (by kernel_rfl) (by kernel_rfl) (by kernel_rfl) (fun _ _ _ h => h) (Or.inl ⟨by rfl, ?hyk_5⟩) hHeld ?restk_5
          case hyk_5 =>
            intro w0 hSw
            (try dsimp only at hSw)
            go_simp
            try (with_reducible rfl)
          try simp only [Act.put, List.setIfInBounds_toArray, List.set_cons_zero, List.set_cons_succ]
          refine wpAnyH_take (i := 6) (v := ?vvk_6) rfl (by kernel_rfl) (by kernel_rfl) (by kernel_rfl) (fun _ _ _ h => h) (Or.inl ⟨by rfl, ?hyk_6⟩) hHeld ?restk_6
          case hyk_6 =>
            intro w0 hSw
            (try dsimp only at hSw)
            go_simp
            try (with_reducible rfl)
          try simp only [Act.put, List.setIfInBounds_toArray, List.set_cons_zero, List.set_cons_succ]
          refine wpAnyH_ready (rs := [7]) (by kernel_rfl) (by simp) ?_
          refine AllReadyH.cons rfl (fun K hK => ?_) AllReadyH.nil
          go_simp
          with_reducible refine (hnew _ hdr).mono ?_
          rintro e w4 ⟨k4, n4, s4, a4, l4, c4, rfl, hT4, hb4⟩
          go_wp2_with fail
          refine hK.out _ _ (HSB _ hb4) (fun hHeld2 => ?_)
          clear hK K hHeld
          try simp only [Act.put, List.setIfInBounds_toArray, List.set_cons_zero, List.set_cons_succ]
          refine wpAnyH_ready (rs := [8]) (by kernel_rfl) (by simp) ?_
          refine AllReadyH.cons rfl (fun K hK => ?_) AllReadyH.nil
          go_simp
          refine hK.out _ _ (HSB _ (hal _ _ hb4)) (fun hHeld3 => ?_)
          clear hK K hHeld2
          try simp only [Act.put, List.setIfInBounds_toArray, List.set_cons_zero, List.set_cons_succ]
          refine wpAnyH_ready (rs := [9]) (by kernel_rfl) (by simp) ?_
          refine AllReadyH.cons rfl (fun K hK => ?_) AllReadyH.nil
          refine step_append_tl rfl (.tmp 34) (.tmp 41) rfl w3.heap.size (w.heap.size + 1 + 1) (.slice aX c cX) _ (((ks.take c).map Tm.er)) [T1.er] rfl rfl (hown' _ _ rfl (hal _ _ hb4)) (hlit _ _ _ _ _ _ _ _ rfl hb4 hT4) hll (hsz4 _ _ hb4).1 (hsz4 _ _ hb4).2 ?_
          intro v2 wB ho2 hg2 hat2
          obtain ⟨a2', c2', e2⟩ := ho2.form
          rw [HLX.out] at e2
          subst e2
          have hSB := hgB _ wB (hal _ _ hb4) hg2
          refine hK.out _ _ hSB (fun hHeld4 => ?_)
          clear hK K hHeld3
          try simp only [Act.put, List.setIfInBounds_toArray, List.set_cons_zero, List.set_cons_succ]
          refine wpAnyH_take (i := 10) (v := ?vvk_11) rfl (by kernel_rfl) (by kernel_rfl) (by kernel_rfl) (fun _ _ _ h => h) (Or.inl ⟨by rfl, ?hyk_11⟩) hHeld4 ?restk_11
          case hyk_11 =>
            intro w0 hSw
            (try dsimp only at hSw)
            go_simp
            try (with_reducible rfl)
          try simp only [Act.put, List.setIfInBounds_toArray, List.set_cons_zero, List.set_cons_succ]
          refine wpAnyH_done (by kernel_rfl) ?_ _
          refine last_of_list rfl ?_
          clear hHeld4
          have hAf5 := hSB.2.2.2.2.2.2.2
          obtain ⟨-, -, -, -, -, r5, r6, -⟩ := hSB
          go_wp2_with fail
          refine NoPanic.normal ?_
          all_goals
            have hAf6 : After w3 (w.heap.size + 1 + 1) k n s (wB.setCell ⟨w.heap.size + 1 + 1, 3, none⟩ (.slice a2' (c + 1) c2')) := hAf5.set _
            have hz6 : (wB.setCell ⟨w.heap.size + 1 + 1, 3, none⟩ (.slice a2' (c + 1) c2')).heap[w.heap.size + 1 + 1]? = some (.cells #[.int .i64 k, .int .i64 n, .string s, .slice a2' (c + 1) c2'] 24 (0, 0)) := by
              obtain ⟨v0, hv0⟩ := hAf6.box
              rw [hv0, set_inv hv0]
            have ho6 : OwnTl (wB.setCell ⟨w.heap.size + 1 + 1, 3, none⟩ (.slice a2' (c + 1) c2')) w3.heap.size (w.heap.size + 1 + 1) (.slice a2' (c + 1) c2') (((ks.take c).map Tm.er) ++ [T1.er]) :=
              ho2.kept (by simp) (fun b' _ hb' => Below.heap_setCell wB ⟨w.heap.size + 1 + 1, 3, none⟩ _ b' hb') (fun e' => by have := ho2.lt _ e'; have := HA.out.2.2.1; omega)
            rw [← HA.out.2.1] at ho6
            have H6 := Lib.hid (And.intro hAf6 (And.intro hz6 ho6))
            clear hAf6 hz6 ho6 ho2 hg2 hat2 hown' hlit hnew HS HSB hgB hAf5 r5 r6 hAfB hsz4 hal hlt3 hdr hb4 hT4
            generalize hW6 : (wB.setCell ⟨w.heap.size + 1 + 1, 3, none⟩ (.slice a2' (c + 1) c2')) = w6 at H6 ⊢
            clear hW6
            go_wp2_with fail
            go_roundw
            case rel => exact ⟨c + 1, by simp, hlt, a2', c2', H6.out.1, H6.out.2.1, H6.out.2.2⟩
            case measure => simp [intOf]; omega
        · have hce : c = ks.length := by omega
          subst hce
          rw [List.take_length] at hown
          have y2 := (hAf.same (w.heap.size + 1) (by omega) (by omega)).trans HX2.out
          obtain ⟨x0, x1, x2, x3⟩ := tbox_cells y2
          have xf : ∀ j, wr.frozen? ⟨w.heap.size + 1, j, none⟩ = false := fun j => by simp [World.frozen?, y2]
          obtain ⟨z0, z1, z2, z3⟩ := tbox_cells hbB
          have HE := Lib.hid (And.intro hown (And.intro hwr (And.intro y2 (And.intro hsz3 hAf.size))))
          clear hown hwr y2 hsz3 hAf hbB ih hv htb
          go_wp2_with fail
          obtain ⟨hown, hwr, y2, hsz3, hsz⟩ := HE.out
          have hb5 := four_block y2 (.int .i64 k) (.int .i64 n) (.string s) (.slice aX ks.length cX)
          have ho5 : ∀ b, w3.heap.size ≤ b → ((((wr.setCell ⟨w.heap.size + 1, 0, none⟩ (.int .i64 k)).setCell ⟨w.heap.size + 1, 1, none⟩ (.int .i64 n)).setCell ⟨w.heap.size + 1, 2, none⟩ (.string s)).setCell ⟨w.heap.size + 1, 3, none⟩ (.slice aX ks.length cX)).heap[b]? = wr.heap[b]? := fun b hb => by
            rw [Below.heap_setCell _ _ _ _ (by simp; omega), Below.heap_setCell _ _ _ _ (by simp; omega), Below.heap_setCell _ _ _ _ (by simp; omega), Below.heap_setCell _ _ _ _ (by simp; omega)]
          have hB5 := (((hwr.setCell (p := ⟨w.heap.size + 1, 0, none⟩) (Nat.le_succ _) (.int .i64 k)).setCell (p := ⟨w.heap.size + 1, 1, none⟩) (Nat.le_succ _) (.int .i64 n)).setCell (p := ⟨w.heap.size + 1, 2, none⟩) (Nat.le_succ _) (.string s)).setCell (p := ⟨w.heap.size + 1, 3, none⟩) (Nat.le_succ _) (.slice aX ks.length cX)
          have hs5 : ((((wr.setCell ⟨w.heap.size + 1, 0, none⟩ (.int .i64 k)).setCell ⟨w.heap.size + 1, 1, none⟩ (.int .i64 n)).setCell ⟨w.heap.size + 1, 2, none⟩ (.string s)).setCell ⟨w.heap.size + 1, 3, none⟩ (.slice aX ks.length cX)).heap.size = wr.heap.size := by simp
          generalize ((((wr.setCell ⟨w.heap.size + 1, 0, none⟩ (.int .i64 k)).setCell ⟨w.heap.size + 1, 1, none⟩ (.int .i64 n)).setCell ⟨w.heap.size + 1, 2, none⟩ (.string s)).setCell ⟨w.heap.size + 1, 3, none⟩ (.slice aX ks.length cX)) = w5 at hb5 ho5 hB5 hs5 ⊢
          obtain ⟨f0, f1, f2, f3⟩ := tbox_cells hb5
          refine bodyPost_ret (v := .agg #[.int .i64 k, .int .i64 n, .string s, .slice aX ks.length cX]) (by simp [results, Try.f33, go_sem, f0, f1, f2, f3]) rfl ?_
          exact ⟨_, rfl, (hown.ts.carry (q := fun b => w.heap.size ≤ b ∧ b < w5.heap.size) (fun b hb => ho5 b hb.1) (fun b hb => ⟨by have := hb.1; omega, by rw [hs5]; exact hb.2⟩)).term hk hn hs', hB5⟩

end Go.Proofs.Ytnkfjomnpnbidaa
