/-
  The reference's Shift.
-/
import Derived.Test.YtllggpmmcamkmaaRefD
import Derived.Test.YtllggpmmcamkmaaOwnL
import Derived.Test.YtllggpmmcamkmaaSameM
import Derived.Test.YtllggpmmcamkmaaLast
namespace Go.Proofs.Ytllggpmmcamkmaa
open Go.RowKit Go.Shelf
set_option linter.unusedVariables false
set_option linter.unusedSimpArgs false

set_option maxRecDepth 100000 in
set_option maxHeartbeats 4000000 in
theorem rshift_at (d : Int) (T : Tm) : ∀ (v : Value) (w : World), Has w v T → T.size ≤ 1000000000 → Calls Try.prog 24 #[v, .int .i64 d] w (NewTm w (T.shift d)) := by
  induction T using Tm.ind with
  | h k n s ks ih =>
    intro v w hv hs
    obtain ⟨k_, n_, s_, a, len, cap, ks_, rfl, e, rfl, hk, hn, hs', hc, hm, ha⟩ := hv.form
    injection e with e1 e2 e3 e4
    subst e1 e2 e3 e4
    rw [Tm.size_mk] at hs
    have hlen : ks.length ≤ 1000000000 := by have := Tm.length_le_sizes ks; omega
    have hz := zeroTerm
    rw [Tm.shift_mk]
    by_cases h1 : k = 1
    · subst h1
      rw [if_pos rfl]
      obtain ⟨w3, hw3⟩ : ∃ w3, w3 = (((w.alloc (.cells #[.int .i64 1, .int .i64 n, .string s, .slice a ks.length cap] 24)).alloc (.cells #[.int .i64 0, .int .i64 0, .string (ByteArray.mk #[]), .slice none 0 0] 24)).alloc (.cells #[.int .i64 1, .int .i64 (wrap64 (n + d)), .string s, .slice none 0 0] 24)) := ⟨_, rfl⟩
      have hB3 : Below w.heap.size w w3 := by rw [hw3]; exact (((Below.refl _ w).alloc (Nat.le_refl _) _).alloc (by simp) _).alloc (by simp; omega) _
      have hsz3 : w3.heap.size = w.heap.size + 1 + 1 + 1 := by rw [hw3]; simp
      have hx1 : w3.heap[w.heap.size]? = some (.cells #[.int .i64 1, .int .i64 n, .string s, .slice a ks.length cap] 24 (0, 0)) := by rw [hw3]; exact ((Below.heap_alloc _ _ _ (by simp; omega)).trans (Below.heap_alloc _ _ _ (by simp))).trans (World.alloc_heap_new _ _)
      have hx3 : w3.heap[w.heap.size + 1 + 1]? = some (.cells #[.int .i64 1, .int .i64 (wrap64 (n + d)), .string s, .slice none 0 0] 24 (0, 0)) := by rw [hw3]; simpa using World.alloc_heap_new ((w.alloc (.cells #[.int .i64 1, .int .i64 n, .string s, .slice a ks.length cap] 24)).alloc (.cells #[.int .i64 0, .int .i64 0, .string (ByteArray.mk #[]), .slice none 0 0] 24)) (.cells #[.int .i64 1, .int .i64 (wrap64 (n + d)), .string s, .slice none 0 0] 24)
      have hx2 : w3.heap[w.heap.size + 1]? = some (.cells #[.int .i64 0, .int .i64 0, .string (ByteArray.mk #[]), .slice none 0 0] 24 (0, 0)) := by rw [hw3]; refine (Below.heap_alloc _ _ _ (by simp)).trans ?_; simpa using World.alloc_heap_new (w.alloc (.cells #[.int .i64 1, .int .i64 n, .string s, .slice a ks.length cap] 24)) (.cells #[.int .i64 0, .int .i64 0, .string (ByteArray.mk #[]), .slice none 0 0] 24)
      have hAf3 : After w3 (w.heap.size + 1 + 1) 1 (wrap64 (n + d)) s w3 := ⟨rfl, rfl, rfl, Nat.le_refl _, fun _ _ _ => rfl, ⟨_, hx3⟩, by omega⟩
      have HH := Lib.hid (And.intro (And.intro hsz3 hs) (And.intro hB3 (And.intro hAf3 (And.intro hx1 hx3))))
      have HX2 := Lib.hid hx2
      have HW3 := Lib.hid hw3
      clear hs hw3 hB3 hsz3 hx1 hx2 hx3 hAf3
      go_enter Try.func24, Try.ntmps24
      go_wp2_with fail
      rw [← HW3.out]
      go_loopw [6] (fun i wr => ∃ c : Nat, i = .int .i64 c ∧ c ≤ ks.length ∧ ∃ aX cX, After w3 (w.heap.size + 1 + 1) 1 (wrap64 (n + d)) s wr ∧ wr.heap[w.heap.size + 1 + 1]? = some (.cells #[.int .i64 1, .int .i64 (wrap64 (n + d)), .string s, .slice aX c cX] 24 (0, 0)) ∧ OwnTl wr w3.heap.size (w.heap.size + 1 + 1) (.slice aX c cX) (Tm.shifts d (ks.take c))) (fun i _ => ks.length - (intOf i).toNat)
      case atStart => exact ⟨0, rfl, Nat.zero_le _, none, 0, HH.out.2.2.1, HH.out.2.2.2.2, by rw [List.take_zero, Tm.shifts_eq]; exact OwnTl.nil _ _ _⟩
      case round =>
        obtain ⟨c, rfl, hcl, aX, cX, hAf, hbB, hown⟩ := hrel
        have hw3 : Below w.heap.size w w3 := HH.out.2.1
        have hsz3 : w3.heap.size = w.heap.size + 1 + 1 + 1 := HH.out.1.1
        have hwr : Below w.heap.size w wr := hw3.trans (hAf.isBelow (by omega))
        have htb := (hAf.same w.heap.size (by omega) (by omega)).trans HH.out.2.2.2.1
        obtain ⟨t0, t1, t2, t3⟩ := tbox_cells htb
        have hltw : w.heap.size < wr.heap.size := by have := hAf.size; omega
        by_cases hlt : c < ks.length
        · obtain ⟨b, o, k1, n1, s1, a1, l1, c1, T1, rfl, hbn, e0, e1, e2, e3, hT1, ht1⟩ := IsTm.kid hv c hlt
          have q0 := (hwr.cell (p := ⟨b, o + c * 4, none⟩) hbn).trans e0
          have q1 := (hwr.cell (p := ⟨b, o + c * 4 + 1, none⟩) hbn).trans e1
          have q2 := (hwr.cell (p := ⟨b, o + c * 4 + 2, none⟩) hbn).trans e2
          have q3 := (hwr.cell (p := ⟨b, o + c * 4 + 3, none⟩) hbn).trans e3
          have hsz1 := Tm.size_le_sizes (List.mem_of_getElem? hT1)
          have hs0 := HH.out.1.2
          have p0 := (hw3.cell (p := ⟨b, o + c * 4, none⟩) hbn).trans e0
          have p1 := (hw3.cell (p := ⟨b, o + c * 4 + 1, none⟩) hbn).trans e1
          have p2 := (hw3.cell (p := ⟨b, o + c * 4 + 2, none⟩) hbn).trans e2
          have p3 := (hw3.cell (p := ⟨b, o + c * 4 + 3, none⟩) hbn).trans e3
          obtain ⟨u0, u1, u2, u3⟩ := tbox_cells HH.out.2.2.2.1
          have hnew : ∀ w', Below wr.heap.size wr w' → Calls Try.prog 24 #[.agg #[.int .i64 k1, .int .i64 n1, .string s1, .slice a1 l1 c1], .int .i64 d] w' fun e w4 => ∃ k4 n4 s4 a4 l4 c4, e = .returned (.agg #[.int .i64 k4, .int .i64 n4, .string s4, .slice a4 l4 c4]) ∧ TmIn (fun b => wr.heap.size ≤ b ∧ b < w4.heap.size) w4 (.agg #[.int .i64 k4, .int .i64 n4, .string s4, .slice a4 l4 c4]) (T1.shift d) ∧ Below wr.heap.size wr w4 := fun w' hb =>
            (ih T1 (List.mem_of_getElem? hT1) _ w' (IsTm.later (hwr.trans (hb.mono hwr.size)) (hwr.trans (hb.mono hwr.size)).size ht1) (by omega)).mono fun e w4 h => by
              obtain ⟨r, rfl, hr, hb4⟩ := h
              obtain ⟨k4, n4, s4, a4, l4, c4, ks4, rfl, -⟩ := hr.form
              exact ⟨k4, n4, s4, a4, l4, c4, rfl, hr.carry (fun _ _ => rfl) (fun b hb' => ⟨Nat.le_trans hb.size hb'.1, hb'.2⟩), hb.trans (hb4.mono hb.size)⟩
          have hsucc : Tm.shifts d (ks.take (c + 1)) = Tm.shifts d (ks.take c) ++ [T1.shift d] := by
            have e : ks.take (c + 1) = ks.take c ++ [T1] := by rw [List.take_add_one, hT1]; rfl
            rw [e, Tm.shifts_eq, Tm.shifts_eq, List.map_append]; rfl
          have hbne : b ≠ w.heap.size + 1 + 1 := by omega
          have HS : ∀ w', After w3 (w.heap.size + 1 + 1) 1 (wrap64 (n + d)) s w' → w'.cell? ⟨w.heap.size + 1 + 1, 3, none⟩ = some (.slice aX c cX) → (w'.cell? ⟨w.heap.size, 3, none⟩ = some (.slice (some ⟨b, o, none⟩) ks.length cap) ∧ w'.cell? ⟨b, o + c * 4, none⟩ = some (.int .i64 k1) ∧ w'.cell? ⟨b, o + c * 4 + 1, none⟩ = some (.int .i64 n1) ∧ w'.cell? ⟨b, o + c * 4 + 2, none⟩ = some (.string s1) ∧ w'.cell? ⟨b, o + c * 4 + 3, none⟩ = some (.slice a1 l1 c1) ∧ w'.cell? ⟨w.heap.size + 1 + 1, 3, none⟩ = some (.slice aX c cX) ∧ w'.frozen? ⟨w.heap.size + 1 + 1, 3, none⟩ = false ∧ After w3 (w.heap.size + 1 + 1) 1 (wrap64 (n + d)) s w') := fun w' h hc =>
            ⟨h.cell u3 (by omega), h.cell p0 hbne, h.cell p1 hbne, h.cell p2 hbne, h.cell p3 hbne, hc, h.some.2, h⟩
          have hAfB : ∀ w', Below wr.heap.size wr w' → After w3 (w.heap.size + 1 + 1) 1 (wrap64 (n + d)) s w' := fun w' h => hAf.below h
          have hll : (Tm.shifts d (ks.take c)).length + [T1.shift d].length ≤ 1000000000000 := by rw [Tm.shifts_eq, List.length_map, List.length_take]; simp; omega
          have hown' : ∀ (v : Value) w', v = .slice aX c cX → Below wr.heap.size wr w' → OwnTl w' w3.heap.size (w.heap.size + 1 + 1) v (Tm.shifts d (ks.take c)) := fun v w' e hb => by
            rw [e]
            exact hown.kept hb.size (fun b' hb' _ => hb.block b' hb') (fun e' => by have := hown.lt _ e'; omega)
          have hlit : ∀ (v : Value) w4 k4 n4 s4 a4 l4 c4, v = .slice aX c cX → Below wr.heap.size wr w4 → TmIn (fun b => wr.heap.size ≤ b ∧ b < w4.heap.size) w4 (.agg #[.int .i64 k4, .int .i64 n4, .string s4, .slice a4 l4 c4]) (T1.shift d) → TsIn (PvL (w4.alloc (.cells #[.int .i64 k4, .int .i64 n4, .string s4, .slice a4 l4 c4] 24)) w3.heap.size (w.heap.size + 1 + 1) v) (w4.alloc (.cells #[.int .i64 k4, .int .i64 n4, .string s4, .slice a4 l4 c4] 24)) (.slice (some ⟨w4.heap.size, 0, none⟩) 1 1) [T1.shift d] := fun v w4 k4 n4 s4 a4 l4 c4 e hb hT => by
            have h3 := hAf.size
            have h4 := hb.size
            have hlt2 := hown.lt2
            have hblk : (w4.alloc (.cells #[.int .i64 k4, .int .i64 n4, .string s4, .slice a4 l4 c4] 24)).heap[w4.heap.size]? = some (.cells #[.int .i64 k4, .int .i64 n4, .string s4, .slice a4 l4 c4] 24 (0, 0)) := World.alloc_heap_new _ _
            obtain ⟨c0', c1', c2', c3'⟩ := tbox_cells hblk
            refine ⟨some ⟨w4.heap.size, 0, none⟩, 1, rfl, by simp, by unfold maxLen; omega, (fun h => by cases h), fun i hi => ?_⟩
            have hi' : i = 0 := by simp at hi; omega
            subst hi'
            exact ⟨w4.heap.size, 0, k4, n4, s4, a4, l4, c4, rfl, ⟨by simp, fun e' => by have := hlt2 _ (by rw [← e]; exact e'); omega, by omega, by omega⟩, c0', c1', c2', c3', hT.carry (fun b' hb' => Below.heap_alloc _ _ _ hb'.2) (fun b' hb' => ⟨by have := hb'.2; simp; omega, fun e' => by have := hlt2 _ (by rw [← e]; exact e'); have := hb'.1; omega, by have := hb'.1; omega, by have := hb'.1; omega⟩)⟩
          have hsz4 : ∀ w' (o' : Obj), Below wr.heap.size wr w' → w3.heap.size ≤ (w'.alloc o').heap.size ∧ w.heap.size + 1 + 1 < (w'.alloc o').heap.size := fun w' o' hb => by have h1 := hb.size; have h2 := hAf.size; simp; omega
          have hal : ∀ w' (o' : Obj), Below wr.heap.size wr w' → Below wr.heap.size wr (w'.alloc o') := fun w' o' h => h.alloc h.size o'
          have hlt3 : ∀ v : Value, v = .slice aX c cX → ∀ b', v.ownBlock = some b' → w3.heap.size ≤ b' := fun v e b' e' => hown.lt b' (by rw [← e]; exact e')
          have hdr : Below wr.heap.size wr wr.drew := (Below.refl _ _).drew
          have hcB : ∀ w', Below wr.heap.size wr w' → w'.cell? ⟨w.heap.size + 1 + 1, 3, none⟩ = some (.slice aX c cX) := fun w' h => (tbox_cells (tbox_below hbB h)).2.2.2
          have HSB := fun w' (h : Below wr.heap.size wr w') => HS w' (hAf.below h) (hcB w' h)
          have hgB := fun wx wB (h : Below wr.heap.size wr wx) (hg : wx.grownBy wB (Value.slice aX c cX).ownBlock) => HS wB (After.grown (hAf.below h) hg (hlt3 _ rfl)) ((World.cell?_of_block (a := ⟨w.heap.size + 1 + 1, 3, none⟩) (hg.block (w.heap.size + 1 + 1) (by have h1 := h.size; have h2 := hAf.size; omega) (fun e => by have := hlt3 _ rfl _ e.symm; omega))).trans (hcB wx h))
          have HA := Lib.hid (And.intro hAf (And.intro hsucc (And.intro hsz3 hbB)))
          have hlenX : (Tm.shifts d (ks.take c) ++ [T1.shift d]).length = c + 1 := by rw [Tm.shifts_eq, List.length_append, List.length_map, List.length_take]; simp; omega
          have HLX := Lib.hid hlenX
          clear hcB hsz3 hsucc hbB hown hAf hlenX e0 e1 e2 e3 p0 p1 p2 p3 u0 u1 u2 u3 t0 t1 t2 hsz1 hs0 hT1 ht1 ih hv htb hbne q0 q1 q2 q3
          go_wp2_with fail
          clear t3
          refine wp_region_noPanic ?_
          refine wp_region_last (S := (fun w' => w'.cell? ⟨w.heap.size, 3, none⟩ = some (.slice (some ⟨b, o, none⟩) ks.length cap) ∧ w'.cell? ⟨b, o + c * 4, none⟩ = some (.int .i64 k1) ∧ w'.cell? ⟨b, o + c * 4 + 1, none⟩ = some (.int .i64 n1) ∧ w'.cell? ⟨b, o + c * 4 + 2, none⟩ = some (.string s1) ∧ w'.cell? ⟨b, o + c * 4 + 3, none⟩ = some (.slice a1 l1 c1) ∧ w'.cell? ⟨w.heap.size + 1 + 1, 3, none⟩ = some (.slice aX c cX) ∧ w'.frozen? ⟨w.heap.size + 1 + 1, 3, none⟩ = false ∧ After w3 (w.heap.size + 1 + 1) 1 (wrap64 (n + d)) s w')) 12 (by kernel_rfl) (by kernel_rfl) (HSB _ hdr) (fun hHeld => ?_)
          simp only [List.take_succ_cons, List.take_zero]
          refine wpAnyH_take (i := 0) (v := ?vv1_0) rfl (by kernel_rfl) (by kernel_rfl) (by kernel_rfl) (fun _ _ _ h => h) (Or.inl ⟨by rfl, ?hy1_0⟩) hHeld ?rest1_0
          case hy1_0 =>
            intro w0 hSw
            (try dsimp only at hSw)
            go_simp
            try (with_reducible rfl)
          try simp only [Act.put, List.setIfInBounds_toArray, List.set_cons_zero, List.set_cons_succ]
          refine wpAnyH_take (i := 1) (v := ?vv1_1) rfl (by kernel_rfl) (by kernel_rfl) (by kernel_rfl) (fun _ _ _ h => h) (Or.inl ⟨by rfl, ?hy1_1⟩) hHeld ?rest1_1
          case hy1_1 =>
            intro w0 hSw
            (try dsimp only at hSw)
            go_simp
            try (with_reducible rfl)
          try simp only [Act.put, List.setIfInBounds_toArray, List.set_cons_zero, List.set_cons_succ]
          refine wpAnyH_take (i := 2) (v := ?vv1_2) rfl (by kernel_rfl) (by kernel_rfl) (by kernel_rfl) (fun _ _ _ h => h) (Or.inl ⟨by rfl, ?hy1_2⟩) hHeld ?rest1_2
          case hy1_2 =>
            intro w0 hSw
            (try dsimp only at hSw)
            go_simp
            try (with_reducible rfl)
          try simp only [Act.put, List.setIfInBounds_toArray, List.set_cons_zero, List.set_cons_succ]
          refine wpAnyH_take (i := 3) (v := ?vv1_3) rfl (by kernel_rfl) (by kernel_rfl) (by kernel_rfl) (fun _ _ _ h => h) (Or.inl ⟨by rfl, ?hy1_3⟩) hHeld ?rest1_3
          case hy1_3 =>
            intro w0 hSw
            (try dsimp only at hSw)
            go_simp
            try (with_reducible rfl)
          try simp only [Act.put, List.setIfInBounds_toArray, List.set_cons_zero, List.set_cons_succ]
          refine wpAnyH_take (i := 4) (v := ?vv1_4) rfl (by kernel_rfl) (by kernel_rfl) (by kernel_rfl) (fun _ _ _ h => h) (Or.inl ⟨by rfl, ?hy1_4⟩) hHeld ?rest1_4
          case hy1_4 =>
            intro w0 hSw
            (try dsimp only at hSw)
            go_simp
            try (with_reducible rfl)
          try simp only [Act.put, List.setIfInBounds_toArray, List.set_cons_zero, List.set_cons_succ]
          refine wpAnyH_take (i := 5) (v := ?vv1_5) rfl (by kernel_rfl) (by kernel_rfl) (by kernel_rfl) (fun _ _ _ h => h) (Or.inl ⟨by rfl, ?hy1_5⟩) hHeld ?rest1_5
          case hy1_5 =>
            intro w0 hSw
            (try dsimp only at hSw)
            go_simp
            try (with_reducible rfl)
          try simp only [Act.put, List.setIfInBounds_toArray, List.set_cons_zero, List.set_cons_succ]
          refine wpAnyH_take (i := 6) (v := ?vv1_6) rfl (by kernel_rfl) (by kernel_rfl) (by kernel_rfl) (fun _ _ _ h => h) (Or.inl ⟨by rfl, ?hy1_6⟩) hHeld ?rest1_6
          case hy1_6 =>
            intro w0 hSw
            (try dsimp only at hSw)
            go_simp
            try (with_reducible rfl)
          try simp only [Act.put, List.setIfInBounds_toArray, List.set_cons_zero, List.set_cons_succ]
          refine wpAnyH_take (i := 7) (v := ?vv1_7) rfl (by kernel_rfl) (by kernel_rfl) (by kernel_rfl) (fun _ _ _ h => h) (Or.inl ⟨by rfl, ?hy1_7⟩) hHeld ?rest1_7
          case hy1_7 =>
            intro w0 hSw
            (try dsimp only at hSw)
            go_simp
            try (with_reducible rfl)
          try simp only [Act.put, List.setIfInBounds_toArray, List.set_cons_zero, List.set_cons_succ]
          refine wpAnyH_ready (rs := [8]) (by kernel_rfl) (by simp) ?_
          refine AllReadyH.cons rfl (fun K hK => ?_) AllReadyH.nil
          go_simp
          with_reducible refine (hnew _ hdr).mono ?_
          rintro e w4 ⟨k4, n4, s4, a4, l4, c4, rfl, hT4, hb4⟩
          go_wp2_with fail
          refine hK.out _ _ (HSB _ hb4) (fun hHeld2 => ?_)
          clear hK K hHeld
          try simp only [Act.put, List.setIfInBounds_toArray, List.set_cons_zero, List.set_cons_succ]
          refine wpAnyH_ready (rs := [9]) (by kernel_rfl) (by simp) ?_
          refine AllReadyH.cons rfl (fun K hK => ?_) AllReadyH.nil
          go_simp
          refine hK.out _ _ (HSB _ (hal _ _ hb4)) (fun hHeld3 => ?_)
          clear hK K hHeld2
          try simp only [Act.put, List.setIfInBounds_toArray, List.set_cons_zero, List.set_cons_succ]
          refine wpAnyH_ready (rs := [10]) (by kernel_rfl) (by simp) ?_
          refine AllReadyH.cons rfl (fun K hK => ?_) AllReadyH.nil
          refine step_append_tl rfl (.tmp 30) (.tmp 38) rfl w3.heap.size (w.heap.size + 1 + 1) (.slice aX c cX) _ (Tm.shifts d (ks.take c)) [T1.shift d] rfl rfl (hown' _ _ rfl (hal _ _ hb4)) (hlit _ _ _ _ _ _ _ _ rfl hb4 hT4) hll (hsz4 _ _ hb4).1 (hsz4 _ _ hb4).2 ?_
          intro v2 wB ho2 hg2 hat2
          obtain ⟨a2', c2', e2⟩ := ho2.form
          rw [HLX.out] at e2
          subst e2
          have hSB := hgB _ wB (hal _ _ hb4) hg2
          refine hK.out _ _ hSB (fun hHeld4 => ?_)
          clear hK K hHeld3
          try simp only [Act.put, List.setIfInBounds_toArray, List.set_cons_zero, List.set_cons_succ]
          refine wpAnyH_take (i := 11) (v := ?vv1_11) rfl (by kernel_rfl) (by kernel_rfl) (by kernel_rfl) (fun _ _ _ h => h) (Or.inl ⟨by rfl, ?hy1_11⟩) hHeld4 ?rest1_11
          case hy1_11 =>
            intro w0 hSw
            (try dsimp only at hSw)
            go_simp
            try (with_reducible rfl)
          try simp only [Act.put, List.setIfInBounds_toArray, List.set_cons_zero, List.set_cons_succ]
          refine wpAnyH_done (by kernel_rfl) ?_ _
          refine last_of_list rfl ?_
          clear hHeld4
          have hAf5 := hSB.2.2.2.2.2.2.2
          obtain ⟨-, -, -, -, -, r5, r6, -⟩ := hSB
          go_wp2_with fail
          refine NoPanic.normal ?_
          all_goals
            have hAf6 : After w3 (w.heap.size + 1 + 1) 1 (wrap64 (n + d)) s (wB.setCell ⟨w.heap.size + 1 + 1, 3, none⟩ (.slice a2' (c + 1) c2')) := hAf5.set _
            have hz6 : (wB.setCell ⟨w.heap.size + 1 + 1, 3, none⟩ (.slice a2' (c + 1) c2')).heap[w.heap.size + 1 + 1]? = some (.cells #[.int .i64 1, .int .i64 (wrap64 (n + d)), .string s, .slice a2' (c + 1) c2'] 24 (0, 0)) := by
              obtain ⟨v0, hv0⟩ := hAf6.box
              rw [hv0, set_inv hv0]
            have ho6 : OwnTl (wB.setCell ⟨w.heap.size + 1 + 1, 3, none⟩ (.slice a2' (c + 1) c2')) w3.heap.size (w.heap.size + 1 + 1) (.slice a2' (c + 1) c2') (Tm.shifts d (ks.take c) ++ [T1.shift d]) :=
              ho2.kept (by simp) (fun b' _ hb' => Below.heap_setCell wB ⟨w.heap.size + 1 + 1, 3, none⟩ _ b' hb') (fun e' => by have := ho2.lt _ e'; have := HA.out.2.2.1; omega)
            rw [← HA.out.2.1] at ho6
            have H6 := Lib.hid (And.intro hAf6 (And.intro hz6 ho6))
            clear hAf6 hz6 ho6 ho2 hg2 hat2 hown' hlit hnew HS HSB hgB hAf5 r5 r6 hAfB hsz4 hal hlt3 hdr hb4 hT4
            generalize hW6 : (wB.setCell ⟨w.heap.size + 1 + 1, 3, none⟩ (.slice a2' (c + 1) c2')) = w6 at H6 ⊢
            clear hW6
            go_wp2_with fail
            go_roundw
            case rel => exact ⟨c + 1, by simp, hlt, a2', c2', H6.out.1, H6.out.2.1, H6.out.2.2⟩
            case measure => simp [intOf]; omega
        · have hce : c = ks.length := by omega
          subst hce
          rw [List.take_length] at hown
          have y2 := (hAf.same (w.heap.size + 1) (by omega) (by omega)).trans HX2.out
          obtain ⟨x0, x1, x2, x3⟩ := tbox_cells y2
          have xf : ∀ j, wr.frozen? ⟨w.heap.size + 1, j, none⟩ = false := fun j => by simp [World.frozen?, y2]
          obtain ⟨z0, z1, z2, z3⟩ := tbox_cells hbB
          have HE := Lib.hid (And.intro hown (And.intro hwr (And.intro y2 (And.intro hsz3 hAf.size))))
          clear hown hwr y2 hsz3 hAf hbB ih hv htb
          go_wp2_with fail
          obtain ⟨hown, hwr, y2, hsz3, hsz⟩ := HE.out
          have hb5 := four_block y2 (.int .i64 1) (.int .i64 (wrap64 (n + d))) (.string s) (.slice aX ks.length cX)
          have ho5 : ∀ b, w3.heap.size ≤ b → ((((wr.setCell ⟨w.heap.size + 1, 0, none⟩ (.int .i64 1)).setCell ⟨w.heap.size + 1, 1, none⟩ (.int .i64 (wrap64 (n + d)))).setCell ⟨w.heap.size + 1, 2, none⟩ (.string s)).setCell ⟨w.heap.size + 1, 3, none⟩ (.slice aX ks.length cX)).heap[b]? = wr.heap[b]? := fun b hb => by
            rw [Below.heap_setCell _ _ _ _ (by simp; omega), Below.heap_setCell _ _ _ _ (by simp; omega), Below.heap_setCell _ _ _ _ (by simp; omega), Below.heap_setCell _ _ _ _ (by simp; omega)]
          have hB5 := (((hwr.setCell (p := ⟨w.heap.size + 1, 0, none⟩) (Nat.le_succ _) (.int .i64 1)).setCell (p := ⟨w.heap.size + 1, 1, none⟩) (Nat.le_succ _) (.int .i64 (wrap64 (n + d)))).setCell (p := ⟨w.heap.size + 1, 2, none⟩) (Nat.le_succ _) (.string s)).setCell (p := ⟨w.heap.size + 1, 3, none⟩) (Nat.le_succ _) (.slice aX ks.length cX)
          have hs5 : ((((wr.setCell ⟨w.heap.size + 1, 0, none⟩ (.int .i64 1)).setCell ⟨w.heap.size + 1, 1, none⟩ (.int .i64 (wrap64 (n + d)))).setCell ⟨w.heap.size + 1, 2, none⟩ (.string s)).setCell ⟨w.heap.size + 1, 3, none⟩ (.slice aX ks.length cX)).heap.size = wr.heap.size := by simp
          generalize ((((wr.setCell ⟨w.heap.size + 1, 0, none⟩ (.int .i64 1)).setCell ⟨w.heap.size + 1, 1, none⟩ (.int .i64 (wrap64 (n + d)))).setCell ⟨w.heap.size + 1, 2, none⟩ (.string s)).setCell ⟨w.heap.size + 1, 3, none⟩ (.slice aX ks.length cX)) = w5 at hb5 ho5 hB5 hs5 ⊢
          obtain ⟨f0, f1, f2, f3⟩ := tbox_cells hb5
          refine bodyPost_ret (v := .agg #[.int .i64 1, .int .i64 (wrap64 (n + d)), .string s, .slice aX ks.length cX]) (by simp [results, Try.f24, go_sem, f0, f1, f2, f3]) rfl ?_
          exact ⟨_, rfl, (hown.ts.carry (q := fun b => w.heap.size ≤ b ∧ b < w5.heap.size) (fun b hb => ho5 b hb.1) (fun b hb => ⟨by have := hb.1; omega, by rw [hs5]; exact hb.2⟩)).term hk (wrap64_ok _) hs', hB5⟩
    · have hkb : (k == 1) = false := by simpa using h1
      rw [if_neg h1]
      obtain ⟨w3, hw3⟩ : ∃ w3, w3 = (((w.alloc (.cells #[.int .i64 k, .int .i64 n, .string s, .slice a ks.length cap] 24)).alloc (.cells #[.int .i64 0, .int .i64 0, .string (ByteArray.mk #[]), .slice none 0 0] 24)).alloc (.cells #[.int .i64 k, .int .i64 n, .string s, .slice none 0 0] 24)) := ⟨_, rfl⟩
      have hB3 : Below w.heap.size w w3 := by rw [hw3]; exact (((Below.refl _ w).alloc (Nat.le_refl _) _).alloc (by simp) _).alloc (by simp; omega) _
      have hsz3 : w3.heap.size = w.heap.size + 1 + 1 + 1 := by rw [hw3]; simp
      have hx1 : w3.heap[w.heap.size]? = some (.cells #[.int .i64 k, .int .i64 n, .string s, .slice a ks.length cap] 24 (0, 0)) := by rw [hw3]; exact ((Below.heap_alloc _ _ _ (by simp; omega)).trans (Below.heap_alloc _ _ _ (by simp))).trans (World.alloc_heap_new _ _)
      have hx3 : w3.heap[w.heap.size + 1 + 1]? = some (.cells #[.int .i64 k, .int .i64 n, .string s, .slice none 0 0] 24 (0, 0)) := by rw [hw3]; simpa using World.alloc_heap_new ((w.alloc (.cells #[.int .i64 k, .int .i64 n, .string s, .slice a ks.length cap] 24)).alloc (.cells #[.int .i64 0, .int .i64 0, .string (ByteArray.mk #[]), .slice none 0 0] 24)) (.cells #[.int .i64 k, .int .i64 n, .string s, .slice none 0 0] 24)
      have hx2 : w3.heap[w.heap.size + 1]? = some (.cells #[.int .i64 0, .int .i64 0, .string (ByteArray.mk #[]), .slice none 0 0] 24 (0, 0)) := by rw [hw3]; refine (Below.heap_alloc _ _ _ (by simp)).trans ?_; simpa using World.alloc_heap_new (w.alloc (.cells #[.int .i64 k, .int .i64 n, .string s, .slice a ks.length cap] 24)) (.cells #[.int .i64 0, .int .i64 0, .string (ByteArray.mk #[]), .slice none 0 0] 24)
      have hAf3 : After w3 (w.heap.size + 1 + 1) k n s w3 := ⟨rfl, rfl, rfl, Nat.le_refl _, fun _ _ _ => rfl, ⟨_, hx3⟩, by omega⟩
      have HH := Lib.hid (And.intro (And.intro hsz3 hs) (And.intro hB3 (And.intro hAf3 (And.intro hx1 hx3))))
      have HX2 := Lib.hid hx2
      have HW3 := Lib.hid hw3
      clear hs hw3 hB3 hsz3 hx1 hx2 hx3 hAf3
      go_enter Try.func24, Try.ntmps24
      go_wp2_with fail
      rw [← HW3.out]
      go_loopw [6] (fun i wr => ∃ c : Nat, i = .int .i64 c ∧ c ≤ ks.length ∧ ∃ aX cX, After w3 (w.heap.size + 1 + 1) k n s wr ∧ wr.heap[w.heap.size + 1 + 1]? = some (.cells #[.int .i64 k, .int .i64 n, .string s, .slice aX c cX] 24 (0, 0)) ∧ OwnTl wr w3.heap.size (w.heap.size + 1 + 1) (.slice aX c cX) (Tm.shifts d (ks.take c))) (fun i _ => ks.length - (intOf i).toNat)
      case atStart => exact ⟨0, rfl, Nat.zero_le _, none, 0, HH.out.2.2.1, HH.out.2.2.2.2, by rw [List.take_zero, Tm.shifts_eq]; exact OwnTl.nil _ _ _⟩
      case round =>
        obtain ⟨c, rfl, hcl, aX, cX, hAf, hbB, hown⟩ := hrel
        have hw3 : Below w.heap.size w w3 := HH.out.2.1
        have hsz3 : w3.heap.size = w.heap.size + 1 + 1 + 1 := HH.out.1.1
        have hwr : Below w.heap.size w wr := hw3.trans (hAf.isBelow (by omega))
        have htb := (hAf.same w.heap.size (by omega) (by omega)).trans HH.out.2.2.2.1
        obtain ⟨t0, t1, t2, t3⟩ := tbox_cells htb
        have hltw : w.heap.size < wr.heap.size := by have := hAf.size; omega
        by_cases hlt : c < ks.length
        · obtain ⟨b, o, k1, n1, s1, a1, l1, c1, T1, rfl, hbn, e0, e1, e2, e3, hT1, ht1⟩ := IsTm.kid hv c hlt
          have q0 := (hwr.cell (p := ⟨b, o + c * 4, none⟩) hbn).trans e0
          have q1 := (hwr.cell (p := ⟨b, o + c * 4 + 1, none⟩) hbn).trans e1
          have q2 := (hwr.cell (p := ⟨b, o + c * 4 + 2, none⟩) hbn).trans e2
          have q3 := (hwr.cell (p := ⟨b, o + c * 4 + 3, none⟩) hbn).trans e3
          have hsz1 := Tm.size_le_sizes (List.mem_of_getElem? hT1)
          have hs0 := HH.out.1.2
          have p0 := (hw3.cell (p := ⟨b, o + c * 4, none⟩) hbn).trans e0
          have p1 := (hw3.cell (p := ⟨b, o + c * 4 + 1, none⟩) hbn).trans e1
          have p2 := (hw3.cell (p := ⟨b, o + c * 4 + 2, none⟩) hbn).trans e2
          have p3 := (hw3.cell (p := ⟨b, o + c * 4 + 3, none⟩) hbn).trans e3
          obtain ⟨u0, u1, u2, u3⟩ := tbox_cells HH.out.2.2.2.1
          have hnew : ∀ w', Below wr.heap.size wr w' → Calls Try.prog 24 #[.agg #[.int .i64 k1, .int .i64 n1, .string s1, .slice a1 l1 c1], .int .i64 d] w' fun e w4 => ∃ k4 n4 s4 a4 l4 c4, e = .returned (.agg #[.int .i64 k4, .int .i64 n4, .string s4, .slice a4 l4 c4]) ∧ TmIn (fun b => wr.heap.size ≤ b ∧ b < w4.heap.size) w4 (.agg #[.int .i64 k4, .int .i64 n4, .string s4, .slice a4 l4 c4]) (T1.shift d) ∧ Below wr.heap.size wr w4 := fun w' hb =>
            (ih T1 (List.mem_of_getElem? hT1) _ w' (IsTm.later (hwr.trans (hb.mono hwr.size)) (hwr.trans (hb.mono hwr.size)).size ht1) (by omega)).mono fun e w4 h => by
              obtain ⟨r, rfl, hr, hb4⟩ := h
              obtain ⟨k4, n4, s4, a4, l4, c4, ks4, rfl, -⟩ := hr.form
              exact ⟨k4, n4, s4, a4, l4, c4, rfl, hr.carry (fun _ _ => rfl) (fun b hb' => ⟨Nat.le_trans hb.size hb'.1, hb'.2⟩), hb.trans (hb4.mono hb.size)⟩
          have hsucc : Tm.shifts d (ks.take (c + 1)) = Tm.shifts d (ks.take c) ++ [T1.shift d] := by
            have e : ks.take (c + 1) = ks.take c ++ [T1] := by rw [List.take_add_one, hT1]; rfl
            rw [e, Tm.shifts_eq, Tm.shifts_eq, List.map_append]; rfl
          have hbne : b ≠ w.heap.size + 1 + 1 := by omega
          have HS : ∀ w', After w3 (w.heap.size + 1 + 1) k n s w' → w'.cell? ⟨w.heap.size + 1 + 1, 3, none⟩ = some (.slice aX c cX) → (w'.cell? ⟨w.heap.size, 3, none⟩ = some (.slice (some ⟨b, o, none⟩) ks.length cap) ∧ w'.cell? ⟨b, o + c * 4, none⟩ = some (.int .i64 k1) ∧ w'.cell? ⟨b, o + c * 4 + 1, none⟩ = some (.int .i64 n1) ∧ w'.cell? ⟨b, o + c * 4 + 2, none⟩ = some (.string s1) ∧ w'.cell? ⟨b, o + c * 4 + 3, none⟩ = some (.slice a1 l1 c1) ∧ w'.cell? ⟨w.heap.size + 1 + 1, 3, none⟩ = some (.slice aX c cX) ∧ w'.frozen? ⟨w.heap.size + 1 + 1, 3, none⟩ = false ∧ After w3 (w.heap.size + 1 + 1) k n s w') := fun w' h hc =>
            ⟨h.cell u3 (by omega), h.cell p0 hbne, h.cell p1 hbne, h.cell p2 hbne, h.cell p3 hbne, hc, h.some.2, h⟩
          have hAfB : ∀ w', Below wr.heap.size wr w' → After w3 (w.heap.size + 1 + 1) k n s w' := fun w' h => hAf.below h
          have hll : (Tm.shifts d (ks.take c)).length + [T1.shift d].length ≤ 1000000000000 := by rw [Tm.shifts_eq, List.length_map, List.length_take]; simp; omega
          have hown' : ∀ (v : Value) w', v = .slice aX c cX → Below wr.heap.size wr w' → OwnTl w' w3.heap.size (w.heap.size + 1 + 1) v (Tm.shifts d (ks.take c)) := fun v w' e hb => by
            rw [e]
            exact hown.kept hb.size (fun b' hb' _ => hb.block b' hb') (fun e' => by have := hown.lt _ e'; omega)
          have hlit : ∀ (v : Value) w4 k4 n4 s4 a4 l4 c4, v = .slice aX c cX → Below wr.heap.size wr w4 → TmIn (fun b => wr.heap.size ≤ b ∧ b < w4.heap.size) w4 (.agg #[.int .i64 k4, .int .i64 n4, .string s4, .slice a4 l4 c4]) (T1.shift d) → TsIn (PvL (w4.alloc (.cells #[.int .i64 k4, .int .i64 n4, .string s4, .slice a4 l4 c4] 24)) w3.heap.size (w.heap.size + 1 + 1) v) (w4.alloc (.cells #[.int .i64 k4, .int .i64 n4, .string s4, .slice a4 l4 c4] 24)) (.slice (some ⟨w4.heap.size, 0, none⟩) 1 1) [T1.shift d] := fun v w4 k4 n4 s4 a4 l4 c4 e hb hT => by
            have h3 := hAf.size
            have h4 := hb.size
            have hlt2 := hown.lt2
            have hblk : (w4.alloc (.cells #[.int .i64 k4, .int .i64 n4, .string s4, .slice a4 l4 c4] 24)).heap[w4.heap.size]? = some (.cells #[.int .i64 k4, .int .i64 n4, .string s4, .slice a4 l4 c4] 24 (0, 0)) := World.alloc_heap_new _ _
            obtain ⟨c0', c1', c2', c3'⟩ := tbox_cells hblk
            refine ⟨some ⟨w4.heap.size, 0, none⟩, 1, rfl, by simp, by unfold maxLen; omega, (fun h => by cases h), fun i hi => ?_⟩
            have hi' : i = 0 := by simp at hi; omega
            subst hi'
            exact ⟨w4.heap.size, 0, k4, n4, s4, a4, l4, c4, rfl, ⟨by simp, fun e' => by have := hlt2 _ (by rw [← e]; exact e'); omega, by omega, by omega⟩, c0', c1', c2', c3', hT.carry (fun b' hb' => Below.heap_alloc _ _ _ hb'.2) (fun b' hb' => ⟨by have := hb'.2; simp; omega, fun e' => by have := hlt2 _ (by rw [← e]; exact e'); have := hb'.1; omega, by have := hb'.1; omega, by have := hb'.1; omega⟩)⟩
          have hsz4 : ∀ w' (o' : Obj), Below wr.heap.size wr w' → w3.heap.size ≤ (w'.alloc o').heap.size ∧ w.heap.size + 1 + 1 < (w'.alloc o').heap.size := fun w' o' hb => by have h1 := hb.size; have h2 := hAf.size; simp; omega
          have hal : ∀ w' (o' : Obj), Below wr.heap.size wr w' → Below wr.heap.size wr (w'.alloc o') := fun w' o' h => h.alloc h.size o'
          have hlt3 : ∀ v : Value, v = .slice aX c cX → ∀ b', v.ownBlock = some b' → w3.heap.size ≤ b' := fun v e b' e' => hown.lt b' (by rw [← e]; exact e')
          have hdr : Below wr.heap.size wr wr.drew := (Below.refl _ _).drew
          have hcB : ∀ w', Below wr.heap.size wr w' → w'.cell? ⟨w.heap.size + 1 + 1, 3, none⟩ = some (.slice aX c cX) := fun w' h => (tbox_cells (tbox_below hbB h)).2.2.2
          have HSB := fun w' (h : Below wr.heap.size wr w') => HS w' (hAf.below h) (hcB w' h)
          have hgB := fun wx wB (h : Below wr.heap.size wr wx) (hg : wx.grownBy wB (Value.slice aX c cX).ownBlock) => HS wB (After.grown (hAf.below h) hg (hlt3 _ rfl)) ((World.cell?_of_block (a := ⟨w.heap.size + 1 + 1, 3, none⟩) (hg.block (w.heap.size + 1 + 1) (by have h1 := h.size; have h2 := hAf.size; omega) (fun e => by have := hlt3 _ rfl _ e.symm; omega))).trans (hcB wx h))
          have HA := Lib.hid (And.intro hAf (And.intro hsucc (And.intro hsz3 hbB)))
          have hlenX : (Tm.shifts d (ks.take c) ++ [T1.shift d]).length = c + 1 := by rw [Tm.shifts_eq, List.length_append, List.length_map, List.length_take]; simp; omega
          have HLX := Lib.hid hlenX
          clear hcB hsz3 hsucc hbB hown hAf hlenX e0 e1 e2 e3 p0 p1 p2 p3 u0 u1 u2 u3 t0 t1 t2 hsz1 hs0 hT1 ht1 ih hv htb hbne q0 q1 q2 q3
          go_wp2_with fail
          clear t3
          refine wp_region_noPanic ?_
          refine wp_region_last (S := (fun w' => w'.cell? ⟨w.heap.size, 3, none⟩ = some (.slice (some ⟨b, o, none⟩) ks.length cap) ∧ w'.cell? ⟨b, o + c * 4, none⟩ = some (.int .i64 k1) ∧ w'.cell? ⟨b, o + c * 4 + 1, none⟩ = some (.int .i64 n1) ∧ w'.cell? ⟨b, o + c * 4 + 2, none⟩ = some (.string s1) ∧ w'.cell? ⟨b, o + c * 4 + 3, none⟩ = some (.slice a1 l1 c1) ∧ w'.cell? ⟨w.heap.size + 1 + 1, 3, none⟩ = some (.slice aX c cX) ∧ w'.frozen? ⟨w.heap.size + 1 + 1, 3, none⟩ = false ∧ After w3 (w.heap.size + 1 + 1) k n s w')) 12 (by kernel_rfl) (by kernel_rfl) (HSB _ hdr) (fun hHeld => ?_)
          simp only [List.take_succ_cons, List.take_zero]
          refine wpAnyH_take (i := 0) (v := ?vvk_0) rfl (by kernel_rfl) (by kernel_rfl) (by kernel_rfl) (fun _ _ _ h => h) (Or.inl ⟨by rfl, ?hyk_0⟩) hHeld ?restk_0
          case hyk_0 =>
            intro w0 hSw
            (try dsimp only at hSw)
            go_simp
            try (with_reducible rfl)
          try simp only [Act.put, List.setIfInBounds_toArray, List.set_cons_zero, List.set_cons_succ]
          refine wpAnyH_take (i := 1) (v := ?vvk_1) rfl (by kernel_rfl) (by kernel_rfl) (by kernel_rfl) (fun _ _ _ h => h) (Or.inl ⟨by rfl, ?hyk_1⟩) hHeld ?restk_1
          case hyk_1 =>
            intro w0 hSw
            (try dsimp only at hSw)
            go_simp
            try (with_reducible rfl)
          try simp only [Act.put, List.setIfInBounds_toArray, List.set_cons_zero, List.set_cons_succ]
          refine wpAnyH_take (i := 2) (v := ?vvk_2) rfl (by kernel_rfl) (by kernel_rfl) (by kernel_rfl) (fun _ _ _ h => h) (Or.inl ⟨by rfl, ?hyk_2⟩) hHeld ?restk_2
          case hyk_2 =>
            intro w0 hSw
            (try dsimp only at hSw)
            go_simp
            try (with_reducible rfl)
          try simp only [Act.put, List.setIfInBounds_toArray, List.set_cons_zero, List.set_cons_succ]
          refine wpAnyH_take (i := 3) (v := ?vvk_3) rfl (by kernel_rfl) (by kernel_rfl) (by kernel_rfl) (fun _ _ _ h => h) (Or.inl ⟨by rfl, ?hyk_3⟩) hHeld ?restk_3
          case hyk_3 =>
            intro w0 hSw
            (try dsimp only at hSw)
            go_simp
            try (with_reducible rfl)
          try simp only [Act.put, List.setIfInBounds_toArray, List.set_cons_zero, List.set_cons_succ]
          refine wpAnyH_take (i := 4) (v := ?vvk_4) rfl (by kernel_rfl) (by kernel_rfl) (by kernel_rfl) (fun _ _ _ h => h) (Or.inl ⟨by rfl, ?hyk_4⟩) hHeld ?restk_4
          case hyk_4 =>
            intro w0 hSw
            (try dsimp only at hSw)
            go_simp
            try (with_reducible rfl)
          try simp only [Act.put, List.setIfInBounds_toArray, List.set_cons_zero, List.set_cons_succ]
          refine wpAnyH_take (i := 5) (v := ?vvk_5) rfl (by kernel_rfl) (by kernel_rfl) (by kernel_rfl) (fun _ _ _ h => h) (Or.inl ⟨by rfl, ?hyk_5⟩) hHeld ?restk_5
          case hyk_5 =>
            intro w0 hSw
            (try dsimp only at hSw)
            go_simp
            try (with_reducible rfl)
          try simp only [Act.put, List.setIfInBounds_toArray, List.set_cons_zero, List.set_cons_succ]
          refine wpAnyH_take (i := 6) (v := ?vvk_6) rfl (by kernel_rfl) (by kernel_rfl) (by kernel_rfl) (fun _ _ _ h => h) (Or.inl ⟨by rfl, ?hyk_6⟩) hHeld ?restk_6
          case hyk_6 =>
            intro w0 hSw
            (try dsimp only at hSw)
            go_simp
            try (with_reducible rfl)
          try simp only [Act.put, List.setIfInBounds_toArray, List.set_cons_zero, List.set_cons_succ]
          refine wpAnyH_take (i := 7) (v := ?vvk_7) rfl (by kernel_rfl) (by kernel_rfl) (by kernel_rfl) (fun _ _ _ h => h) (Or.inl ⟨by rfl, ?hyk_7⟩) hHeld ?restk_7
          case hyk_7 =>
            intro w0 hSw
            (try dsimp only at hSw)
            go_simp
            try (with_reducible rfl)
          try simp only [Act.put, List.setIfInBounds_toArray, List.set_cons_zero, List.set_cons_succ]
          refine wpAnyH_ready (rs := [8]) (by kernel_rfl) (by simp) ?_
          refine AllReadyH.cons rfl (fun K hK => ?_) AllReadyH.nil
          go_simp
          with_reducible refine (hnew _ hdr).mono ?_
          rintro e w4 ⟨k4, n4, s4, a4, l4, c4, rfl, hT4, hb4⟩
          go_wp2_with fail
          refine hK.out _ _ (HSB _ hb4) (fun hHeld2 => ?_)
          clear hK K hHeld
          try simp only [Act.put, List.setIfInBounds_toArray, List.set_cons_zero, List.set_cons_succ]
          refine wpAnyH_ready (rs := [9]) (by kernel_rfl) (by simp) ?_
          refine AllReadyH.cons rfl (fun K hK => ?_) AllReadyH.nil
          go_simp
          refine hK.out _ _ (HSB _ (hal _ _ hb4)) (fun hHeld3 => ?_)
          clear hK K hHeld2
          try simp only [Act.put, List.setIfInBounds_toArray, List.set_cons_zero, List.set_cons_succ]
          refine wpAnyH_ready (rs := [10]) (by kernel_rfl) (by simp) ?_
          refine AllReadyH.cons rfl (fun K hK => ?_) AllReadyH.nil
          refine step_append_tl rfl (.tmp 30) (.tmp 38) rfl w3.heap.size (w.heap.size + 1 + 1) (.slice aX c cX) _ (Tm.shifts d (ks.take c)) [T1.shift d] rfl rfl (hown' _ _ rfl (hal _ _ hb4)) (hlit _ _ _ _ _ _ _ _ rfl hb4 hT4) hll (hsz4 _ _ hb4).1 (hsz4 _ _ hb4).2 ?_
          intro v2 wB ho2 hg2 hat2
          obtain ⟨a2', c2', e2⟩ := ho2.form
          rw [HLX.out] at e2
          subst e2
          have hSB := hgB _ wB (hal _ _ hb4) hg2
          refine hK.out _ _ hSB (fun hHeld4 => ?_)
          clear hK K hHeld3
          try simp only [Act.put, List.setIfInBounds_toArray, List.set_cons_zero, List.set_cons_succ]
          refine wpAnyH_take (i := 11) (v := ?vvk_11) rfl (by kernel_rfl) (by kernel_rfl) (by kernel_rfl) (fun _ _ _ h => h) (Or.inl ⟨by rfl, ?hyk_11⟩) hHeld4 ?restk_11
          case hyk_11 =>
            intro w0 hSw
            (try dsimp only at hSw)
            go_simp
            try (with_reducible rfl)
          try simp only [Act.put, List.setIfInBounds_toArray, List.set_cons_zero, List.set_cons_succ]
          refine wpAnyH_done (by kernel_rfl) ?_ _
          refine last_of_list rfl ?_
          clear hHeld4
          have hAf5 := hSB.2.2.2.2.2.2.2
          obtain ⟨-, -, -, -, -, r5, r6, -⟩ := hSB
          go_wp2_with fail
          refine NoPanic.normal ?_
          all_goals
            have hAf6 : After w3 (w.heap.size + 1 + 1) k n s (wB.setCell ⟨w.heap.size + 1 + 1, 3, none⟩ (.slice a2' (c + 1) c2')) := hAf5.set _
            have hz6 : (wB.setCell ⟨w.heap.size + 1 + 1, 3, none⟩ (.slice a2' (c + 1) c2')).heap[w.heap.size + 1 + 1]? = some (.cells #[.int .i64 k, .int .i64 n, .string s, .slice a2' (c + 1) c2'] 24 (0, 0)) := by
              obtain ⟨v0, hv0⟩ := hAf6.box
              rw [hv0, set_inv hv0]
            have ho6 : OwnTl (wB.setCell ⟨w.heap.size + 1 + 1, 3, none⟩ (.slice a2' (c + 1) c2')) w3.heap.size (w.heap.size + 1 + 1) (.slice a2' (c + 1) c2') (Tm.shifts d (ks.take c) ++ [T1.shift d]) :=
              ho2.kept (by simp) (fun b' _ hb' => Below.heap_setCell wB ⟨w.heap.size + 1 + 1, 3, none⟩ _ b' hb') (fun e' => by have := ho2.lt _ e'; have := HA.out.2.2.1; omega)
            rw [← HA.out.2.1] at ho6
            have H6 := Lib.hid (And.intro hAf6 (And.intro hz6 ho6))
            clear hAf6 hz6 ho6 ho2 hg2 hat2 hown' hlit hnew HS HSB hgB hAf5 r5 r6 hAfB hsz4 hal hlt3 hdr hb4 hT4
            generalize hW6 : (wB.setCell ⟨w.heap.size + 1 + 1, 3, none⟩ (.slice a2' (c + 1) c2')) = w6 at H6 ⊢
            clear hW6
            go_wp2_with fail
            go_roundw
            case rel => exact ⟨c + 1, by simp, hlt, a2', c2', H6.out.1, H6.out.2.1, H6.out.2.2⟩
            case measure => simp [intOf]; omega
        · have hce : c = ks.length := by omega
          subst hce
          rw [List.take_length] at hown
          have y2 := (hAf.same (w.heap.size + 1) (by omega) (by omega)).trans HX2.out
          obtain ⟨x0, x1, x2, x3⟩ := tbox_cells y2
          have xf : ∀ j, wr.frozen? ⟨w.heap.size + 1, j, none⟩ = false := fun j => by simp [World.frozen?, y2]
          obtain ⟨z0, z1, z2, z3⟩ := tbox_cells hbB
          have HE := Lib.hid (And.intro hown (And.intro hwr (And.intro y2 (And.intro hsz3 hAf.size))))
          clear hown hwr y2 hsz3 hAf hbB ih hv htb
          go_wp2_with fail
          obtain ⟨hown, hwr, y2, hsz3, hsz⟩ := HE.out
          have hb5 := four_block y2 (.int .i64 k) (.int .i64 n) (.string s) (.slice aX ks.length cX)
          have ho5 : ∀ b, w3.heap.size ≤ b → ((((wr.setCell ⟨w.heap.size + 1, 0, none⟩ (.int .i64 k)).setCell ⟨w.heap.size + 1, 1, none⟩ (.int .i64 n)).setCell ⟨w.heap.size + 1, 2, none⟩ (.string s)).setCell ⟨w.heap.size + 1, 3, none⟩ (.slice aX ks.length cX)).heap[b]? = wr.heap[b]? := fun b hb => by
            rw [Below.heap_setCell _ _ _ _ (by simp; omega), Below.heap_setCell _ _ _ _ (by simp; omega), Below.heap_setCell _ _ _ _ (by simp; omega), Below.heap_setCell _ _ _ _ (by simp; omega)]
          have hB5 := (((hwr.setCell (p := ⟨w.heap.size + 1, 0, none⟩) (Nat.le_succ _) (.int .i64 k)).setCell (p := ⟨w.heap.size + 1, 1, none⟩) (Nat.le_succ _) (.int .i64 n)).setCell (p := ⟨w.heap.size + 1, 2, none⟩) (Nat.le_succ _) (.string s)).setCell (p := ⟨w.heap.size + 1, 3, none⟩) (Nat.le_succ _) (.slice aX ks.length cX)
          have hs5 : ((((wr.setCell ⟨w.heap.size + 1, 0, none⟩ (.int .i64 k)).setCell ⟨w.heap.size + 1, 1, none⟩ (.int .i64 n)).setCell ⟨w.heap.size + 1, 2, none⟩ (.string s)).setCell ⟨w.heap.size + 1, 3, none⟩ (.slice aX ks.length cX)).heap.size = wr.heap.size := by simp
          generalize ((((wr.setCell ⟨w.heap.size + 1, 0, none⟩ (.int .i64 k)).setCell ⟨w.heap.size + 1, 1, none⟩ (.int .i64 n)).setCell ⟨w.heap.size + 1, 2, none⟩ (.string s)).setCell ⟨w.heap.size + 1, 3, none⟩ (.slice aX ks.length cX)) = w5 at hb5 ho5 hB5 hs5 ⊢
          obtain ⟨f0, f1, f2, f3⟩ := tbox_cells hb5
          refine bodyPost_ret (v := .agg #[.int .i64 k, .int .i64 n, .string s, .slice aX ks.length cX]) (by simp [results, Try.f24, go_sem, f0, f1, f2, f3]) rfl ?_
          exact ⟨_, rfl, (hown.ts.carry (q := fun b => w.heap.size ≤ b ∧ b < w5.heap.size) (fun b hb => ho5 b hb.1) (fun b hb => ⟨by have := hb.1; omega, by rw [hs5]; exact hb.2⟩)).term hk hn hs', hB5⟩

end Go.Proofs.Ytllggpmmcamkmaa
