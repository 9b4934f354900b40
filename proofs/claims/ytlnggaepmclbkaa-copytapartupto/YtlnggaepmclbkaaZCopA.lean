/-
  copyt.renamed: the term with other numbers of its variables; copyt.Norm.
-/
import Derived.Test.YtlnggaepmclbkaaZStoSn2
import Derived.Test.YtlnggaepmclbkaaZShiftsMn2
import Derived.Test.YtlnggaepmclbkaaZStoFn2
import Derived.Deep.DeepCutAuto
namespace Go.Proofs.Ytlnggaepmclbkaa
open Go.RowKit Go.Shelf
set_option linter.unusedVariables false
set_option linter.unusedSimpArgs false

theorem set_inv13 {W : World} {B : Nat} {a b c v u : Value} {t : TypeId} {z : Nat × Nat} (h : (W.setCell ⟨B, 3, none⟩ u).heap[B]? = some (.cells #[a, b, c, v] t z)) : v = u := by
  have hlt : B < W.heap.size := by have := (Array.getElem?_eq_some_iff.1 h).1; simpa using this
  have hW : W.heap[B]? = some W.heap[B] := Array.getElem?_eq_getElem hlt
  have hm : (W.setCell ⟨B, 3, none⟩ u).heap[B]? = some (match W.heap[B] with | .cells c elem frozen => .cells (c.setIfInBounds 3 u) elem frozen | o => o) := by
    show (W.heap.modify B _)[B]? = _
    rw [Array.getElem?_eq_getElem (by rw [Array.size_modify]; exact hlt), Array.getElem_modify_self]
    rfl
  rw [hm] at h
  cases ho : W.heap[B] with
  | cells cur e f =>
    rw [ho] at h
    simp only [Option.some.injEq, Obj.cells.injEq] at h
    have h3 := congrArg (fun x : Array Value => x[3]?) h.1
    have hs := congrArg Array.size h.1
    simp at hs
    simp [hs] at h3
    exact h3.symm
  | _ => rw [ho] at h; simp at h
theorem owns_below {P : Program} {k : TypeId} {R : Value → Option (DataW Unit × List MemPlace)} {b m : Nat} {D : DataW Unit} {w w' : World} (h : w.ownsMap P k R b m D) (hb : Below w.heap.size w w') : w'.ownsMap P k R b m D := by
  have hlt := h.lt
  obtain ⟨es, ck, hh, r⟩ := h
  exact ⟨es, ck, (hb.block b hlt).trans hh, r⟩
theorem keyed64' : Maps.Keyed Try.prog 2 := Maps.int_keyed Try.underlying2
theorem zero64 (w : World) : (zeroValue 2).run Try.prog w = .ok (.int .i64 0) w := by kernel_rfl
theorem key64 {n : Int} (hn : i64ok n) : keyOf Try.prog 2 (.int .i64 n) = some (.int .i64 n) := Maps.keyOf_int_mk Try.underlying2 (WalkArith.wf_i64 hn)
/-- A map of whole numbers in block m. -/
abbrev MapAt (w : World) (m N : Nat) (D : DataW Unit) : Prop := w.ownsMap Try.prog 2 (plainElem Try.prog 2) m N D
theorem MapAt.below {m N : Nat} {D : DataW Unit} {w w' : World} (h : MapAt w m N D) (hb : Below w.heap.size w w') : MapAt w' m N D := owns_below h hb

set_option maxRecDepth 100000 in
set_option maxHeartbeats 16000000 in
theorem renamed_at (f : Int → Int) (hf : ∀ x, i64ok (f x)) (m N : Nat) (D : DataW Unit) (hD : ∀ x, D.atKey (.int .i64 x) (.lit (.int .i64 0)) = .lit (.int .i64 (f x))) (T : Tm) : ∀ (v : Value) (w : World), Has w v T → MapAt w m N D → T.size ≤ 1000000000 → Calls Try.prog 32 #[v, .map (some m)] w (NewTm w (T.rn f)) := by
  induction T using Tm.ind with
  | h k n s ks ih =>
    intro v w hv hmap hs
    obtain ⟨k_, n_, s_, a, len, cap, ks_, rfl, e, rfl, hk, hn, hs', hc, hm, ha⟩ := hv.form
    injection e with e1 e2 e3 e4
    subst e1 e2 e3 e4
    rw [Tm.size_mk] at hs
    have hlen : ks.length ≤ 1000000000 := by have := Tm.length_le_sizes ks; omega
    have hz := zeroTerm
    rw [Tm.rn_mk]
    by_cases hk1 : k = 1
    · subst hk1
      rw [if_pos rfl]
      have hfn := hf n
      have hkey := key64 hn
      have hDn := hD n
      obtain ⟨w3, hw3⟩ : ∃ w3, w3 = ((w.alloc (.cells #[.int .i64 1, .int .i64 (f n), .string s, .slice none 0 0] 24)).alloc (.cells #[.int .i64 0, .int .i64 0, .string (ByteArray.mk #[]), .slice none 0 0] 24)) := ⟨_, rfl⟩
      have hB3 : Below w.heap.size w w3 := by rw [hw3]; exact ((Below.refl _ w).alloc (Nat.le_refl _) _).alloc (by simp) _
      have hsz3 : w3.heap.size = w.heap.size + 1 + 1 := by rw [hw3]; simp
      have hx3 : w3.heap[w.heap.size]? = some (.cells #[.int .i64 1, .int .i64 (f n), .string s, .slice none 0 0] 24 (0, 0)) := by rw [hw3]; exact (Below.heap_alloc _ _ _ (by simp)).trans (World.alloc_heap_new _ _)
      have hx2 : w3.heap[w.heap.size + 1]? = some (.cells #[.int .i64 0, .int .i64 0, .string (ByteArray.mk #[]), .slice none 0 0] 24 (0, 0)) := by rw [hw3]; simpa using World.alloc_heap_new (w.alloc (.cells #[.int .i64 1, .int .i64 (f n), .string s, .slice none 0 0] 24)) (.cells #[.int .i64 0, .int .i64 0, .string (ByteArray.mk #[]), .slice none 0 0] 24)
      have hAf3 : After w3 w.heap.size 1 (f n) s w3 := ⟨rfl, rfl, rfl, Nat.le_refl _, fun _ _ _ => rfl, ⟨_, hx3⟩, by omega⟩
      have hmap0 : MapAt ((w.alloc (.cells #[.int .i64 1, .int .i64 n, .string s, .slice a ks.length cap] 24)).alloc (.cells #[.int .i64 0, .int .i64 0, .string (ByteArray.mk #[]), .slice none 0 0] 24)) m N D := hmap.below (((Below.refl _ w).alloc (Nat.le_refl _) _).alloc (by simp) _)
      have HH := Lib.hid (And.intro (And.intro hsz3 hs) (And.intro hB3 (And.intro hAf3 hx3)))
      have HX2 := Lib.hid hx2
      have HW3 := Lib.hid hw3
      have HM := Lib.hid hmap
      clear hs hw3 hB3 hsz3 hx2 hx3 hAf3 hmap
      go_enter Try.func32, Try.ntmps32
      go_wp2_with (at_lookup; refine wpList_lookup_own_int _ rfl _ _ 59 rfl 2 2 .i64 keyed64' Try.underlying59 Try.underlying2 (zero64 _) m N D rfl hmap0 _ _ rfl hkey ?_; intro c' hat hwc; cases (hDn.symm.trans hat); clear hat hwc)
      rw [← HW3.out]
      go_loopw [21] (fun i wr => ∃ c : Nat, i = .int .i64 c ∧ c ≤ ks.length ∧ ∃ aX cX, After w3 w.heap.size 1 (f n) s wr ∧ wr.heap[w.heap.size]? = some (.cells #[.int .i64 1, .int .i64 (f n), .string s, .slice aX c cX] 24 (0, 0)) ∧ OwnTl wr w3.heap.size w.heap.size (.slice aX c cX) ((ks.take c).map (Tm.rn f))) (fun i _ => ks.length - (intOf i).toNat)
      case atStart => exact ⟨0, rfl, Nat.zero_le _, none, 0, HH.out.2.2.1, HH.out.2.2.2, by rw [List.take_zero]; exact OwnTl.nil _ _ _⟩
      case round =>
        obtain ⟨c, rfl, hcl, aX, cX, hAf, hbB, hown⟩ := hrel
        have hw3 : Below w.heap.size w w3 := HH.out.2.1
        have hsz3 : w3.heap.size = w.heap.size + 1 + 1 := HH.out.1.1
        have hwr : Below w.heap.size w wr := hw3.trans (hAf.isBelow (by omega))
        have hltw : w.heap.size < wr.heap.size := by have := hAf.size; omega
        by_cases hlt : c < ks.length
        · obtain ⟨b, o, k1, n1, s1, a1, l1, c1, T1, rfl, hbn, e0, e1, e2, e3, hT1, ht1⟩ := IsTm.kid hv c hlt
          have q0 := (hwr.cell (p := ⟨b, o + c * 4, none⟩) hbn).trans e0
          have q1 := (hwr.cell (p := ⟨b, o + c * 4 + 1, none⟩) hbn).trans e1
          have q2 := (hwr.cell (p := ⟨b, o + c * 4 + 2, none⟩) hbn).trans e2
          have q3 := (hwr.cell (p := ⟨b, o + c * 4 + 3, none⟩) hbn).trans e3
          have hsz1 := Tm.size_le_sizes (List.mem_of_getElem? hT1)
          have hs0 := HH.out.1.2
          obtain ⟨wk, hwk⟩ : ∃ wk, wk = wr.alloc (.cells #[.int .i64 k1, .int .i64 n1, .string s1, .slice a1 l1 c1] 24) := ⟨_, rfl⟩
          have hkb3 : wk.heap[wr.heap.size]? = some (.cells #[.int .i64 k1, .int .i64 n1, .string s1, .slice a1 l1 c1] 24 (0, 0)) := by rw [hwk]; exact World.alloc_heap_new _ _
          have hBk : Below wr.heap.size wr wk := by rw [hwk]; exact (Below.refl _ _).alloc (Nat.le_refl _) _
          have hszk : wk.heap.size = wr.heap.size + 1 := by rw [hwk]; simp
          have hwwk : Below w.heap.size w wk := hwr.trans (hBk.mono hwr.size)
          have hAfk : After w3 w.heap.size 1 (f n) s wk := hAf.below hBk
          have hbBk := (hBk.block w.heap.size hltw).trans hbB
          have hownk : OwnTl wk w3.heap.size w.heap.size (.slice aX c cX) ((ks.take c).map (Tm.rn f)) := hown.kept hBk.size (fun b' hb' _ => hBk.block b' hb') (fun e' => by have := hown.lt _ e'; omega)
          have hmapk : MapAt wk m N D := HM.out.below hwwk
          have hrow : ∀ b', (Value.slice aX c cX).ownBlock = some b' → b' < wr.heap.size := hown.lt2
          have hnew : ∀ w', Below wk.heap.size wk w' → Calls Try.prog 32 #[.agg #[.int .i64 k1, .int .i64 n1, .string s1, .slice a1 l1 c1], .map (some m)] w' fun e w4 => ∃ k4 n4 s4 a4 l4 c4, e = .returned (.agg #[.int .i64 k4, .int .i64 n4, .string s4, .slice a4 l4 c4]) ∧ TmIn (fun b => wk.heap.size ≤ b ∧ b < w4.heap.size) w4 (.agg #[.int .i64 k4, .int .i64 n4, .string s4, .slice a4 l4 c4]) (T1.rn f) ∧ Below wk.heap.size wk w4 := fun w' hb =>
            (ih T1 (List.mem_of_getElem? hT1) _ w' (IsTm.later (hwwk.trans (hb.mono hwwk.size)) (hwwk.trans (hb.mono hwwk.size)).size ht1) (hmapk.below hb) (by omega)).mono fun e w4 h => by
              obtain ⟨r, rfl, hr, hb4⟩ := h
              obtain ⟨k4, n4, s4, a4, l4, c4, ks4, rfl, -⟩ := hr.form
              exact ⟨k4, n4, s4, a4, l4, c4, rfl, hr.carry (fun _ _ => rfl) (fun b hb' => ⟨Nat.le_trans hb.size hb'.1, hb'.2⟩), hb.trans (hb4.mono hb.size)⟩
          have hsucc : ((ks.take (c + 1)).map (Tm.rn f)) = ((ks.take c).map (Tm.rn f)) ++ [T1.rn f] := by
            have e : ks.take (c + 1) = ks.take c ++ [T1] := by rw [List.take_add_one, hT1]; rfl
            rw [e, List.map_append]; rfl
          have hll : ((ks.take c).map (Tm.rn f)).length + [T1.rn f].length ≤ 1000000000000 := by rw [List.length_map, List.length_take]; simp; omega
          have hown' : ∀ (v : Value) w', v = .slice aX c cX → Below wk.heap.size wk w' → OwnTl w' w3.heap.size w.heap.size v ((ks.take c).map (Tm.rn f)) := fun v w' e hb => by
            rw [e]
            exact hownk.kept hb.size (fun b' hb' _ => hb.block b' hb') (fun e' => by have := hownk.lt _ e'; omega)
          have hlit : ∀ (v : Value) w4 k4 n4 s4 a4 l4 c4, v = .slice aX c cX → Below wk.heap.size wk w4 → TmIn (fun b => wk.heap.size ≤ b ∧ b < w4.heap.size) w4 (.agg #[.int .i64 k4, .int .i64 n4, .string s4, .slice a4 l4 c4]) (T1.rn f) → TsIn (PvL (w4.alloc (.cells #[.int .i64 k4, .int .i64 n4, .string s4, .slice a4 l4 c4] 24)) w3.heap.size w.heap.size v) (w4.alloc (.cells #[.int .i64 k4, .int .i64 n4, .string s4, .slice a4 l4 c4] 24)) (.slice (some ⟨w4.heap.size, 0, none⟩) 1 1) [T1.rn f] := fun v w4 k4 n4 s4 a4 l4 c4 e hb hT => by
            have h3 := hAfk.size
            have h4 := hb.size
            have hlt2 := hownk.lt2
            have hblk : (w4.alloc (.cells #[.int .i64 k4, .int .i64 n4, .string s4, .slice a4 l4 c4] 24)).heap[w4.heap.size]? = some (.cells #[.int .i64 k4, .int .i64 n4, .string s4, .slice a4 l4 c4] 24 (0, 0)) := World.alloc_heap_new _ _
            obtain ⟨c0', c1', c2', c3'⟩ := tbox_cells hblk
            refine ⟨some ⟨w4.heap.size, 0, none⟩, 1, rfl, by simp, by unfold maxLen; omega, (fun h => by cases h), fun i hi => ?_⟩
            have hi' : i = 0 := by simp at hi; omega
            subst hi'
            exact ⟨w4.heap.size, 0, k4, n4, s4, a4, l4, c4, rfl, ⟨by simp, fun e' => by have := hlt2 _ (by rw [← e]; exact e'); omega, by omega, by omega⟩, c0', c1', c2', c3', hT.carry (fun b' hb' => Below.heap_alloc _ _ _ hb'.2) (fun b' hb' => ⟨by have := hb'.2; simp; omega, fun e' => by have := hlt2 _ (by rw [← e]; exact e'); have := hb'.1; omega, by have := hb'.1; omega, by have := hb'.1; omega⟩)⟩
          have hsz4 : ∀ w' (o' : Obj), Below wk.heap.size wk w' → w3.heap.size ≤ (w'.alloc o').heap.size ∧ w.heap.size < (w'.alloc o').heap.size := fun w' o' hb => by have h1 := hb.size; have h2 := hAfk.size; simp; omega
          have hal : ∀ w' (o' : Obj), Below wk.heap.size wk w' → Below wk.heap.size wk (w'.alloc o') := fun w' o' h => h.alloc h.size o'
          have hlt3 : ∀ v : Value, v = .slice aX c cX → ∀ b', v.ownBlock = some b' → w3.heap.size ≤ b' := fun v e b' e' => hown.lt b' (by rw [← e]; exact e')
          have hdr : Below wk.heap.size wk wk.drew := (Below.refl _ _).drew
          have HS : ∀ w', After w3 w.heap.size 1 (f n) s w' → w'.cell? ⟨w.heap.size, 3, none⟩ = some (.slice aX c cX) → w'.heap[wr.heap.size]? = some (.cells #[.int .i64 k1, .int .i64 n1, .string s1, .slice a1 l1 c1] 24 (0, 0)) → (w'.cell? ⟨wr.heap.size, 0, none⟩ = some (.int .i64 k1) ∧ w'.cell? ⟨wr.heap.size, 1, none⟩ = some (.int .i64 n1) ∧ w'.cell? ⟨wr.heap.size, 2, none⟩ = some (.string s1) ∧ w'.cell? ⟨wr.heap.size, 3, none⟩ = some (.slice a1 l1 c1) ∧ w'.cell? ⟨w.heap.size, 3, none⟩ = some (.slice aX c cX) ∧ w'.frozen? ⟨w.heap.size, 3, none⟩ = false ∧ After w3 w.heap.size 1 (f n) s w') := fun w' h hc hkk =>
            ⟨(tbox_cells hkk).1, (tbox_cells hkk).2.1, (tbox_cells hkk).2.2.1, (tbox_cells hkk).2.2.2, hc, h.some.2, h⟩
          have hcB : ∀ w', Below wk.heap.size wk w' → w'.cell? ⟨w.heap.size, 3, none⟩ = some (.slice aX c cX) := fun w' h => (tbox_cells (tbox_below hbBk h)).2.2.2
          have HSB := fun w' (h : Below wk.heap.size wk w') => HS w' (hAfk.below h) (hcB w' h) (tbox_below hkb3 h)
          have hgB := fun wx wB (h : Below wk.heap.size wk wx) (hg : wx.grownBy wB (Value.slice aX c cX).ownBlock) => HS wB (After.grown (hAfk.below h) hg (hlt3 _ rfl)) ((World.cell?_of_block (a := ⟨w.heap.size, 3, none⟩) (hg.block w.heap.size (by have h1 := h.size; have h2 := hAfk.size; omega) (fun e => by have := hlt3 _ rfl _ e.symm; omega))).trans (hcB wx h)) ((hg.block wr.heap.size (by have h1 := h.size; omega) (fun e => by have := hrow _ e.symm; omega)).trans (tbox_below hkb3 h))
          have HA := Lib.hid (And.intro hAfk (And.intro hsucc (And.intro hsz3 hbBk)))
          have hlenX : (((ks.take c).map (Tm.rn f)) ++ [T1.rn f]).length = c + 1 := by rw [List.length_append, List.length_map, List.length_take]; simp; omega
          have HLX := Lib.hid hlenX
          have HWK := Lib.hid hwk
          clear hcB hsz3 hsucc hbB hbBk hown hownk hAf hAfk hlenX e0 e1 e2 e3 hsz1 hs0 hT1 ht1 ih hv hwk hkb3 hBk hszk hwwk hmapk hrow
          go_wp2_with fail
          rw [← HWK.out]
          clear q0 q1 q2 q3
          refine wp_region_noPanic ?_
          refine wp_region_last (S := (fun w' => (w'.cell? ⟨wr.heap.size, 0, none⟩ = some (.int .i64 k1) ∧ w'.cell? ⟨wr.heap.size, 1, none⟩ = some (.int .i64 n1) ∧ w'.cell? ⟨wr.heap.size, 2, none⟩ = some (.string s1) ∧ w'.cell? ⟨wr.heap.size, 3, none⟩ = some (.slice a1 l1 c1) ∧ w'.cell? ⟨w.heap.size, 3, none⟩ = some (.slice aX c cX) ∧ w'.frozen? ⟨w.heap.size, 3, none⟩ = false ∧ After w3 w.heap.size 1 (f n) s w'))) 8 (by kernel_rfl) (by kernel_rfl) (HSB _ hdr) (fun hHeld => ?_)
          simp only [List.take_succ_cons, List.take_zero]
          refine wpAnyH_take (i := 0) (v := ?vvv_0) rfl (by kernel_rfl) (by kernel_rfl) (by kernel_rfl) (fun _ _ _ h => h) (Or.inl ⟨by rfl, ?hyv_0⟩) hHeld ?restv_0
          case hyv_0 =>
            intro w0 hSw
            (try dsimp only at hSw)
            go_simp
            try (with_reducible rfl)
          try simp only [Act.put, List.setIfInBounds_toArray, List.set_cons_zero, List.set_cons_succ]
          refine wpAnyH_take (i := 1) (v := ?vvv_1) rfl (by kernel_rfl) (by kernel_rfl) (by kernel_rfl) (fun _ _ _ h => h) (Or.inl ⟨by rfl, ?hyv_1⟩) hHeld ?restv_1
          case hyv_1 =>
            intro w0 hSw
            (try dsimp only at hSw)
            go_simp
            try (with_reducible rfl)
          try simp only [Act.put, List.setIfInBounds_toArray, List.set_cons_zero, List.set_cons_succ]
          refine wpAnyH_take (i := 2) (v := ?vvv_2) rfl (by kernel_rfl) (by kernel_rfl) (by kernel_rfl) (fun _ _ _ h => h) (Or.inl ⟨by rfl, ?hyv_2⟩) hHeld ?restv_2
          case hyv_2 =>
            intro w0 hSw
            (try dsimp only at hSw)
            go_simp
            try (with_reducible rfl)
          try simp only [Act.put, List.setIfInBounds_toArray, List.set_cons_zero, List.set_cons_succ]
          refine wpAnyH_take (i := 3) (v := ?vvv_3) rfl (by kernel_rfl) (by kernel_rfl) (by kernel_rfl) (fun _ _ _ h => h) (Or.inl ⟨by rfl, ?hyv_3⟩) hHeld ?restv_3
          case hyv_3 =>
            intro w0 hSw
            (try dsimp only at hSw)
            go_simp
            try (with_reducible rfl)
          try simp only [Act.put, List.setIfInBounds_toArray, List.set_cons_zero, List.set_cons_succ]
          refine wpAnyH_ready (rs := [4]) (by kernel_rfl) (by simp) ?_
          refine AllReadyH.cons rfl (fun K hK => ?_) AllReadyH.nil
          go_simp
          with_reducible refine (hnew _ hdr).mono ?_
          rintro e w4 ⟨k4, n4, s4, a4, l4, c4, rfl, hT4, hb4⟩
          go_wp2_with fail
          refine hK.out _ _ (HSB _ hb4) (fun hHeld2 => ?_)
          clear hK K hHeld
          try simp only [Act.put, List.setIfInBounds_toArray, List.set_cons_zero, List.set_cons_succ]
          refine wpAnyH_ready (rs := [5]) (by kernel_rfl) (by simp) ?_
          refine AllReadyH.cons rfl (fun K hK => ?_) AllReadyH.nil
          go_simp
          refine hK.out _ _ (HSB _ (hal _ _ hb4)) (fun hHeld3 => ?_)
          clear hK K hHeld2
          try simp only [Act.put, List.setIfInBounds_toArray, List.set_cons_zero, List.set_cons_succ]
          refine wpAnyH_ready (rs := [6]) (by kernel_rfl) (by simp) ?_
          refine AllReadyH.cons rfl (fun K hK => ?_) AllReadyH.nil
          refine step_append_tl rfl (.tmp 26) (.tmp 30) rfl w3.heap.size w.heap.size (.slice aX c cX) _ ((ks.take c).map (Tm.rn f)) [T1.rn f] rfl rfl (hown' _ _ rfl (hal _ _ hb4)) (hlit _ _ _ _ _ _ _ _ rfl hb4 hT4) hll (hsz4 _ _ hb4).1 (hsz4 _ _ hb4).2 ?_
          intro v2 wB ho2 hg2 hat2
          obtain ⟨a2', c2', e2⟩ := ho2.form
          rw [HLX.out] at e2
          subst e2
          have hSB := hgB _ wB (hal _ _ hb4) hg2
          refine hK.out _ _ hSB (fun hHeld4 => ?_)
          clear hK K hHeld3
          try simp only [Act.put, List.setIfInBounds_toArray, List.set_cons_zero, List.set_cons_succ]
          refine wpAnyH_take (i := 7) (v := ?vvv_11) rfl (by kernel_rfl) (by kernel_rfl) (by kernel_rfl) (fun _ _ _ h => h) (Or.inl ⟨by rfl, ?hyv_11⟩) hHeld4 ?restv_11
          case hyv_11 =>
            intro w0 hSw
            (try dsimp only at hSw)
            go_simp
            try (with_reducible rfl)
          try simp only [Act.put, List.setIfInBounds_toArray, List.set_cons_zero, List.set_cons_succ]
          refine wpAnyH_done (by kernel_rfl) ?_ _
          refine last_of_list rfl ?_
          clear hHeld4
          have hAf5 := hSB.2.2.2.2.2.2
          obtain ⟨-, -, -, -, r5, r6, -⟩ := hSB
          go_wp2_with fail
          refine NoPanic.normal ?_
          all_goals
            have hAf6 : After w3 w.heap.size 1 (f n) s (wB.setCell ⟨w.heap.size, 3, none⟩ (.slice a2' (c + 1) c2')) := hAf5.set _
            have hz6 : (wB.setCell ⟨w.heap.size, 3, none⟩ (.slice a2' (c + 1) c2')).heap[w.heap.size]? = some (.cells #[.int .i64 1, .int .i64 (f n), .string s, .slice a2' (c + 1) c2'] 24 (0, 0)) := by
              obtain ⟨v0, hv0⟩ := hAf6.box
              rw [hv0, set_inv13 hv0]
            have ho6 : OwnTl (wB.setCell ⟨w.heap.size, 3, none⟩ (.slice a2' (c + 1) c2')) w3.heap.size w.heap.size (.slice a2' (c + 1) c2') (((ks.take c).map (Tm.rn f)) ++ [T1.rn f]) :=
              ho2.kept (by simp) (fun b' _ hb' => Below.heap_setCell wB ⟨w.heap.size, 3, none⟩ _ b' hb') (fun e' => by have := ho2.lt _ e'; have := HA.out.2.2.1; omega)
            rw [← HA.out.2.1] at ho6
            have H6 := Lib.hid (And.intro hAf6 (And.intro hz6 ho6))
            clear hAf6 hz6 ho6 ho2 hg2 hat2 hown' hlit hnew HS HSB hgB hAf5 r5 r6 hsz4 hal hlt3 hdr hb4 hT4
            generalize hW6 : (wB.setCell ⟨w.heap.size, 3, none⟩ (.slice a2' (c + 1) c2')) = w6 at H6 ⊢
            clear hW6
            go_wp2_with fail
            go_roundw
            case rel => exact ⟨c + 1, by simp, hlt, a2', c2', H6.out.1, H6.out.2.1, H6.out.2.2⟩
            case measure => simp [intOf]; omega
        · have hce : c = ks.length := by omega
          subst hce
          rw [List.take_length] at hown
          have y2 := (hAf.same (w.heap.size + 1) (by omega) (by omega)).trans HX2.out
          obtain ⟨x0, x1, x2, x3⟩ := tbox_cells y2
          have xf : ∀ j, wr.frozen? ⟨w.heap.size + 1, j, none⟩ = false := fun j => by simp [World.frozen?, y2]
          obtain ⟨z0, z1, z2, z3⟩ := tbox_cells hbB
          have HE := Lib.hid (And.intro hown (And.intro hwr (And.intro y2 (And.intro hsz3 hAf.size))))
          clear hown hwr y2 hsz3 hAf hbB ih hv
          go_wp2_with fail
          obtain ⟨hown, hwr, y2, hsz3, hsz⟩ := HE.out
          have hb5 := four_block y2 (.int .i64 1) (.int .i64 (f n)) (.string s) (.slice aX ks.length cX)
          have ho5 : ∀ b, w3.heap.size ≤ b → ((((wr.setCell ⟨w.heap.size + 1, 0, none⟩ (.int .i64 1)).setCell ⟨w.heap.size + 1, 1, none⟩ (.int .i64 (f n))).setCell ⟨w.heap.size + 1, 2, none⟩ (.string s)).setCell ⟨w.heap.size + 1, 3, none⟩ (.slice aX ks.length cX)).heap[b]? = wr.heap[b]? := fun b hb => by
            rw [Below.heap_setCell _ _ _ _ (by simp; omega), Below.heap_setCell _ _ _ _ (by simp; omega), Below.heap_setCell _ _ _ _ (by simp; omega), Below.heap_setCell _ _ _ _ (by simp; omega)]
          have hB5 := (((hwr.setCell (p := ⟨w.heap.size + 1, 0, none⟩) (Nat.le_succ _) (.int .i64 1)).setCell (p := ⟨w.heap.size + 1, 1, none⟩) (Nat.le_succ _) (.int .i64 (f n))).setCell (p := ⟨w.heap.size + 1, 2, none⟩) (Nat.le_succ _) (.string s)).setCell (p := ⟨w.heap.size + 1, 3, none⟩) (Nat.le_succ _) (.slice aX ks.length cX)
          have hs5 : ((((wr.setCell ⟨w.heap.size + 1, 0, none⟩ (.int .i64 1)).setCell ⟨w.heap.size + 1, 1, none⟩ (.int .i64 (f n))).setCell ⟨w.heap.size + 1, 2, none⟩ (.string s)).setCell ⟨w.heap.size + 1, 3, none⟩ (.slice aX ks.length cX)).heap.size = wr.heap.size := by simp
          generalize ((((wr.setCell ⟨w.heap.size + 1, 0, none⟩ (.int .i64 1)).setCell ⟨w.heap.size + 1, 1, none⟩ (.int .i64 (f n))).setCell ⟨w.heap.size + 1, 2, none⟩ (.string s)).setCell ⟨w.heap.size + 1, 3, none⟩ (.slice aX ks.length cX)) = w5 at hb5 ho5 hB5 hs5 ⊢
          obtain ⟨f0, f1, f2, f3⟩ := tbox_cells hb5
          refine bodyPost_ret (v := .agg #[.int .i64 1, .int .i64 (f n), .string s, .slice aX ks.length cX]) (by simp [results, Try.f32, go_sem, f0, f1, f2, f3]) rfl ?_
          exact ⟨_, rfl, (hown.ts.carry (q := fun b => w.heap.size ≤ b ∧ b < w5.heap.size) (fun b hb => ho5 b hb.1) (fun b hb => ⟨by have := hb.1; omega, by rw [hs5]; exact hb.2⟩)).term hk hfn hs', hB5⟩
    · rw [if_neg hk1]
      have hkb : (k == 1) = false := by simpa using hk1
      obtain ⟨w3, hw3⟩ : ∃ w3, w3 = ((w.alloc (.cells #[.int .i64 k, .int .i64 n, .string s, .slice none 0 0] 24)).alloc (.cells #[.int .i64 0, .int .i64 0, .string (ByteArray.mk #[]), .slice none 0 0] 24)) := ⟨_, rfl⟩
      have hB3 : Below w.heap.size w w3 := by rw [hw3]; exact ((Below.refl _ w).alloc (Nat.le_refl _) _).alloc (by simp) _
      have hsz3 : w3.heap.size = w.heap.size + 1 + 1 := by rw [hw3]; simp
      have hx3 : w3.heap[w.heap.size]? = some (.cells #[.int .i64 k, .int .i64 n, .string s, .slice none 0 0] 24 (0, 0)) := by rw [hw3]; exact (Below.heap_alloc _ _ _ (by simp)).trans (World.alloc_heap_new _ _)
      have hx2 : w3.heap[w.heap.size + 1]? = some (.cells #[.int .i64 0, .int .i64 0, .string (ByteArray.mk #[]), .slice none 0 0] 24 (0, 0)) := by rw [hw3]; simpa using World.alloc_heap_new (w.alloc (.cells #[.int .i64 k, .int .i64 n, .string s, .slice none 0 0] 24)) (.cells #[.int .i64 0, .int .i64 0, .string (ByteArray.mk #[]), .slice none 0 0] 24)
      have hAf3 : After w3 w.heap.size k n s w3 := ⟨rfl, rfl, rfl, Nat.le_refl _, fun _ _ _ => rfl, ⟨_, hx3⟩, by omega⟩
      have HH := Lib.hid (And.intro (And.intro hsz3 hs) (And.intro hB3 (And.intro hAf3 hx3)))
      have HX2 := Lib.hid hx2
      have HW3 := Lib.hid hw3
      have HM := Lib.hid hmap
      clear hs hw3 hB3 hsz3 hx2 hx3 hAf3 hmap
      go_enter Try.func32, Try.ntmps32
      go_wp2_with fail
      rw [← HW3.out]
      go_loopw [21] (fun i wr => ∃ c : Nat, i = .int .i64 c ∧ c ≤ ks.length ∧ ∃ aX cX, After w3 w.heap.size k n s wr ∧ wr.heap[w.heap.size]? = some (.cells #[.int .i64 k, .int .i64 n, .string s, .slice aX c cX] 24 (0, 0)) ∧ OwnTl wr w3.heap.size w.heap.size (.slice aX c cX) ((ks.take c).map (Tm.rn f))) (fun i _ => ks.length - (intOf i).toNat)
      case atStart => exact ⟨0, rfl, Nat.zero_le _, none, 0, HH.out.2.2.1, HH.out.2.2.2, by rw [List.take_zero]; exact OwnTl.nil _ _ _⟩
      case round =>
        obtain ⟨c, rfl, hcl, aX, cX, hAf, hbB, hown⟩ := hrel
        have hw3 : Below w.heap.size w w3 := HH.out.2.1
        have hsz3 : w3.heap.size = w.heap.size + 1 + 1 := HH.out.1.1
        have hwr : Below w.heap.size w wr := hw3.trans (hAf.isBelow (by omega))
        have hltw : w.heap.size < wr.heap.size := by have := hAf.size; omega
        by_cases hlt : c < ks.length
        · obtain ⟨b, o, k1, n1, s1, a1, l1, c1, T1, rfl, hbn, e0, e1, e2, e3, hT1, ht1⟩ := IsTm.kid hv c hlt
          have q0 := (hwr.cell (p := ⟨b, o + c * 4, none⟩) hbn).trans e0
          have q1 := (hwr.cell (p := ⟨b, o + c * 4 + 1, none⟩) hbn).trans e1
          have q2 := (hwr.cell (p := ⟨b, o + c * 4 + 2, none⟩) hbn).trans e2
          have q3 := (hwr.cell (p := ⟨b, o + c * 4 + 3, none⟩) hbn).trans e3
          have hsz1 := Tm.size_le_sizes (List.mem_of_getElem? hT1)
          have hs0 := HH.out.1.2
          obtain ⟨wk, hwk⟩ : ∃ wk, wk = wr.alloc (.cells #[.int .i64 k1, .int .i64 n1, .string s1, .slice a1 l1 c1] 24) := ⟨_, rfl⟩
          have hkb3 : wk.heap[wr.heap.size]? = some (.cells #[.int .i64 k1, .int .i64 n1, .string s1, .slice a1 l1 c1] 24 (0, 0)) := by rw [hwk]; exact World.alloc_heap_new _ _
          have hBk : Below wr.heap.size wr wk := by rw [hwk]; exact (Below.refl _ _).alloc (Nat.le_refl _) _
          have hszk : wk.heap.size = wr.heap.size + 1 := by rw [hwk]; simp
          have hwwk : Below w.heap.size w wk := hwr.trans (hBk.mono hwr.size)
          have hAfk : After w3 w.heap.size k n s wk := hAf.below hBk
          have hbBk := (hBk.block w.heap.size hltw).trans hbB
          have hownk : OwnTl wk w3.heap.size w.heap.size (.slice aX c cX) ((ks.take c).map (Tm.rn f)) := hown.kept hBk.size (fun b' hb' _ => hBk.block b' hb') (fun e' => by have := hown.lt _ e'; omega)
          have hmapk : MapAt wk m N D := HM.out.below hwwk
          have hrow : ∀ b', (Value.slice aX c cX).ownBlock = some b' → b' < wr.heap.size := hown.lt2
          have hnew : ∀ w', Below wk.heap.size wk w' → Calls Try.prog 32 #[.agg #[.int .i64 k1, .int .i64 n1, .string s1, .slice a1 l1 c1], .map (some m)] w' fun e w4 => ∃ k4 n4 s4 a4 l4 c4, e = .returned (.agg #[.int .i64 k4, .int .i64 n4, .string s4, .slice a4 l4 c4]) ∧ TmIn (fun b => wk.heap.size ≤ b ∧ b < w4.heap.size) w4 (.agg #[.int .i64 k4, .int .i64 n4, .string s4, .slice a4 l4 c4]) (T1.rn f) ∧ Below wk.heap.size wk w4 := fun w' hb =>
            (ih T1 (List.mem_of_getElem? hT1) _ w' (IsTm.later (hwwk.trans (hb.mono hwwk.size)) (hwwk.trans (hb.mono hwwk.size)).size ht1) (hmapk.below hb) (by omega)).mono fun e w4 h => by
              obtain ⟨r, rfl, hr, hb4⟩ := h
              obtain ⟨k4, n4, s4, a4, l4, c4, ks4, rfl, -⟩ := hr.form
              exact ⟨k4, n4, s4, a4, l4, c4, rfl, hr.carry (fun _ _ => rfl) (fun b hb' => ⟨Nat.le_trans hb.size hb'.1, hb'.2⟩), hb.trans (hb4.mono hb.size)⟩
          have hsucc : ((ks.take (c + 1)).map (Tm.rn f)) = ((ks.take c).map (Tm.rn f)) ++ [T1.rn f] := by
            have e : ks.take (c + 1) = ks.take c ++ [T1] := by rw [List.take_add_one, hT1]; rfl
            rw [e, List.map_append]; rfl
          have hll : ((ks.take c).map (Tm.rn f)).length + [T1.rn f].length ≤ 1000000000000 := by rw [List.length_map, List.length_take]; simp; omega
          have hown' : ∀ (v : Value) w', v = .slice aX c cX → Below wk.heap.size wk w' → OwnTl w' w3.heap.size w.heap.size v ((ks.take c).map (Tm.rn f)) := fun v w' e hb => by
            rw [e]
            exact hownk.kept hb.size (fun b' hb' _ => hb.block b' hb') (fun e' => by have := hownk.lt _ e'; omega)
          have hlit : ∀ (v : Value) w4 k4 n4 s4 a4 l4 c4, v = .slice aX c cX → Below wk.heap.size wk w4 → TmIn (fun b => wk.heap.size ≤ b ∧ b < w4.heap.size) w4 (.agg #[.int .i64 k4, .int .i64 n4, .string s4, .slice a4 l4 c4]) (T1.rn f) → TsIn (PvL (w4.alloc (.cells #[.int .i64 k4, .int .i64 n4, .string s4, .slice a4 l4 c4] 24)) w3.heap.size w.heap.size v) (w4.alloc (.cells #[.int .i64 k4, .int .i64 n4, .string s4, .slice a4 l4 c4] 24)) (.slice (some ⟨w4.heap.size, 0, none⟩) 1 1) [T1.rn f] := fun v w4 k4 n4 s4 a4 l4 c4 e hb hT => by
            have h3 := hAfk.size
            have h4 := hb.size
            have hlt2 := hownk.lt2
            have hblk : (w4.alloc (.cells #[.int .i64 k4, .int .i64 n4, .string s4, .slice a4 l4 c4] 24)).heap[w4.heap.size]? = some (.cells #[.int .i64 k4, .int .i64 n4, .string s4, .slice a4 l4 c4] 24 (0, 0)) := World.alloc_heap_new _ _
            obtain ⟨c0', c1', c2', c3'⟩ := tbox_cells hblk
            refine ⟨some ⟨w4.heap.size, 0, none⟩, 1, rfl, by simp, by unfold maxLen; omega, (fun h => by cases h), fun i hi => ?_⟩
            have hi' : i = 0 := by simp at hi; omega
            subst hi'
            exact ⟨w4.heap.size, 0, k4, n4, s4, a4, l4, c4, rfl, ⟨by simp, fun e' => by have := hlt2 _ (by rw [← e]; exact e'); omega, by omega, by omega⟩, c0', c1', c2', c3', hT.carry (fun b' hb' => Below.heap_alloc _ _ _ hb'.2) (fun b' hb' => ⟨by have := hb'.2; simp; omega, fun e' => by have := hlt2 _ (by rw [← e]; exact e'); have := hb'.1; omega, by have := hb'.1; omega, by have := hb'.1; omega⟩)⟩
          have hsz4 : ∀ w' (o' : Obj), Below wk.heap.size wk w' → w3.heap.size ≤ (w'.alloc o').heap.size ∧ w.heap.size < (w'.alloc o').heap.size := fun w' o' hb => by have h1 := hb.size; have h2 := hAfk.size; simp; omega
          have hal : ∀ w' (o' : Obj), Below wk.heap.size wk w' → Below wk.heap.size wk (w'.alloc o') := fun w' o' h => h.alloc h.size o'
          have hlt3 : ∀ v : Value, v = .slice aX c cX → ∀ b', v.ownBlock = some b' → w3.heap.size ≤ b' := fun v e b' e' => hown.lt b' (by rw [← e]; exact e')
          have hdr : Below wk.heap.size wk wk.drew := (Below.refl _ _).drew
          have HS : ∀ w', After w3 w.heap.size k n s w' → w'.cell? ⟨w.heap.size, 3, none⟩ = some (.slice aX c cX) → w'.heap[wr.heap.size]? = some (.cells #[.int .i64 k1, .int .i64 n1, .string s1, .slice a1 l1 c1] 24 (0, 0)) → (w'.cell? ⟨wr.heap.size, 0, none⟩ = some (.int .i64 k1) ∧ w'.cell? ⟨wr.heap.size, 1, none⟩ = some (.int .i64 n1) ∧ w'.cell? ⟨wr.heap.size, 2, none⟩ = some (.string s1) ∧ w'.cell? ⟨wr.heap.size, 3, none⟩ = some (.slice a1 l1 c1) ∧ w'.cell? ⟨w.heap.size, 3, none⟩ = some (.slice aX c cX) ∧ w'.frozen? ⟨w.heap.size, 3, none⟩ = false ∧ After w3 w.heap.size k n s w') := fun w' h hc hkk =>
            ⟨(tbox_cells hkk).1, (tbox_cells hkk).2.1, (tbox_cells hkk).2.2.1, (tbox_cells hkk).2.2.2, hc, h.some.2, h⟩
          have hcB : ∀ w', Below wk.heap.size wk w' → w'.cell? ⟨w.heap.size, 3, none⟩ = some (.slice aX c cX) := fun w' h => (tbox_cells (tbox_below hbBk h)).2.2.2
          have HSB := fun w' (h : Below wk.heap.size wk w') => HS w' (hAfk.below h) (hcB w' h) (tbox_below hkb3 h)
          have hgB := fun wx wB (h : Below wk.heap.size wk wx) (hg : wx.grownBy wB (Value.slice aX c cX).ownBlock) => HS wB (After.grown (hAfk.below h) hg (hlt3 _ rfl)) ((World.cell?_of_block (a := ⟨w.heap.size, 3, none⟩) (hg.block w.heap.size (by have h1 := h.size; have h2 := hAfk.size; omega) (fun e => by have := hlt3 _ rfl _ e.symm; omega))).trans (hcB wx h)) ((hg.block wr.heap.size (by have h1 := h.size; omega) (fun e => by have := hrow _ e.symm; omega)).trans (tbox_below hkb3 h))
          have HA := Lib.hid (And.intro hAfk (And.intro hsucc (And.intro hsz3 hbBk)))
          have hlenX : (((ks.take c).map (Tm.rn f)) ++ [T1.rn f]).length = c + 1 := by rw [List.length_append, List.length_map, List.length_take]; simp; omega
          have HLX := Lib.hid hlenX
          have HWK := Lib.hid hwk
          clear hcB hsz3 hsucc hbB hbBk hown hownk hAf hAfk hlenX e0 e1 e2 e3 hsz1 hs0 hT1 ht1 ih hv hwk hkb3 hBk hszk hwwk hmapk hrow
          go_wp2_with fail
          rw [← HWK.out]
          clear q0 q1 q2 q3
          refine wp_region_noPanic ?_
          refine wp_region_last (S := (fun w' => (w'.cell? ⟨wr.heap.size, 0, none⟩ = some (.int .i64 k1) ∧ w'.cell? ⟨wr.heap.size, 1, none⟩ = some (.int .i64 n1) ∧ w'.cell? ⟨wr.heap.size, 2, none⟩ = some (.string s1) ∧ w'.cell? ⟨wr.heap.size, 3, none⟩ = some (.slice a1 l1 c1) ∧ w'.cell? ⟨w.heap.size, 3, none⟩ = some (.slice aX c cX) ∧ w'.frozen? ⟨w.heap.size, 3, none⟩ = false ∧ After w3 w.heap.size k n s w'))) 8 (by kernel_rfl) (by kernel_rfl) (HSB _ hdr) (fun hHeld => ?_)
          simp only [List.take_succ_cons, List.take_zero]
          refine wpAnyH_take (i := 0) (v := ?vve_0) rfl (by kernel_rfl) (by kernel_rfl) (by kernel_rfl) (fun _ _ _ h => h) (Or.inl ⟨by rfl, ?hye_0⟩) hHeld ?reste_0
          case hye_0 =>
            intro w0 hSw
            (try dsimp only at hSw)
            go_simp
            try (with_reducible rfl)
          try simp only [Act.put, List.setIfInBounds_toArray, List.set_cons_zero, List.set_cons_succ]
          refine wpAnyH_take (i := 1) (v := ?vve_1) rfl (by kernel_rfl) (by kernel_rfl) (by kernel_rfl) (fun _ _ _ h => h) (Or.inl ⟨by rfl, ?hye_1⟩) hHeld ?reste_1
          case hye_1 =>
            intro w0 hSw
            (try dsimp only at hSw)
            go_simp
            try (with_reducible rfl)
          try simp only [Act.put, List.setIfInBounds_toArray, List.set_cons_zero, List.set_cons_succ]
          refine wpAnyH_take (i := 2) (v := ?vve_2) rfl (by kernel_rfl) (by kernel_rfl) (by kernel_rfl) (fun _ _ _ h => h) (Or.inl ⟨by rfl, ?hye_2⟩) hHeld ?reste_2
          case hye_2 =>
            intro w0 hSw
            (try dsimp only at hSw)
            go_simp
            try (with_reducible rfl)
          try simp only [Act.put, List.setIfInBounds_toArray, List.set_cons_zero, List.set_cons_succ]
          refine wpAnyH_take (i := 3) (v := ?vve_3) rfl (by kernel_rfl) (by kernel_rfl) (by kernel_rfl) (fun _ _ _ h => h) (Or.inl ⟨by rfl, ?hye_3⟩) hHeld ?reste_3
          case hye_3 =>
            intro w0 hSw
            (try dsimp only at hSw)
            go_simp
            try (with_reducible rfl)
          try simp only [Act.put, List.setIfInBounds_toArray, List.set_cons_zero, List.set_cons_succ]
          refine wpAnyH_ready (rs := [4]) (by kernel_rfl) (by simp) ?_
          refine AllReadyH.cons rfl (fun K hK => ?_) AllReadyH.nil
          go_simp
          with_reducible refine (hnew _ hdr).mono ?_
          rintro e w4 ⟨k4, n4, s4, a4, l4, c4, rfl, hT4, hb4⟩
          go_wp2_with fail
          refine hK.out _ _ (HSB _ hb4) (fun hHeld2 => ?_)
          clear hK K hHeld
          try simp only [Act.put, List.setIfInBounds_toArray, List.set_cons_zero, List.set_cons_succ]
          refine wpAnyH_ready (rs := [5]) (by kernel_rfl) (by simp) ?_
          refine AllReadyH.cons rfl (fun K hK => ?_) AllReadyH.nil
          go_simp
          refine hK.out _ _ (HSB _ (hal _ _ hb4)) (fun hHeld3 => ?_)
          clear hK K hHeld2
          try simp only [Act.put, List.setIfInBounds_toArray, List.set_cons_zero, List.set_cons_succ]
          refine wpAnyH_ready (rs := [6]) (by kernel_rfl) (by simp) ?_
          refine AllReadyH.cons rfl (fun K hK => ?_) AllReadyH.nil
          refine step_append_tl rfl (.tmp 26) (.tmp 30) rfl w3.heap.size w.heap.size (.slice aX c cX) _ ((ks.take c).map (Tm.rn f)) [T1.rn f] rfl rfl (hown' _ _ rfl (hal _ _ hb4)) (hlit _ _ _ _ _ _ _ _ rfl hb4 hT4) hll (hsz4 _ _ hb4).1 (hsz4 _ _ hb4).2 ?_
          intro v2 wB ho2 hg2 hat2
          obtain ⟨a2', c2', e2⟩ := ho2.form
          rw [HLX.out] at e2
          subst e2
          have hSB := hgB _ wB (hal _ _ hb4) hg2
          refine hK.out _ _ hSB (fun hHeld4 => ?_)
          clear hK K hHeld3
          try simp only [Act.put, List.setIfInBounds_toArray, List.set_cons_zero, List.set_cons_succ]
          refine wpAnyH_take (i := 7) (v := ?vve_11) rfl (by kernel_rfl) (by kernel_rfl) (by kernel_rfl) (fun _ _ _ h => h) (Or.inl ⟨by rfl, ?hye_11⟩) hHeld4 ?reste_11
          case hye_11 =>
            intro w0 hSw
            (try dsimp only at hSw)
            go_simp
            try (with_reducible rfl)
          try simp only [Act.put, List.setIfInBounds_toArray, List.set_cons_zero, List.set_cons_succ]
          refine wpAnyH_done (by kernel_rfl) ?_ _
          refine last_of_list rfl ?_
          clear hHeld4
          have hAf5 := hSB.2.2.2.2.2.2
          obtain ⟨-, -, -, -, r5, r6, -⟩ := hSB
          go_wp2_with fail
          refine NoPanic.normal ?_
          all_goals
            have hAf6 : After w3 w.heap.size k n s (wB.setCell ⟨w.heap.size, 3, none⟩ (.slice a2' (c + 1) c2')) := hAf5.set _
            have hz6 : (wB.setCell ⟨w.heap.size, 3, none⟩ (.slice a2' (c + 1) c2')).heap[w.heap.size]? = some (.cells #[.int .i64 k, .int .i64 n, .string s, .slice a2' (c + 1) c2'] 24 (0, 0)) := by
              obtain ⟨v0, hv0⟩ := hAf6.box
              rw [hv0, set_inv13 hv0]
            have ho6 : OwnTl (wB.setCell ⟨w.heap.size, 3, none⟩ (.slice a2' (c + 1) c2')) w3.heap.size w.heap.size (.slice a2' (c + 1) c2') (((ks.take c).map (Tm.rn f)) ++ [T1.rn f]) :=
              ho2.kept (by simp) (fun b' _ hb' => Below.heap_setCell wB ⟨w.heap.size, 3, none⟩ _ b' hb') (fun e' => by have := ho2.lt _ e'; have := HA.out.2.2.1; omega)
            rw [← HA.out.2.1] at ho6
            have H6 := Lib.hid (And.intro hAf6 (And.intro hz6 ho6))
            clear hAf6 hz6 ho6 ho2 hg2 hat2 hown' hlit hnew HS HSB hgB hAf5 r5 r6 hsz4 hal hlt3 hdr hb4 hT4
            generalize hW6 : (wB.setCell ⟨w.heap.size, 3, none⟩ (.slice a2' (c + 1) c2')) = w6 at H6 ⊢
            clear hW6
            go_wp2_with fail
            go_roundw
            case rel => exact ⟨c + 1, by simp, hlt, a2', c2', H6.out.1, H6.out.2.1, H6.out.2.2⟩
            case measure => simp [intOf]; omega
        · have hce : c = ks.length := by omega
          subst hce
          rw [List.take_length] at hown
          have y2 := (hAf.same (w.heap.size + 1) (by omega) (by omega)).trans HX2.out
          obtain ⟨x0, x1, x2, x3⟩ := tbox_cells y2
          have xf : ∀ j, wr.frozen? ⟨w.heap.size + 1, j, none⟩ = false := fun j => by simp [World.frozen?, y2]
          obtain ⟨z0, z1, z2, z3⟩ := tbox_cells hbB
          have HE := Lib.hid (And.intro hown (And.intro hwr (And.intro y2 (And.intro hsz3 hAf.size))))
          clear hown hwr y2 hsz3 hAf hbB ih hv
          go_wp2_with fail
          obtain ⟨hown, hwr, y2, hsz3, hsz⟩ := HE.out
          have hb5 := four_block y2 (.int .i64 k) (.int .i64 n) (.string s) (.slice aX ks.length cX)
          have ho5 : ∀ b, w3.heap.size ≤ b → ((((wr.setCell ⟨w.heap.size + 1, 0, none⟩ (.int .i64 k)).setCell ⟨w.heap.size + 1, 1, none⟩ (.int .i64 n)).setCell ⟨w.heap.size + 1, 2, none⟩ (.string s)).setCell ⟨w.heap.size + 1, 3, none⟩ (.slice aX ks.length cX)).heap[b]? = wr.heap[b]? := fun b hb => by
            rw [Below.heap_setCell _ _ _ _ (by simp; omega), Below.heap_setCell _ _ _ _ (by simp; omega), Below.heap_setCell _ _ _ _ (by simp; omega), Below.heap_setCell _ _ _ _ (by simp; omega)]
          have hB5 := (((hwr.setCell (p := ⟨w.heap.size + 1, 0, none⟩) (Nat.le_succ _) (.int .i64 k)).setCell (p := ⟨w.heap.size + 1, 1, none⟩) (Nat.le_succ _) (.int .i64 n)).setCell (p := ⟨w.heap.size + 1, 2, none⟩) (Nat.le_succ _) (.string s)).setCell (p := ⟨w.heap.size + 1, 3, none⟩) (Nat.le_succ _) (.slice aX ks.length cX)
          have hs5 : ((((wr.setCell ⟨w.heap.size + 1, 0, none⟩ (.int .i64 k)).setCell ⟨w.heap.size + 1, 1, none⟩ (.int .i64 n)).setCell ⟨w.heap.size + 1, 2, none⟩ (.string s)).setCell ⟨w.heap.size + 1, 3, none⟩ (.slice aX ks.length cX)).heap.size = wr.heap.size := by simp
          generalize ((((wr.setCell ⟨w.heap.size + 1, 0, none⟩ (.int .i64 k)).setCell ⟨w.heap.size + 1, 1, none⟩ (.int .i64 n)).setCell ⟨w.heap.size + 1, 2, none⟩ (.string s)).setCell ⟨w.heap.size + 1, 3, none⟩ (.slice aX ks.length cX)) = w5 at hb5 ho5 hB5 hs5 ⊢
          obtain ⟨f0, f1, f2, f3⟩ := tbox_cells hb5
          refine bodyPost_ret (v := .agg #[.int .i64 k, .int .i64 n, .string s, .slice aX ks.length cX]) (by simp [results, Try.f32, go_sem, f0, f1, f2, f3]) rfl ?_
          exact ⟨_, rfl, (hown.ts.carry (q := fun b => w.heap.size ≤ b ∧ b < w5.heap.size) (fun b hb => ho5 b hb.1) (fun b hb => ⟨by have := hb.1; omega, by rw [hs5]; exact hb.2⟩)).term hk hn hs', hB5⟩
end Go.Proofs.Ytlnggaepmclbkaa
