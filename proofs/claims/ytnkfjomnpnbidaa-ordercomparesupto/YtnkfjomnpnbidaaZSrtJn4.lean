/-
  order.Sort of a list: its first half: the entries.
-/
import Derived.Test.YtnkfjomnpnbidaaZChecksMn4
import Derived.Test.YtnkfjomnpnbidaaZSrtN
import Derived.Test.YtnkfjomnpnbidaaZLastn2
import Derived.Deep.Cut
import Derived.Deep.DeepCutAuto
import Derived.Deep.RegionHeld3
import Derived.Test.YtnkfjomnpnbidaaZSrtF
import Derived.Test.YtnkfjomnpnbidaaZSamen2
namespace Go.Proofs.Ytnkfjomnpnbidaa
open Go.Shelf Go.RowKit Go.Lib Go.Sort
set_option linter.unusedVariables false

theorem SWb.later {α : Type} [Inhabited α] {enc : α → List Value} {k : Nat} {w0 W W' : World} {blk off : Nat} {d : Array α} (h : SWb enc k w0 blk off d W) (hb : blk < w0.heap.size) (g : Below w0.heap.size W W') : SWb enc k w0 blk off d W' :=
  ⟨g.os.trans h.os, g.tape.trans h.tape, g.output.trans h.output, Nat.le_trans h.size g.size, fun b hb' hne => (g.block b hb').trans (h.keep b hb' hne), holds_of_block h.holds (g.block blk hb)⟩
theorem SWb.from_w {α : Type} [Inhabited α] {enc : α → List Value} {k : Nat} {w w0 W : World} {blk off : Nat} {d : Array α} (h : SWb enc k w0 blk off d W) (g : Below w.heap.size w w0) (hb : w.heap.size ≤ blk) : Below w.heap.size w W :=
  ⟨h.os.trans g.os, h.tape.trans g.tape, h.output.trans g.output, Nat.le_trans g.size h.size, fun b hb' => (h.keep b (Nat.lt_of_lt_of_le hb' g.size) (by omega)).trans (g.block b hb')⟩
theorem FillE.array {w W : World} {B n : Nat} {ks : List Tm} (h : FillE w W B n n ks) (hn : ks.length = n) (hB : Below w.heap.size w W) (hb : w.heap.size ≤ B) (hs : ∀ t ∈ ks, t.size ≤ 1000000000000) :
    ∃ d : Array (Ent W B), d.size = n ∧ SWb Ent.enc 8 W B 0 d W ∧ d.toList.map Ent.T = ks ∧ ∀ i, i < n → d[i]!.tag = i := by
  classical
  obtain ⟨cur, h1, h2⟩ := h.row
  have ex : ∀ i : Fin n, ∃ e : Ent W B, (∀ (j : Nat) (u : Value), e.x.cells[j]? = some u → W.cell? ⟨B, i.1 * 8 + j, none⟩ = some u) ∧ some e.T = ks[i.1]? ∧ e.tag = i.1 := fun i => by
    have hi : i.1 < ks.length := by have := i.2; omega
    obtain ⟨x, hc, hT, hE⟩ := h.ents i.1 ks[i.1] i.2 (List.getElem?_eq_getElem hi)
    exact ⟨⟨x, ks[i.1], i.1, hT.carry (fun b hb' => hB.block b hb') (fun b hb' => ⟨by omega, Nat.lt_of_lt_of_le hb' hB.size⟩), hE.carry (fun _ _ => rfl) (fun b hb' => ⟨by omega, hb'.2⟩), hs _ (List.getElem_mem _)⟩, hc, (List.getElem?_eq_getElem hi).symm, rfl⟩
  let f : Fin n → Ent W B := fun i => Classical.choose (ex i)
  have hf : ∀ i : Fin n, (∀ (j : Nat) (u : Value), (f i).x.cells[j]? = some u → W.cell? ⟨B, i.1 * 8 + j, none⟩ = some u) ∧ some (f i).T = ks[i.1]? ∧ (f i).tag = i.1 := fun i => Classical.choose_spec (ex i)
  have get : ∀ i (hi : i < n), (Array.ofFn f)[i]! = f ⟨i, hi⟩ := fun i hi => by rw [getElem!_pos _ i (by simpa using hi)]; simp
  refine ⟨Array.ofFn f, by simp, ⟨rfl, rfl, rfl, Nat.le_refl _, fun _ _ _ => rfl, fun t ht => ?_⟩, ?_, fun i hi => by rw [get i hi]; exact (hf ⟨i, hi⟩).2.2⟩
  · have ht' : t < n * 8 := by simpa using ht
    have hq : t / 8 < n := by omega
    rw [get_flatK _ _ _ t (by simpa using ht'), get _ hq]
    have hlen : t % 8 < (f ⟨t / 8, hq⟩).x.cells.length := by rw [Q8.cells_length]; omega
    have e := (hf ⟨t / 8, hq⟩).1 (t % 8) _ (List.getElem?_eq_getElem hlen)
    rw [show t / 8 * 8 + t % 8 = t by omega] at e
    refine ⟨?_, by simp [World.frozen?, h1]⟩
    rw [Nat.zero_add, e]
    simp only [Ent.enc, id]
    rw [getElem!_pos (f ⟨t / 8, hq⟩).x.cells (t % 8) hlen]
  · apply List.ext_getElem?
    intro i
    by_cases hi : i < n
    · rw [List.getElem?_map, List.getElem?_eq_getElem (by simpa using hi), Option.map_some]
      have := (hf ⟨i, hi⟩).2.1
      simpa using this
    · rw [List.getElem?_eq_none (by simpa using hi), List.getElem?_eq_none (by omega)]

set_option maxHeartbeats 8000000 in
set_option maxRecDepth 1000000 in
theorem sort_at (n : Nat) (hn1 : n ≤ 1000000000) (hyp : ∀ (w0 : World) (blk : Nat), blk < w0.heap.size → StableSays Try.prog 8 (Ent.enc (w0 := w0) (blk := blk)) Ent.cf Ent.tag 36 #[] w0 blk 0 n n)
    (v : Value) (ks : List Tm) (w : World) (hv : HasTs w v ks) (hn : ks.length = n) (hs : ∀ t ∈ ks, t.size ≤ 1000000000000) :
    Calls Try.prog 15 #[v] w (NewTs w (sortT ks)) := by
  obtain ⟨a, cap, rfl, hc, hm, ha, hx⟩ := id hv
  have hmk := make_entries n (by omega)
  have hze := zeroEntry
  have hzt := zeroTerm
  have HYP : Aside _ := hyp
  have HS := Lib.hid hs
  clear hyp hv hs
  rw [hn]
  go_enter Try.func15, Try.ntmps15
  go_wp2_with fail
  go_loopw [14] (fun i wr => ∃ c : Nat, i = .int .i64 c ∧ c ≤ n ∧ FillE w wr w.heap.size c n ks ∧ Below w.heap.size w wr) (fun i _ => n - (intOf i).toNat)
  case atStart =>
    exact ⟨0, rfl, Nat.zero_le _, ⟨⟨_, World.alloc_heap_new _ _, by rw [size_madeCells]⟩, fun i t hi => absurd hi (Nat.not_lt_zero _)⟩, (Below.refl _ w).alloc (Nat.le_refl _) _⟩
  case round =>
    obtain ⟨c, rfl, hcl, hF, hB⟩ := hrel
    by_cases hlt : c < n
    · have hltz : (c : Int) < (n : Int) := by omega
      obtain ⟨b, o, k', n', s', a', l', c', rfl, hbn, c0, c1, c2, c3, ht⟩ := hx c (by omega)
      have hbn' : b < w.heap.size := hbn
      have q0 := (hB.cell (p := ⟨b, o + c * 4, none⟩) hbn').trans c0
      have q1 := (hB.cell (p := ⟨b, o + c * 4 + 1, none⟩) hbn').trans c1
      have q2 := (hB.cell (p := ⟨b, o + c * 4 + 2, none⟩) hbn').trans c2
      have q3 := (hB.cell (p := ⟨b, o + c * 4 + 3, none⟩) hbn').trans c3
      have hTw : TmIn (fun b => b < w.heap.size) w (.agg #[.int .i64 k', .int .i64 n', .string s', .slice a' l' c']) ks[c] := ht
      have ht1 : Has wr (.agg #[.int .i64 k', .int .i64 n', .string s', .slice a' l' c']) ks[c] := IsTm.later hB hB.size ht
      obtain ⟨w2, hw2⟩ : ∃ w2, w2 = wr.alloc (.cells #[.int .i64 k', .int .i64 n', .string s', .slice a' l' c'] 24) := ⟨_, rfl⟩
      have hb2 : Below wr.heap.size wr w2 := by rw [hw2]; exact (Below.refl _ wr).alloc (Nat.le_refl _) _
      have hx2 : w2.heap[wr.heap.size]? = some (.cells #[.int .i64 k', .int .i64 n', .string s', .slice a' l' c'] 24 (0, 0)) := by rw [hw2]; exact World.alloc_heap_new _ _
      have hih : ∀ w3, Below w2.heap.size w2 w3 → Calls Try.prog 19 #[.agg #[.int .i64 k', .int .i64 n', .string s', .slice a' l' c']] w3 fun e w4 => ∃ (k4 n4 : Int) (s4 : ByteArray) (a4 : Option Addr) (l4 c4 : Nat), e = .returned (.agg #[.int .i64 k4, .int .i64 n4, .string s4, .slice a4 l4 c4]) ∧ Below w2.heap.size w2 w4 ∧ TmIn (fun b => w.heap.size < b ∧ b < w4.heap.size) w4 (.agg #[.int .i64 k4, .int .i64 n4, .string s4, .slice a4 l4 c4]) ks[c].er := fun w3 h3 =>
        (erase_at _ ks[c] w3 (Has.below (Has.below ht1 hb2) h3) (HS.out _ (List.getElem_mem _))).mono fun e w4 h4 => by
          obtain ⟨r, rfl, hr, hb4⟩ := h4
          obtain ⟨k4, n4, s4, a4, l4, c4, ks4, rfl, -⟩ := hr.form
          obtain ⟨cur, hcur, _⟩ := hF.row
          have hltB : w.heap.size < wr.heap.size := (Array.getElem?_eq_some_iff.1 hcur).1
          have h23 : wr.heap.size ≤ w3.heap.size := Nat.le_trans hb2.size h3.size
          exact ⟨k4, n4, s4, a4, l4, c4, rfl, h3.trans (hb4.mono h3.size), hr.carry (fun _ _ => rfl) (fun b hb => ⟨by omega, hb.2⟩)⟩
      clear c0 c1 c2 c3 ht hx ht1
      have y := tbox_cells hx2
      have HW2 := Lib.hid hw2
      have HR : Hid (∀ w4, Below w2.heap.size w2 w4 → FillE w w4 w.heap.size c n ks ∧ Below w.heap.size w w4) := fun w4 hb4 => ⟨(hF.below hb2).below hb4, (hB.trans (hb2.mono hB.size)).trans (hb4.mono (Nat.le_trans hB.size hb2.size))⟩
      have hx2' := Lib.hid hx2
      have hTw' := Lib.hid hTw
      go_upto_region 5 with fail
      rw [← HW2.out]
      obtain ⟨y0, y1, y2, y3⟩ := y
      clear q0 q1 q2 q3 hw2 hF hB hb2 hx2 hTw
      go_region_with (go_at_call 19; (with_reducible refine (hih _ ?_).mono ?_); (repeat (first | with_reducible exact Below.refl _ _ | with_reducible apply below_al | with_reducible apply below_dr | ((with_reducible apply below_tr); (with_reducible assumption)))); rintro e w4 ⟨k4, n4, s4, a4, l4, c4, rfl, hb4, hT4⟩; obtain ⟨u0, u1, u2, u3, u4, u5, u6, u7, e0, e1, e2, e3, e4, e5, e6, e7, ef⟩ := (HR.out w4 hb4).1.spot c hlt; obtain ⟨z0, z1, z2, z3⟩ := tbox_cells (tbox_below hx2'.out hb4))
      all_goals
        have hset := (HR.out w4 hb4).1.set hlt (List.getElem?_eq_getElem (by omega)) ⟨⟨k', n', s', a', l', c'⟩, ⟨k4, n4, s4, a4, l4, c4⟩⟩ hTw'.out hT4
        have HF := Lib.hid hset
        clear hset
        go_wp2_with fail
        exact ⟨⟨c + 1, by simp, hlt, HF.out, ((((((((HR.out w4 hb4).2.setCell (p := ⟨w.heap.size, _, none⟩) (Nat.le_refl _) _).setCell (p := ⟨w.heap.size, _, none⟩) (Nat.le_refl _) _).setCell (p := ⟨w.heap.size, _, none⟩) (Nat.le_refl _) _).setCell (p := ⟨w.heap.size, _, none⟩) (Nat.le_refl _) _).setCell (p := ⟨w.heap.size, _, none⟩) (Nat.le_refl _) _).setCell (p := ⟨w.heap.size, _, none⟩) (Nat.le_refl _) _).setCell (p := ⟨w.heap.size, _, none⟩) (Nat.le_refl _) _).setCell (p := ⟨w.heap.size, _, none⟩) (Nat.le_refl _) _⟩, by simp [intOf]; omega⟩
    · have hce : c = n := by omega
      subst c
      have hltz : ¬ (n : Int) < (n : Int) := by omega
      obtain ⟨W0, rfl⟩ : ∃ W0, W0 = wr := ⟨_, rfl⟩
      have hBlt : w.heap.size < W0.heap.size := by obtain ⟨cur, h1, _⟩ := hF.row; exact (Array.getElem?_eq_some_iff.1 h1).1
      obtain ⟨d, hds, S, hdT, hdt⟩ := FillE.array hF hn hB (Nat.le_refl _) HS.out
      have hst := sortStable_at (P := Try.prog) 8 Try.lo Ent.enc Ent.cf Ent.tag 36 #[] W0 w.heap.size 0 n n (HYP.out W0 w.heap.size hBlt) (by omega) d W0 S hds (fun p q h1 h2 => by rw [hdt p (by omega), hdt q h2]; exact h1)
      have hcf : ∀ (d1 : Array (Ent W0 w.heap.size)) (w1 : World), SWb Ent.enc 8 W0 w.heap.size 0 d1 w1 → d1.size = n → Calls Try.prog 37 #[.slice (some ⟨w.heap.size, 0, none⟩) n n, .func (.func 38) #[] #[]] w1 fun e w' => ∃ d' : Array (Ent W0 w.heap.size), e = .returned (.slice (some ⟨w.heap.size, 0, none⟩) d'.size n) ∧ d'.toList = keptUpTo (keepsF Ent.ef d1) d1 d1.size ∧ SWb Ent.enc 8 W0 w.heap.size 0 d' w' := fun d1 w1 S1 h => by
        rw [← h]
        exact compactF_at (P := Try.prog) 8 Try.lo Ent.enc Ent.ef 38 #[] W0 w.heap.size 0 d1.size d1 w1 _ zeroEntry rfl (fun i hi => by rcases (by omega : i = 0 ∨ i = 1 ∨ i = 2 ∨ i = 3 ∨ i = 4 ∨ i = 5 ∨ i = 6 ∨ i = 7) with rfl | rfl | rfl | rfl | rfl | rfl | rfl | rfl <;> rfl) (enters_of Try.func38 (by kernel_rfl) rfl) (Ent.row hBlt) Ent.eq_says S1 (by omega) (Nat.le_refl _) (by omega)
      have HD : Hid (d.size = n ∧ d.toList.map Ent.T = ks ∧ (∀ i, i < n → d[i]!.tag = i) ∧ Below w.heap.size w W0) := ⟨hds, hdT, hdt, hB⟩
      have HCF := Lib.hid hcf
      clear hF hB S hdT hdt hds hcf hx
      go_upto_region 9 with (first
        | (go_at_call 37; refine (HCF.out d1 w1 S1 (hp1.1.trans HD.out.1)).mono ?_; rintro e w2 ⟨d2, rfl, hd2, S2⟩)
        | (go_at_call 35; refine hst.mono ?_; clear hst; rintro e w1 ⟨rfl, d1, S1, hp1, hs1⟩))
      have hmap : d2.toList.map Ent.T = sortT ks := by
        rw [hd2, ← HD.out.2.1]
        exact stable_left (f := Ent.T) (fun _ _ => rfl) (fun _ _ => rfl) HD.out.1 hp1 hs1 (fun p q h1 h2 => by rw [HD.out.2.2.1 p (by omega), HD.out.2.2.1 q h2]; exact h1)
      have hsz2 : d2.size ≤ n := by
        have h1 : (sortT ks).length ≤ ks.length := sortT_length ks
        rw [← hmap] at h1; simpa [hn] using h1
      have HM := Lib.hid hmap
      have hmk2 := make_terms d2.size (by omega)
      clear hmap hd2 hp1 hs1 S1 hmk
      have S3 : Aside _ := S2
      have hBw2 : Below w.heap.size w w2 := S2.from_w HD.out.2.2.2 (Nat.le_refl _)
      have HB2 := Lib.hid (And.intro hBw2 S2.size)
      clear S2 hBw2
      have hwB2 : w.heap.size ≤ w2.heap.size := HB2.out.1.size
      have hWB2 : W0.heap.size ≤ w2.heap.size := HB2.out.2
      go_wp2_with fail
      go_loopw [36] (fun i wr => ∃ c : Nat, i = .int .i64 c ∧ c ≤ d2.size ∧ FillF wr w2.heap.size c d2.size (fun t => t) (sortT ks) ∧ SWb Ent.enc 8 W0 w.heap.size 0 d2 wr ∧ Below w.heap.size w wr) (fun i _ => d2.size - (intOf i).toNat)
      case atStart =>
        exact ⟨0, rfl, Nat.zero_le _, ⟨⟨_, World.alloc_heap_new _ _, by rw [size_madeCells]⟩, fun i t hi => absurd hi (Nat.not_lt_zero _)⟩, S3.out.later hBlt ((Below.refl _ w2).alloc HB2.out.2 _), HB2.out.1.alloc HB2.out.1.size _⟩
      case round =>
        obtain ⟨c, rfl, hcl, hF, S2, hB⟩ := hrel
        by_cases hlt : c < d2.size
        · have hltz : (c : Int) < (d2.size : Int) := by omega
          obtain ⟨e0, he0⟩ : ∃ e0, d2[c]! = e0 := ⟨_, rfl⟩
          have hkc : (sortT ks)[c]? = some e0.T := by
            rw [← HM.out, List.getElem?_map, List.getElem?_eq_getElem (by simpa using hlt), Option.map_some, ← he0, getElem!_pos d2 c hlt]; simp
          have hcells := HoldsK.cells S2.holds (fun x => x.x.cells_length) hlt
          rw [he0] at hcells
          obtain ⟨⟨⟨k1, n1, s1, a1, l1, c1⟩, ⟨k2, n2, s2, a2, l2, c2⟩⟩, T, tag, hT, hE, hsT⟩ := e0
          have hkc' : (sortT ks)[c]? = some T := hkc
          have hT' : TmIn (fun b => b ≠ w.heap.size ∧ b < W0.heap.size) W0 (.agg #[.int .i64 k1, .int .i64 n1, .string s1, .slice a1 l1 c1]) T := hT
          have q0 : wr.cell? ⟨w.heap.size, c * 8, none⟩ = some (.int .i64 k1) := by have h := hcells 0 _ rfl; rw [Nat.zero_add] at h; exact h
          have q1 : wr.cell? ⟨w.heap.size, c * 8 + 1, none⟩ = some (.int .i64 n1) := by have h := hcells 1 _ rfl; rw [Nat.zero_add] at h; exact h
          have q2 : wr.cell? ⟨w.heap.size, c * 8 + 2, none⟩ = some (.string s1) := by have h := hcells 2 _ rfl; rw [Nat.zero_add] at h; exact h
          have q3 : wr.cell? ⟨w.heap.size, c * 8 + 3, none⟩ = some (.slice a1 l1 c1) := by have h := hcells 3 _ rfl; rw [Nat.zero_add] at h; exact h
          have q4 : wr.cell? ⟨w.heap.size, c * 8 + 4, none⟩ = some (.int .i64 k2) := by have h := hcells 4 _ rfl; rw [Nat.zero_add] at h; exact h
          have q5 : wr.cell? ⟨w.heap.size, c * 8 + 5, none⟩ = some (.int .i64 n2) := by have h := hcells 5 _ rfl; rw [Nat.zero_add] at h; exact h
          have q6 : wr.cell? ⟨w.heap.size, c * 8 + 6, none⟩ = some (.string s2) := by have h := hcells 6 _ rfl; rw [Nat.zero_add] at h; exact h
          have q7 : wr.cell? ⟨w.heap.size, c * 8 + 7, none⟩ = some (.slice a2 l2 c2) := by have h := hcells 7 _ rfl; rw [Nat.zero_add] at h; exact h
          have hTr : Has wr (.agg #[.int .i64 k1, .int .i64 n1, .string s1, .slice a1 l1 c1]) T := Ent.at S2 hT'
          obtain ⟨w3, hw3⟩ : ∃ w3, w3 = wr.alloc (.cells #[.int .i64 k1, .int .i64 n1, .string s1, .slice a1 l1 c1, .int .i64 k2, .int .i64 n2, .string s2, .slice a2 l2 c2] 59) := ⟨_, rfl⟩
          have hb3 : Below wr.heap.size wr w3 := by rw [hw3]; exact (Below.refl _ wr).alloc (Nat.le_refl _) _
          have hcal : Calls Try.prog 39 #[.agg #[.int .i64 k1, .int .i64 n1, .string s1, .slice a1 l1 c1]] w3 fun e w4 => ∃ (k4 n4 : Int) (s4 : ByteArray) (a4 : Option Addr) (l4 c4 : Nat) (u0 u1 u2 u3 : Value), e = .returned (.agg #[.int .i64 k4, .int .i64 n4, .string s4, .slice a4 l4 c4]) ∧
              w4.cell? ⟨w2.heap.size, c * 4, none⟩ = some u0 ∧ w4.cell? ⟨w2.heap.size, c * 4 + 1, none⟩ = some u1 ∧ w4.cell? ⟨w2.heap.size, c * 4 + 2, none⟩ = some u2 ∧ w4.cell? ⟨w2.heap.size, c * 4 + 3, none⟩ = some u3 ∧ (∀ j, w4.frozen? ⟨w2.heap.size, j, none⟩ = false) ∧
              Hid (TmIn (fun b => w2.heap.size < b ∧ b < w4.heap.size) w4 (.agg #[.int .i64 k4, .int .i64 n4, .string s4, .slice a4 l4 c4]) T) ∧ Hid (FillF w4 w2.heap.size c d2.size (fun t => t) (sortT ks)) ∧ Hid (Below w.heap.size w w4) ∧ Hid (SWb Ent.enc 8 W0 w.heap.size 0 d2 w4) :=
            (owhole_at T _ w3 (Has.below hTr hb3) hsT).mono fun e w4 h4 => by
              obtain ⟨r, rfl, hr, hb4⟩ := h4
              obtain ⟨k4, n4, s4, a4, l4, c4, ks4, rfl, -⟩ := hr.form
              have hF4 := (hF.below hb3).below hb4
              obtain ⟨u0, u1, u2, u3, e0, e1, e2, e3, ef⟩ := hF4.spot c hlt
              obtain ⟨cur, hcur, _⟩ := hF.row
              have hlt3 : w2.heap.size < w3.heap.size := Nat.lt_of_lt_of_le (Array.getElem?_eq_some_iff.1 hcur).1 hb3.size
              have hb34 : Below wr.heap.size wr w4 := hb3.trans (hb4.mono hb3.size)
              exact ⟨k4, n4, s4, a4, l4, c4, u0, u1, u2, u3, rfl, e0, e1, e2, e3, ef, hr.carry (fun _ _ => rfl) (fun b hb => ⟨Nat.lt_of_lt_of_le hlt3 hb.1, hb.2⟩), hF4, hB.trans (hb34.mono hB.size), S2.below hBlt hb34⟩
          rw [hw3] at hcal
          clear hcells hkc hT hE he0 hF S2 hB hTr hb3 hw3 hmk2
          go_wp2_with (go_at_call 39; refine hcal.mono ?_; clear hcal; rintro e w4 ⟨k4, n4, s4, a4, l4, c4, u0, u1, u2, u3, rfl, e0, e1, e2, e3, ef, hT4, hF4, hB4', S4⟩)
          have hB4 := hB4'.out
          have hW4 := Below.refl W0.heap.size w4
          exact ⟨⟨c + 1, by simp, hlt, hF4.out.set hlt hkc' hT4.out, S4.out.later hBlt ((((hW4.setCell (p := ⟨w2.heap.size, _, none⟩) hWB2 _).setCell (p := ⟨w2.heap.size, _, none⟩) hWB2 _).setCell (p := ⟨w2.heap.size, _, none⟩) hWB2 _).setCell (p := ⟨w2.heap.size, _, none⟩) hWB2 _), (((hB4.setCell (p := ⟨w2.heap.size, _, none⟩) hwB2 _).setCell (p := ⟨w2.heap.size, _, none⟩) hwB2 _).setCell (p := ⟨w2.heap.size, _, none⟩) hwB2 _).setCell (p := ⟨w2.heap.size, _, none⟩) hwB2 _⟩, by simp [intOf]; omega⟩
        · have hce : c = d2.size := by omega
          subst hce
          have hltz : ¬ (d2.size : Int) < (d2.size : Int) := by omega
          have e : d2.size = (sortT ks).length := by rw [← HM.out]; simp
          have hts : TsIn (fun b => w2.heap.size ≤ b ∧ b < wr.heap.size) wr (.slice (some ⟨w2.heap.size, 0, none⟩) d2.size d2.size) (sortT ks) := by
            rw [e] at hF ⊢
            have h := hF.done (by rw [← e]; unfold maxLen; omega)
            rwa [List.map_id'] at h
          have HT := Lib.hid (And.intro hts hB)
          clear hF S2 hB e hts hmk2
          go_wp2_with fail
          go_ret
          exact ⟨_, rfl, TsIn.carry (fun _ _ => rfl) (fun b hb => ⟨Nat.le_trans hwB2 hb.1, hb.2⟩) HT.out.1, HT.out.2⟩
end Go.Proofs.Ytnkfjomnpnbidaa

namespace Go.Proofs.Ytnkfjomnpnbidaa
open Go.RowKit Go.Shelf Go.Sort
open Classical
set_option linter.unusedVariables false

theorem sort19_at (v : Value) (ks : List Tm) (w : World) (hv : HasTs w v ks) (hn : ks.length < 20) (hs : ∀ t ∈ ks, t.size ≤ 1000000000000) : Calls Try.prog 15 #[v] w (NewTs w (sortT ks)) :=
  sort_at ks.length (by omega) (fun w0 blk hb => stable_small (P := Try.prog) 8 Try.lo Ent.enc Ent.cf Ent.tag Ent.tot 36 #[] w0 blk 0 ks.length ks.length hn (enters_of Try.func36 (by kernel_rfl) rfl) (Ent.row hb) Ent.cmp_says) v ks w hv rfl hs

def sA : Tm := .mk 3 0 (ByteArray.mk #[97]) []
def sF : Tm := .mk 3 0 (ByteArray.mk #[102]) [sA]
def sN : Tm := .mk 2 3 (ByteArray.mk #[]) []
def sV : Tm := .mk 1 2 (ByteArray.mk #[]) []
theorem sA_er : sA.er = sA := by unfold sA; rw [Tm.er_else (fun e => absurd e.1 (by decide))]; rfl
theorem sF_er : sF.er = sF := by unfold sF; rw [Tm.er_else (fun e => absurd e.1 (by decide)), List.map_cons, sA_er]; rfl
theorem sN_er : sN.er = sN := by unfold sN; rw [Tm.er_else (fun e => absurd e.1 (by decide))]; rfl
theorem sV_er : sV.er = sV := by unfold sV; rw [Tm.er_else (fun e => absurd e.1 (by decide))]; rfl
theorem s_FA : tc sF sA = 1 := by unfold tc; rw [sF_er, sA_er]; unfold sF sA; rw [Tm.cmp_mk]; decide
theorem s_AF : tc sA sF = -1 := by have := tc_neg sF sA; rw [s_FA] at this; exact this
theorem s_AN : tc sA sN = 1 := by unfold tc; rw [sA_er, sN_er]; unfold sN sA; rw [Tm.cmp_mk]; decide
theorem s_NV : tc sN sV = 1 := by unfold tc; rw [sN_er, sV_er]; unfold sN sV; rw [Tm.cmp_mk]; decide
theorem s_sorted : sortT [sF, sA, sN, sV] = [sV, sN, sA, sF] := by
  unfold sortT
  simp only [List.foldl_cons, List.foldl_nil, insT, s_FA]
  rfl
theorem four_terms {w : World} {k1 n1 k2 n2 k3 n3 k4 n4 : Int} {s1 s2 s3 s4 : ByteArray} {a1 a2 a3 a4 : Option Addr} {l1 c1 l2 c2 l3 c3 l4 c4 : Nat} {T1 T2 T3 T4 : Tm} (h1 : Has w (.agg #[.int .i64 k1, .int .i64 n1, .string s1, .slice a1 l1 c1]) T1) (h2 : Has w (.agg #[.int .i64 k2, .int .i64 n2, .string s2, .slice a2 l2 c2]) T2) (h3 : Has w (.agg #[.int .i64 k3, .int .i64 n3, .string s3, .slice a3 l3 c3]) T3) (h4 : Has w (.agg #[.int .i64 k4, .int .i64 n4, .string s4, .slice a4 l4 c4]) T4) :
    HasTs (w.alloc (.cells #[.int .i64 k1, .int .i64 n1, .string s1, .slice a1 l1 c1, .int .i64 k2, .int .i64 n2, .string s2, .slice a2 l2 c2, .int .i64 k3, .int .i64 n3, .string s3, .slice a3 l3 c3, .int .i64 k4, .int .i64 n4, .string s4, .slice a4 l4 c4] 24)) (.slice (some ⟨w.heap.size, 0, none⟩) 4 4) [T1, T2, T3, T4] := by
  have hb : Below w.heap.size w (w.alloc (.cells #[.int .i64 k1, .int .i64 n1, .string s1, .slice a1 l1 c1, .int .i64 k2, .int .i64 n2, .string s2, .slice a2 l2 c2, .int .i64 k3, .int .i64 n3, .string s3, .slice a3 l3 c3, .int .i64 k4, .int .i64 n4, .string s4, .slice a4 l4 c4] 24)) := (Below.refl _ w).alloc (Nat.le_refl _) _
  refine ⟨some ⟨w.heap.size, 0, none⟩, 4, rfl, by simp, by unfold maxLen; omega, (fun h => by cases h), fun i hi => ?_⟩
  have hi' : i = 0 ∨ i = 1 ∨ i = 2 ∨ i = 3 := by simp at hi; omega
  rcases hi' with rfl | rfl | rfl | rfl
  · exact ⟨w.heap.size, 0, k1, n1, s1, a1, l1, c1, rfl, by simp, (World.cell?_alloc_new w _ _ _).trans rfl, (World.cell?_alloc_new w _ _ _).trans rfl, (World.cell?_alloc_new w _ _ _).trans rfl, (World.cell?_alloc_new w _ _ _).trans rfl, Has.below h1 hb⟩
  · exact ⟨w.heap.size, 0, k2, n2, s2, a2, l2, c2, rfl, by simp, (World.cell?_alloc_new w _ _ _).trans rfl, (World.cell?_alloc_new w _ _ _).trans rfl, (World.cell?_alloc_new w _ _ _).trans rfl, (World.cell?_alloc_new w _ _ _).trans rfl, Has.below h2 hb⟩
  · exact ⟨w.heap.size, 0, k3, n3, s3, a3, l3, c3, rfl, by simp, (World.cell?_alloc_new w _ _ _).trans rfl, (World.cell?_alloc_new w _ _ _).trans rfl, (World.cell?_alloc_new w _ _ _).trans rfl, (World.cell?_alloc_new w _ _ _).trans rfl, Has.below h3 hb⟩
  · exact ⟨w.heap.size, 0, k4, n4, s4, a4, l4, c4, rfl, by simp, (World.cell?_alloc_new w _ _ _).trans rfl, (World.cell?_alloc_new w _ _ _).trans rfl, (World.cell?_alloc_new w _ _ _).trans rfl, (World.cell?_alloc_new w _ _ _).trans rfl, Has.below h4 hb⟩
theorem sSort_at (v : Value) (w : World) (hv : HasTs w v [sF, sA, sN, sV]) : Calls Try.prog 15 #[v] w (NewTs w [sV, sN, sA, sF]) := by
  have h := sort19_at v [sF, sA, sN, sV] w hv (by simp) (fun t ht => by
    simp only [List.mem_cons, List.not_mem_nil, or_false] at ht
    rcases ht with rfl | rfl | rfl | rfl <;> decide)
  rwa [s_sorted] at h
theorem sA_at (w : World) : Calls Try.prog 29 #[.string (ByteArray.mk #[97])] w (NewTm w sA) := atom_at _ w (by unfold maxLen; decide)
theorem sN_at (w : World) : Calls Try.prog 26 #[.int .i64 3] w (NewTm w sN) := num_at 3 w ⟨by decide, by decide⟩
theorem sV_at (w : World) : Calls Try.prog 25 #[.int .i64 2] w (NewTm w sV) := let_at 2 w ⟨by decide, by decide⟩
theorem sMake_at (v : Value) (w : World) (hv : HasTs w v [sA]) : Calls Try.prog 27 #[.string (ByteArray.mk #[102]), v] w (NewTm w sF) := make_at _ v [sA] w (by unfold maxLen; decide) hv (by decide)
theorem sComp_at (u v : Value) (w : World) (hu : Has w u sA) (hv : Has w v sF) : Calls Try.prog 12 #[u, v] w (Gets w (.int .i64 (-1))) := by
  have h := compare_at u v sA sF w hu hv (by decide) (by decide)
  rwa [show sA.er.cmp sF.er = -1 from s_AF] at h
/-- What the sorted list holds, cell by cell. -/
theorem four_held {W : World} {v : Value} (h : HasTs W v [sV, sN, sA, sF]) : ∃ (b o cap : Nat) (n0 n1 k2 n2 k3 n3 : Int) (s2 s3 : ByteArray) (a2 a3 : Option Addr) (c2 l3 c3 : Nat), v = .slice (some ⟨b, o, none⟩) 4 cap ∧ b < W.heap.size ∧ 4 ≤ cap ∧ cap ≤ maxLen ∧
    W.cell? ⟨b, o, none⟩ = some (.int .i64 1) ∧ W.cell? ⟨b, o + 4, none⟩ = some (.int .i64 2) ∧ W.cell? ⟨b, o + 8, none⟩ = some (.int .i64 k2) ∧ W.cell? ⟨b, o + 8 + 1, none⟩ = some (.int .i64 n2) ∧ W.cell? ⟨b, o + 8 + 2, none⟩ = some (.string s2) ∧ W.cell? ⟨b, o + 8 + 3, none⟩ = some (.slice a2 0 c2) ∧
    W.cell? ⟨b, o + 12, none⟩ = some (.int .i64 k3) ∧ W.cell? ⟨b, o + 12 + 1, none⟩ = some (.int .i64 n3) ∧ W.cell? ⟨b, o + 12 + 2, none⟩ = some (.string s3) ∧ W.cell? ⟨b, o + 12 + 3, none⟩ = some (.slice a3 l3 c3) ∧
    Has W (.agg #[.int .i64 k2, .int .i64 n2, .string s2, .slice a2 0 c2]) sA ∧ Has W (.agg #[.int .i64 k3, .int .i64 n3, .string s3, .slice a3 l3 c3]) sF := by
  obtain ⟨a, cap, rfl, hc, hm, ha, hx⟩ := h
  obtain ⟨b, o, k0, n0, s0, a0, l0, c0, rfl, hb, e00, e01, e02, e03, t0⟩ := hx 0 (by simp)
  obtain ⟨b', o', k1, n1, s1, a1, l1, c1, e, hb', e10, e11, e12, e13, t1⟩ := hx 1 (by simp)
  injection e with e; injection e with eb eo; subst eb eo
  obtain ⟨b', o', k2, n2, s2, a2, l2, c2, e, hbp, e20, e21, e22, e23, t2⟩ := hx 2 (by simp)
  injection e with e; injection e with eb eo; subst eb eo
  obtain ⟨b', o', k3, n3, s3, a3, l3, c3, e, hbq, e30, e31, e32, e33, t3⟩ := hx 3 (by simp)
  injection e with e; injection e with eb eo; subst eb eo
  obtain ⟨q0, f0, g0⟩ := t0.look
  have f0' : sV = Tm.mk k0 n0 s0 q0 := f0
  obtain ⟨q1, f1, g1⟩ := t1.look
  have f1' : sN = Tm.mk k1 n1 s1 q1 := f1
  obtain ⟨q2, f2, g2⟩ := t2.look
  have f2' : sA = Tm.mk k2 n2 s2 q2 := f2
  injection f0' with x1 x2 x3 x4
  injection f1' with y1 y2 y3 y4
  injection f2' with z1 z2 z3 z4
  subst x1 y1
  have hl2 : l2 = 0 := by rw [g2, ← z4]; rfl
  subst hl2
  exact ⟨b, o, cap, n0, n1, k2, n2, k3, n3, s2, s3, a2, a3, c2, l3, c3, rfl, hb, hc, hm, by simpa using e00, by simpa using e10, by simpa using e20, by simpa using e21, by simpa using e22, by simpa using e23, by simpa using e30, by simpa using e31, by simpa using e32, by simpa using e33, t2, t3⟩

set_option maxRecDepth 100000 in
set_option maxHeartbeats 8000000 in
theorem oshown_at (w : World) : Calls Try.prog 10 #[] w (Gets w (.bool true)) := by
  go_enter Try.func10, Try.ntmps10
  go_upto_region 2 with (first
      | (go_at_call 15; (with_reducible refine Calls.mono (sSort_at _ _ ?_) ?_); ((with_reducible refine four_terms ?_ ?_ ?_ ?_); ((with_reducible refine Has.below h4 ?_); (repeat (first | with_reducible exact Below.refl _ _ | with_reducible apply below_al | with_reducible apply below_dr | ((with_reducible apply below_tr); (with_reducible assumption))))); ((with_reducible refine Has.below h5 ?_); (repeat (first | with_reducible exact Below.refl _ _ | with_reducible apply below_al | with_reducible apply below_dr | ((with_reducible apply below_tr); (with_reducible assumption))))); ((with_reducible refine Has.below h6 ?_); (repeat (first | with_reducible exact Below.refl _ _ | with_reducible apply below_al | with_reducible apply below_dr | ((with_reducible apply below_tr); (with_reducible assumption))))); (with_reducible exact h7)); rintro e w9 ⟨r9, rfl, hr9, hb9⟩)
      | (go_at_call 25; (with_reducible refine Calls.mono (sV_at w6) ?_); intro r w7 h7; obtain ⟨k7, n7, s7, a7, l7, c7, rfl, h7, b7⟩ := h7.has)
      | (go_at_call 26; (with_reducible refine Calls.mono (sN_at w5) ?_); intro r w6 h6; obtain ⟨k6, n6, s6, a6, l6, c6, rfl, h6, b6⟩ := h6.has)
      | (go_at_call 29; (with_reducible refine Calls.mono (sA_at w4) ?_); intro r w5 h5; obtain ⟨k5, n5, s5, a5, l5, c5, rfl, h5, b5⟩ := h5.has)
      | (go_at_call 27; (with_reducible refine Calls.mono (sMake_at _ _ ?_) ?_); (with_reducible exact one_term h2); intro r w4 h4; obtain ⟨k4, n4, s4, a4, l4, c4, rfl, h4, b4⟩ := h4.has)
      | (go_at_call 29; (with_reducible refine Calls.mono (sA_at w) ?_); intro r w2 h2; obtain ⟨k2, n2, s2, a2, l2, c2, rfl, h2, b2⟩ := h2.has))
  obtain ⟨b, o, cap, n0, n1, k12, n12, k13, n13, s12, s13, a12, a13, c12, l13, c13, rfl, hbb, hc1, hc2, e0, e1, e20, e21, e22, e23, e30, e31, e32, e33, tA, tF⟩ := four_held (hr9.carry (fun _ _ => rfl) (fun b hb => hb.2))
  have HBW := Lib.hid (show Below w.heap.size w w9 by (repeat (first | with_reducible exact Below.refl _ _ | with_reducible apply below_al | with_reducible apply below_dr | ((with_reducible apply below_tr); (with_reducible assumption)))))
  have HS : ∀ w', Below w9.heap.size w9 w' → (w'.cell? ⟨b, o, none⟩ = some (.int .i64 1) ∧ w'.cell? ⟨b, o + 4, none⟩ = some (.int .i64 2) ∧ w'.cell? ⟨b, o + 8, none⟩ = some (.int .i64 k12) ∧ w'.cell? ⟨b, o + 8 + 1, none⟩ = some (.int .i64 n12) ∧ w'.cell? ⟨b, o + 8 + 2, none⟩ = some (.string s12) ∧ w'.cell? ⟨b, o + 8 + 3, none⟩ = some (.slice a12 0 c12) ∧ w'.cell? ⟨b, o + 12, none⟩ = some (.int .i64 k13) ∧ w'.cell? ⟨b, o + 12 + 1, none⟩ = some (.int .i64 n13) ∧ w'.cell? ⟨b, o + 12 + 2, none⟩ = some (.string s13) ∧ w'.cell? ⟨b, o + 12 + 3, none⟩ = some (.slice a13 l13 c13) ∧ Below w9.heap.size w9 w') := fun w' hb =>
    ⟨(hb.cell (p := ⟨_, _, none⟩) hbb).trans e0, (hb.cell (p := ⟨_, _, none⟩) hbb).trans e1, (hb.cell (p := ⟨_, _, none⟩) hbb).trans e20, (hb.cell (p := ⟨_, _, none⟩) hbb).trans e21, (hb.cell (p := ⟨_, _, none⟩) hbb).trans e22, (hb.cell (p := ⟨_, _, none⟩) hbb).trans e23, (hb.cell (p := ⟨_, _, none⟩) hbb).trans e30, (hb.cell (p := ⟨_, _, none⟩) hbb).trans e31, (hb.cell (p := ⟨_, _, none⟩) hbb).trans e32, (hb.cell (p := ⟨_, _, none⟩) hbb).trans e33, hb⟩
  clear b2 b4 b5 b6 b7 hb9 h2 h4 h5 h6 h7 e0 e1 e20 e21 e22 e23 e30 e31 e32 e33 hr9
  go_region_held3 (fun w' => w'.cell? ⟨b, o, none⟩ = some (.int .i64 1) ∧ w'.cell? ⟨b, o + 4, none⟩ = some (.int .i64 2) ∧ w'.cell? ⟨b, o + 8, none⟩ = some (.int .i64 k12) ∧ w'.cell? ⟨b, o + 8 + 1, none⟩ = some (.int .i64 n12) ∧ w'.cell? ⟨b, o + 8 + 2, none⟩ = some (.string s12) ∧ w'.cell? ⟨b, o + 8 + 3, none⟩ = some (.slice a12 0 c12) ∧ w'.cell? ⟨b, o + 12, none⟩ = some (.int .i64 k13) ∧ w'.cell? ⟨b, o + 12 + 1, none⟩ = some (.int .i64 n13) ∧ w'.cell? ⟨b, o + 12 + 2, none⟩ = some (.string s13) ∧ w'.cell? ⟨b, o + 12 + 3, none⟩ = some (.slice a13 l13 c13) ∧ Below w9.heap.size w9 w')
    (exact HS _ (by (repeat (first | with_reducible exact Below.refl _ _ | with_reducible apply below_al | with_reducible apply below_dr | ((with_reducible apply below_tr); (with_reducible assumption))))))
    (first
      | (go_at_call 12; (with_reducible refine Calls.mono (sComp_at _ _ _ ?_ ?_) ?_); ((with_reducible refine Has.below tA ?_); (repeat (first | with_reducible exact Below.refl _ _ | with_reducible apply below_al | with_reducible apply below_dr | ((with_reducible apply below_tr); (with_reducible assumption))))); ((with_reducible refine Has.below tF ?_); (repeat (first | with_reducible exact Below.refl _ _ | with_reducible apply below_al | with_reducible apply below_dr | ((with_reducible apply below_tr); (with_reducible assumption))))); rintro r w14 ⟨rfl, b14⟩))
  go_wp2_with fail
  go_ret
  exact ⟨rfl, below_tr (by (repeat (first | with_reducible exact Below.refl _ _ | with_reducible apply below_al | with_reducible apply below_dr | ((with_reducible apply below_tr); (with_reducible assumption))))) HBW.out⟩
end Go.Proofs.Ytnkfjomnpnbidaa

namespace Go.Proofs.Ytnkfjomnpnbidaa
open Go.Shelf Go.RowKit Go.Lib Go.Sort
set_option linter.unusedVariables false
section
variable {P : Program} {α : Type} [Inhabited α]

/-- Two blocks, each sorted. -/
theorem two_blocks {cf : α → α → Int} {tg : α → Nat} (hT : Tot cf) (d : Array α) (h20 : 20 ≤ d.size) (ht : ∀ p q, p < q → q < d.size → tg d[p]! < tg d[q]!) :
    PermIn 0 d.size d (insertionSort (ltOf cf) (insertionSort (ltOf cf) d 0 20) 20 d.size) ∧ Pre cf tg (insertionSort (ltOf cf) (insertionSort (ltOf cf) d 0 20) 20 d.size) 0 20 d.size := by
  have h1 := inserted hT d 0 20 (by omega) h20 fun p q _ h2 h3 => ht p q h2 (by omega)
  generalize insertionSort (ltOf cf) d 0 20 = d1 at h1 ⊢
  have e1 : d1.size = d.size := h1.1.1
  have o1 : ∀ i, 20 ≤ i → d1[i]! = d[i]! := fun i hi => h1.1.2.1 i (.inr hi)
  have h2 := inserted hT d1 20 d.size h20 (by omega) fun p q k1 k2 k3 => by rw [o1 p k1, o1 q (by omega)]; exact ht p q k2 k3
  generalize insertionSort (ltOf cf) d1 20 d.size = d2 at h2 ⊢
  have e2 : d2.size = d.size := h2.1.1.trans e1
  have o2 : ∀ i, i < 20 → d2[i]! = d1[i]! := fun i hi => h2.1.2.1 i (.inl hi)
  refine ⟨permIn_trans _ _ _ _ _ (permIn_mono _ _ _ _ _ _ (Nat.le_refl _) h20 (Nat.le_refl _) h1.1) (permIn_mono _ _ _ _ _ _ (Nat.zero_le _) (Nat.le_refl _) (by omega) h2.1), by omega, h20, by omega, fun i j k1 k2 k3 => ?_, h2.2, fun i j k1 k2 k3 k4 => ?_⟩
  · rw [o2 i (by omega), o2 j k3]; exact h1.2 i j k1 k2 k3
  · rw [o2 i k2]
    refine permIn_all d1 d2 20 d.size (fun x => tg d1[i]! < tg x) (by omega) h2.1 (fun q g1 g2 => ?_) j k3 k4
    rw [o1 q g1]
    exact permIn_all d d1 0 20 (fun x => tg x < tg d[q]!) h20 h1.1 (fun r g3 g4 => ht r q (by omega) g2) i k1 k2

set_option maxHeartbeats 4000000 in
set_option maxRecDepth 1000000 in
theorem stable_mid (k : Nat) (L : LO P k) (enc : α → List Value) (cf : α → α → Int) (tg : α → Nat) (hT : Tot cf) (g : Nat) (cb : Array Value) (w0 : World) (blk off cap n : Nat) (h20 : 20 ≤ n) (h40 : n < 40)
    (eg : ∀ args w, (callFunc g args).run P w = .ok (.enter g args) w) (R : RowB enc k w0 blk) (C : CmpB P g cb enc k cf w0 blk off n) : StableSays P k enc cf tg g cb w0 blk off cap n := by
  intro d w S hn ht
  have mixed := L.mixed; have t0 := L.t0; have a0 := L.a0; have z0 := L.z0; have v0 := L.v0; have t3 := L.t3; have a3 := L.a3; have z3 := L.z3; have v3 := L.v3; have t4 := L.t4; have a4 := L.a4; have z4 := L.z4; have v4 := L.v4; have t57 := L.t57; have a57 := L.a57; have z57 := L.z57; have v57 := L.v57; have t61 := L.t61; have a61 := L.a61; have z61 := L.z61; have v61 := L.v61; have aE := L.aE; have zE := L.zE
  have e73 : ∀ args w, (callFunc 73 args).run P w = .ok (.enter 73 args) w := enters_of L.f73 (by kernel_rfl) rfl
  have e74 : ∀ args w, (callFunc 74 args).run P w = .ok (.enter 74 args) w := enters_of L.f74 (by kernel_rfl) rfl
  subst hn
  have hc : Calls P 73 #[.slice (some ⟨blk, off, none⟩) d.size cap, .int .i64 0, .int .i64 20, .func (.func g) #[] cb] w fun e w' => e = .returned (.tuple #[]) ∧ SWb enc k w0 blk off (Sort.insertionSort (ltOf cf) d 0 20) w' := insertion_at (P := P) k L enc cf g cb w0 blk off cap 0 20 d w eg R C S (by omega) h20 (by omega)
  have hB := two_blocks hT d h20 ht
  have e1 : (Sort.insertionSort (ltOf cf) d 0 20).size = d.size := (inserted hT d 0 20 (by omega) h20 fun p q _ h2 h3 => ht p q h2 (by omega)).1.1
  have hc2 : ∀ w1, SWb enc k w0 blk off (Sort.insertionSort (ltOf cf) d 0 20) w1 → Calls P 73 #[.slice (some ⟨blk, off, none⟩) d.size cap, .int .i64 20, .int .i64 d.size, .func (.func g) #[] cb] w1 fun e w' => e = .returned (.tuple #[]) ∧ SWb enc k w0 blk off (Sort.insertionSort (ltOf cf) (Sort.insertionSort (ltOf cf) d 0 20) 20 d.size) w' := fun w1 S1 => by
    have h := insertion_at (P := P) k L enc cf g cb w0 blk off cap 20 d.size (Sort.insertionSort (ltOf cf) d 0 20) w1 eg R (by rw [e1]; exact C) S1 h20 (by omega) (by omega)
    rwa [e1] at h
  generalize Sort.insertionSort (ltOf cf) (Sort.insertionSort (ltOf cf) d 0 20) 20 d.size = d2 at hB hc2
  generalize Sort.insertionSort (ltOf cf) d 0 20 = d1 at hc hc2 e1
  have hm : ∀ w1, SWb enc k w0 blk off d2 w1 → 20 < d.size → Calls P 74 #[.slice (some ⟨blk, off, none⟩) d.size cap, .int .i64 0, .int .i64 20, .int .i64 d.size, .func (.func g) #[] cb] w1 fun e w' => e = .returned (.tuple #[]) ∧ ∃ d', SWb enc k w0 blk off d' w' ∧ PermIn 0 d.size d2 d' ∧ SortedIn (ltT cf tg) 0 d.size d' := fun w1 S1 h =>
    merge_says k L enc cf tg hT g cb w0 blk off cap d.size eg R C (by omega) d.size 0 20 d.size d2 w1 S1 hB.2 (by omega) h (by omega) hB.1.1
  have HI := Lib.hid hB
  have HC2 := Lib.hid hc2
  have HMM := Lib.hid hm
  have z1 : (20 : Int) ≤ (d.size : Int) := by omega
  have z2 : ¬ (40 : Int) ≤ (d.size : Int) := by omega
  have z3' : ¬ (40 : Int) < (d.size : Int) := by omega
  clear S C ht hB e1 hc2 hm
  by_cases hn : 20 < d.size
  · have z4' : (20 : Int) < (d.size : Int) := by omega
    go_enter L.f63, Try.ntmps63
    go_wp2
    refine wp_loop_rounds 2 ?_
    rw [rounds_succ]
    go_wp2_with (go_at_fn 73; refine hc.mono ?_; clear hc; rintro e w1 ⟨rfl, S1⟩)
    rw [rounds_succ]
    go_wp2_with (go_at_fn 73; refine (HC2.out _ S1).mono ?_; rintro e w2 ⟨rfl, S2⟩)
    refine wp_loop_rounds 2 ?_
    rw [rounds_succ]
    go_wp2_with fail
    refine wp_loop_rounds 1 ?_
    rw [rounds_succ]
    go_wp2_with (go_at_fn 74; refine (HMM.out _ S2 hn).mono ?_; rintro e w3 ⟨rfl, d3, S3, hp, hs⟩)
    rw [rounds_succ]
    go_wp2_with fail
    go_end0
    exact ⟨rfl, d3, S3, permIn_trans _ _ _ _ _ HI.out.1 hp, hs⟩
  · have z4' : ¬ (20 : Int) < (d.size : Int) := by omega
    go_enter L.f63, Try.ntmps63
    go_wp2
    refine wp_loop_rounds 2 ?_
    rw [rounds_succ]
    go_wp2_with (go_at_fn 73; refine hc.mono ?_; clear hc; rintro e w1 ⟨rfl, S1⟩)
    rw [rounds_succ]
    go_wp2_with (go_at_fn 73; refine (HC2.out _ S1).mono ?_; rintro e w2 ⟨rfl, S2⟩)
    refine wp_loop_rounds 1 ?_
    rw [rounds_succ]
    go_wp2_with fail
    go_end0
    have e : d.size = 20 := by omega
    exact ⟨rfl, d2, S2, HI.out.1, by have h := HI.out.2.l; rwa [e]⟩
end
theorem sort39_at (v : Value) (ks : List Tm) (w : World) (hv : HasTs w v ks) (hn : ks.length < 40) (hs : ∀ t ∈ ks, t.size ≤ 1000000000000) : Calls Try.prog 15 #[v] w (NewTs w (sortT ks)) :=
  sort_at ks.length (by omega) (fun w0 blk hb => by
    by_cases h : ks.length < 20
    · exact stable_small (P := Try.prog) 8 Try.lo Ent.enc Ent.cf Ent.tag Ent.tot 36 #[] w0 blk 0 ks.length ks.length h (enters_of Try.func36 (by kernel_rfl) rfl) (Ent.row hb) Ent.cmp_says
    · exact stable_mid (P := Try.prog) 8 Try.lo Ent.enc Ent.cf Ent.tag Ent.tot 36 #[] w0 blk 0 ks.length ks.length (by omega) hn (enters_of Try.func36 (by kernel_rfl) rfl) (Ent.row hb) Ent.cmp_says) v ks w hv rfl hs
end Go.Proofs.Ytnkfjomnpnbidaa

namespace Go.Proofs.Ytnkfjomnpnbidaa
open Go.RowKit Go.Shelf
open Classical
set_option linter.unusedVariables false

set_option maxRecDepth 100000 in
set_option maxHeartbeats 4000000 in
theorem lists_at (ks ks' : List Tm) (u v : Value) (w : World) (hu : HasTs w u ks) (hv : HasTs w v ks') (hs : Tm.sizes ks ≤ 1000000000000) (ht : Tm.sizes ks' ≤ 1000000000000) :
    Calls Try.prog 14 #[u, v] w (Gets w (.bool (decide (ks = ks')))) := by
  have hl1 : ks.length ≤ 1000000000000 := by have := Tm.length_le_sizes ks; omega
  have hl2 : ks'.length ≤ 1000000000000 := by have := Tm.length_le_sizes ks'; omega
  obtain ⟨a, cap, rfl, hc, hm, ha, hx⟩ := hu
  obtain ⟨a', cap', rfl, hc', hm', ha', hy⟩ := hv
  by_cases hll : ks.length = ks'.length
  case neg =>
    rw [decide_eq_false (fun e => hll (by rw [e]))]
    have hll' : ((ks.length : Int) == (ks'.length : Int)) = false := by simp; omega
    have HL := Lib.hid hll
    clear hx hy hll
    go_enter Try.func14, Try.ntmps14
    go_wp2_with fail
    go_ret
    exact ⟨rfl, Below.refl _ _⟩
  have hll' : ((ks.length : Int) == (ks'.length : Int)) = true := by simp; omega
  have hll'' : ((ks.length : Int) != (ks'.length : Int)) = false := by rw [bne, hll']; rfl
  have HH := Lib.hid (And.intro hll (And.intro hs (And.intro ht (And.intro hx hy))))
  clear hll hs ht hx hy
  go_enter Try.func14, Try.ntmps14
  go_wp2_with fail
  go_loopw [5] (fun i wr => ∃ c : Nat, i = .int .i64 c ∧ c ≤ ks.length ∧ ks.take c = ks'.take c ∧ Below w.heap.size w wr) (fun i _ => ks.length - (intOf i).toNat)
  case atStart => exact ⟨0, rfl, Nat.zero_le _, by simp, Below.refl _ _⟩
  case round =>
    obtain ⟨c, rfl, hcl, htk, hB⟩ := hrel
    by_cases hlt : c < ks.length
    · have hlt2 : c < ks'.length := by have := HH.out.1; omega
      obtain ⟨b, o, k1, n1, s1, a1, l1, c1, rfl, hbn, e0, e1, e2, e3, ht1⟩ := HH.out.2.2.2.1 c hlt
      obtain ⟨b', o', k2, n2, s2, a2, l2, c2, rfl, hbn', f0, f1, f2, f3, ht2⟩ := HH.out.2.2.2.2 c hlt2
      have hbn : b < w.heap.size := hbn
      have hbn' : b' < w.heap.size := hbn'
      have hlt8 : b < wr.heap.size ∧ b' < wr.heap.size := ⟨Nat.lt_of_lt_of_le hbn hB.size, Nat.lt_of_lt_of_le hbn' hB.size⟩
      have HS : ∀ w', Below wr.heap.size wr w' → (w'.cell? ⟨b, o + c * 4, none⟩ = some (.int .i64 k1) ∧ w'.cell? ⟨b, o + c * 4 + 1, none⟩ = some (.int .i64 n1) ∧ w'.cell? ⟨b, o + c * 4 + 2, none⟩ = some (.string s1) ∧ w'.cell? ⟨b, o + c * 4 + 3, none⟩ = some (.slice a1 l1 c1) ∧
          w'.cell? ⟨b', o' + c * 4, none⟩ = some (.int .i64 k2) ∧ w'.cell? ⟨b', o' + c * 4 + 1, none⟩ = some (.int .i64 n2) ∧ w'.cell? ⟨b', o' + c * 4 + 2, none⟩ = some (.string s2) ∧ w'.cell? ⟨b', o' + c * 4 + 3, none⟩ = some (.slice a2 l2 c2) ∧ Below wr.heap.size wr w') := fun w' hb =>
        ⟨(hb.cell (p := ⟨_, _, none⟩) hlt8.1).trans ((hB.cell (p := ⟨b, _, none⟩) hbn).trans e0), (hb.cell (p := ⟨_, _, none⟩) hlt8.1).trans ((hB.cell (p := ⟨b, _, none⟩) hbn).trans e1), (hb.cell (p := ⟨_, _, none⟩) hlt8.1).trans ((hB.cell (p := ⟨b, _, none⟩) hbn).trans e2), (hb.cell (p := ⟨_, _, none⟩) hlt8.1).trans ((hB.cell (p := ⟨b, _, none⟩) hbn).trans e3),
         (hb.cell (p := ⟨_, _, none⟩) hlt8.2).trans ((hB.cell (p := ⟨b', _, none⟩) hbn').trans f0), (hb.cell (p := ⟨_, _, none⟩) hlt8.2).trans ((hB.cell (p := ⟨b', _, none⟩) hbn').trans f1), (hb.cell (p := ⟨_, _, none⟩) hlt8.2).trans ((hB.cell (p := ⟨b', _, none⟩) hbn').trans f2), (hb.cell (p := ⟨_, _, none⟩) hlt8.2).trans ((hB.cell (p := ⟨b', _, none⟩) hbn').trans f3), hb⟩
      obtain ⟨T1, hT1⟩ : ∃ T1, ks[c] = T1 := ⟨_, rfl⟩
      obtain ⟨T2, hT2⟩ : ∃ T2, ks'[c] = T2 := ⟨_, rfl⟩
      rw [hT1] at ht1
      rw [hT2] at ht2
      have hm1 : T1 ∈ ks := by rw [← hT1]; exact List.getElem_mem _
      have hm2 : T2 ∈ ks' := by rw [← hT2]; exact List.getElem_mem _
      have hih : ∀ w3, Below wr.heap.size wr w3 → Calls Try.prog 34 #[.agg #[.int .i64 k1, .int .i64 n1, .string s1, .slice a1 l1 c1], .agg #[.int .i64 k2, .int .i64 n2, .string s2, .slice a2 l2 c2]] w3 fun e w4 => ∃ q, decide (T1 = T2) = q ∧ e = .returned (.bool q) ∧ Below wr.heap.size wr w4 := fun w3 h3 =>
        (rsame_at T1 T2 _ _ w3 (IsTm.later (hB.trans (h3.mono hB.size)) (Nat.le_trans hB.size h3.size) ht1) (IsTm.later (hB.trans (h3.mono hB.size)) (Nat.le_trans hB.size h3.size) ht2)
          (by have h1 := Tm.size_le_sizes hm1; have h2 := HH.out.2.1; omega) (by have h1 := Tm.size_le_sizes hm2; have h2 := HH.out.2.2.1; omega)).mono fun e w4 h4 => ⟨_, rfl, h4.1, h3.trans (h4.2.mono h3.size)⟩
      have HT := Lib.hid (And.intro htk (And.intro hB (And.intro hT1 hT2)))
      clear e0 e1 e2 e3 f0 f1 f2 f3 ht1 ht2 htk hB hT1 hT2 hlt8 hm1 hm2
      go_wp2_with fail
      go_region_held3 (fun w' => w'.cell? ⟨b, o + c * 4, none⟩ = some (.int .i64 k1) ∧ w'.cell? ⟨b, o + c * 4 + 1, none⟩ = some (.int .i64 n1) ∧ w'.cell? ⟨b, o + c * 4 + 2, none⟩ = some (.string s1) ∧ w'.cell? ⟨b, o + c * 4 + 3, none⟩ = some (.slice a1 l1 c1) ∧
          w'.cell? ⟨b', o' + c * 4, none⟩ = some (.int .i64 k2) ∧ w'.cell? ⟨b', o' + c * 4 + 1, none⟩ = some (.int .i64 n2) ∧ w'.cell? ⟨b', o' + c * 4 + 2, none⟩ = some (.string s2) ∧ w'.cell? ⟨b', o' + c * 4 + 3, none⟩ = some (.slice a2 l2 c2) ∧ Below wr.heap.size wr w')
        (first | exact HS _ (Below.refl _ _).drew | exact HS _ hb4)
        (first | (go_at_call 34; (with_reducible refine (hih _ (by go_split_ands; assumption)).mono ?_); rintro e w4 ⟨q, hq, rfl, hb4⟩))
      go_wp2_with fail
      · rename_i hnq
        have hq0 : q = false := by simpa using hnq
        rw [hq0] at hq
        have hne := of_decide_eq_false hq
        go_ret
        refine ⟨congrArg (fun b => Ending.returned (Value.bool b)) (decide_eq_false fun e => hne ?_).symm, HT.out.2.1.trans (hb4.mono HT.out.2.1.size)⟩
        subst e
        rw [← HT.out.2.2.1, ← HT.out.2.2.2]
      · rename_i hnq
        have hq0 : q = true := by simpa using hnq
        rw [hq0] at hq
        have heq := of_decide_eq_true hq
        go_roundw
        case rel =>
          refine ⟨c + 1, by simp, hlt, ?_, HT.out.2.1.trans (hb4.mono HT.out.2.1.size)⟩
          rw [List.take_add_one, List.take_add_one, HT.out.1, List.getElem?_eq_getElem hlt, List.getElem?_eq_getElem hlt2, HT.out.2.2.1, HT.out.2.2.2, heq]
        case measure => simp [intOf]; omega
    · have hce : c = ks.length := by omega
      subst hce
      go_wp2_with fail
      go_ret
      refine ⟨congrArg (fun b => Ending.returned (Value.bool b)) (decide_eq_true ?_).symm, hB⟩
      rw [List.take_length, HH.out.1, List.take_length] at htk
      exact htk

end Go.Proofs.Ytnkfjomnpnbidaa
