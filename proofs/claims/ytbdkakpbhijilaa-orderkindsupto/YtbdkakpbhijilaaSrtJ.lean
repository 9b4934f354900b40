/-
  order.Sort of a list: its first half: the entries.
-/
import Derived.Test.YtbdkakpbhijilaaSrtI
import Derived.Test.YtbdkakpbhijilaaSrtN
import Derived.Test.YtbdkakpbhijilaaLast
import Derived.Deep.Cut
import Derived.Deep.DeepCutAuto
namespace Go.Proofs.Ytbdkakpbhijilaa
open Go.Shelf Go.RowKit Go.Lib Go.Sort
set_option linter.unusedVariables false

theorem SWb.later {α : Type} [Inhabited α] {enc : α → List Value} {k : Nat} {w0 W W' : World} {blk off : Nat} {d : Array α} (h : SWb enc k w0 blk off d W) (hb : blk < w0.heap.size) (g : Below w0.heap.size W W') : SWb enc k w0 blk off d W' :=
  ⟨g.os.trans h.os, g.tape.trans h.tape, g.output.trans h.output, Nat.le_trans h.size g.size, fun b hb' hne => (g.block b hb').trans (h.keep b hb' hne), holds_of_block h.holds (g.block blk hb)⟩
theorem SWb.from_w {α : Type} [Inhabited α] {enc : α → List Value} {k : Nat} {w w0 W : World} {blk off : Nat} {d : Array α} (h : SWb enc k w0 blk off d W) (g : Below w.heap.size w w0) (hb : w.heap.size ≤ blk) : Below w.heap.size w W :=
  ⟨h.os.trans g.os, h.tape.trans g.tape, h.output.trans g.output, Nat.le_trans g.size h.size, fun b hb' => (h.keep b (Nat.lt_of_lt_of_le hb' g.size) (by omega)).trans (g.block b hb')⟩
theorem FillE.array {w W : World} {B n : Nat} {ks : List Tm} (h : FillE w W B n n ks) (hn : ks.length = n) (hB : Below w.heap.size w W) (hb : w.heap.size ≤ B) (hs : ∀ t ∈ ks, t.size ≤ 1000000000000) :
    ∃ d : Array (Ent W B), d.size = n ∧ SWb Ent.enc 8 W B 0 d W ∧ d.toList.map Ent.T = ks ∧ ∀ i, i < n → d[i]!.tag = i := by
  classical
  obtain ⟨cur, h1, h2⟩ := h.row
  have ex : ∀ i : Fin n, ∃ e : Ent W B, (∀ (j : Nat) (u : Value), e.x.cells[j]? = some u → W.cell? ⟨B, i.1 * 8 + j, none⟩ = some u) ∧ some e.T = ks[i.1]? ∧ e.tag = i.1 := fun i => by
    have hi : i.1 < ks.length := by have := i.2; omega
    obtain ⟨x, hc, hT, hE⟩ := h.ents i.1 ks[i.1] i.2 (List.getElem?_eq_getElem hi)
    exact ⟨⟨x, ks[i.1], i.1, hT.carry (fun b hb' => hB.block b hb') (fun b hb' => ⟨by omega, Nat.lt_of_lt_of_le hb' hB.size⟩), hE.carry (fun _ _ => rfl) (fun b hb' => ⟨by omega, hb'.2⟩), hs _ (List.getElem_mem _)⟩, hc, (List.getElem?_eq_getElem hi).symm, rfl⟩
  let f : Fin n → Ent W B := fun i => Classical.choose (ex i)
  have hf : ∀ i : Fin n, (∀ (j : Nat) (u : Value), (f i).x.cells[j]? = some u → W.cell? ⟨B, i.1 * 8 + j, none⟩ = some u) ∧ some (f i).T = ks[i.1]? ∧ (f i).tag = i.1 := fun i => Classical.choose_spec (ex i)
  have get : ∀ i (hi : i < n), (Array.ofFn f)[i]! = f ⟨i, hi⟩ := fun i hi => by rw [getElem!_pos _ i (by simpa using hi)]; simp
  refine ⟨Array.ofFn f, by simp, ⟨rfl, rfl, rfl, Nat.le_refl _, fun _ _ _ => rfl, fun t ht => ?_⟩, ?_, fun i hi => by rw [get i hi]; exact (hf ⟨i, hi⟩).2.2⟩
  · have ht' : t < n * 8 := by simpa using ht
    have hq : t / 8 < n := by omega
    rw [get_flatK _ _ _ t (by simpa using ht'), get _ hq]
    have hlen : t % 8 < (f ⟨t / 8, hq⟩).x.cells.length := by rw [Q8.cells_length]; omega
    have e := (hf ⟨t / 8, hq⟩).1 (t % 8) _ (List.getElem?_eq_getElem hlen)
    rw [show t / 8 * 8 + t % 8 = t by omega] at e
    refine ⟨?_, by simp [World.frozen?, h1]⟩
    rw [Nat.zero_add, e]
    simp only [Ent.enc, id]
    rw [getElem!_pos (f ⟨t / 8, hq⟩).x.cells (t % 8) hlen]
  · apply List.ext_getElem?
    intro i
    by_cases hi : i < n
    · rw [List.getElem?_map, List.getElem?_eq_getElem (by simpa using hi), Option.map_some]
      have := (hf ⟨i, hi⟩).2.1
      simpa using this
    · rw [List.getElem?_eq_none (by simpa using hi), List.getElem?_eq_none (by omega)]

set_option maxHeartbeats 8000000 in
set_option maxRecDepth 1000000 in
theorem sort_at (n : Nat) (hn1 : n ≤ 1000000000) (hyp : ∀ (w0 : World) (blk : Nat), blk < w0.heap.size → StableSays Try.prog 8 (Ent.enc (w0 := w0) (blk := blk)) Ent.cf Ent.tag 36 #[] w0 blk 0 n n)
    (v : Value) (ks : List Tm) (w : World) (hv : HasTs w v ks) (hn : ks.length = n) (hs : ∀ t ∈ ks, t.size ≤ 1000000000000) :
    Calls Try.prog 15 #[v] w (NewTs w (sortT ks)) := by
  obtain ⟨a, cap, rfl, hc, hm, ha, hx⟩ := id hv
  have hmk := make_entries n (by omega)
  have hze := zeroEntry
  have hzt := zeroTerm
  have HYP : Aside _ := hyp
  have HS := Lib.hid hs
  clear hyp hv hs
  rw [hn]
  go_enter Try.func15, Try.ntmps15
  go_wp2_with fail
  go_loopw [14] (fun i wr => ∃ c : Nat, i = .int .i64 c ∧ c ≤ n ∧ FillE w wr w.heap.size c n ks ∧ Below w.heap.size w wr) (fun i _ => n - (intOf i).toNat)
  case atStart =>
    exact ⟨0, rfl, Nat.zero_le _, ⟨⟨_, World.alloc_heap_new _ _, by rw [size_madeCells]⟩, fun i t hi => absurd hi (Nat.not_lt_zero _)⟩, (Below.refl _ w).alloc (Nat.le_refl _) _⟩
  case round =>
    obtain ⟨c, rfl, hcl, hF, hB⟩ := hrel
    by_cases hlt : c < n
    · have hltz : (c : Int) < (n : Int) := by omega
      obtain ⟨b, o, k', n', s', a', l', c', rfl, hbn, c0, c1, c2, c3, ht⟩ := hx c (by omega)
      have hbn' : b < w.heap.size := hbn
      have q0 := (hB.cell (p := ⟨b, o + c * 4, none⟩) hbn').trans c0
      have q1 := (hB.cell (p := ⟨b, o + c * 4 + 1, none⟩) hbn').trans c1
      have q2 := (hB.cell (p := ⟨b, o + c * 4 + 2, none⟩) hbn').trans c2
      have q3 := (hB.cell (p := ⟨b, o + c * 4 + 3, none⟩) hbn').trans c3
      have hTw : TmIn (fun b => b < w.heap.size) w (.agg #[.int .i64 k', .int .i64 n', .string s', .slice a' l' c']) ks[c] := ht
      have ht1 : Has wr (.agg #[.int .i64 k', .int .i64 n', .string s', .slice a' l' c']) ks[c] := IsTm.later hB hB.size ht
      obtain ⟨w2, hw2⟩ : ∃ w2, w2 = wr.alloc (.cells #[.int .i64 k', .int .i64 n', .string s', .slice a' l' c'] 24) := ⟨_, rfl⟩
      have hb2 : Below wr.heap.size wr w2 := by rw [hw2]; exact (Below.refl _ wr).alloc (Nat.le_refl _) _
      have hx2 : w2.heap[wr.heap.size]? = some (.cells #[.int .i64 k', .int .i64 n', .string s', .slice a' l' c'] 24 (0, 0)) := by rw [hw2]; exact World.alloc_heap_new _ _
      have hih : ∀ w3, Below w2.heap.size w2 w3 → Calls Try.prog 19 #[.agg #[.int .i64 k', .int .i64 n', .string s', .slice a' l' c']] w3 fun e w4 => ∃ (k4 n4 : Int) (s4 : ByteArray) (a4 : Option Addr) (l4 c4 : Nat), e = .returned (.agg #[.int .i64 k4, .int .i64 n4, .string s4, .slice a4 l4 c4]) ∧ Below w2.heap.size w2 w4 ∧ TmIn (fun b => w.heap.size < b ∧ b < w4.heap.size) w4 (.agg #[.int .i64 k4, .int .i64 n4, .string s4, .slice a4 l4 c4]) ks[c].er := fun w3 h3 =>
        (erase_at _ ks[c] w3 (Has.below (Has.below ht1 hb2) h3) (HS.out _ (List.getElem_mem _))).mono fun e w4 h4 => by
          obtain ⟨r, rfl, hr, hb4⟩ := h4
          obtain ⟨k4, n4, s4, a4, l4, c4, ks4, rfl, -⟩ := hr.form
          obtain ⟨cur, hcur, _⟩ := hF.row
          have hltB : w.heap.size < wr.heap.size := (Array.getElem?_eq_some_iff.1 hcur).1
          have h23 : wr.heap.size ≤ w3.heap.size := Nat.le_trans hb2.size h3.size
          exact ⟨k4, n4, s4, a4, l4, c4, rfl, h3.trans (hb4.mono h3.size), hr.carry (fun _ _ => rfl) (fun b hb => ⟨by omega, hb.2⟩)⟩
      clear c0 c1 c2 c3 ht hx ht1
      have y := tbox_cells hx2
      have HW2 := Lib.hid hw2
      have HR : Hid (∀ w4, Below w2.heap.size w2 w4 → FillE w w4 w.heap.size c n ks ∧ Below w.heap.size w w4) := fun w4 hb4 => ⟨(hF.below hb2).below hb4, (hB.trans (hb2.mono hB.size)).trans (hb4.mono (Nat.le_trans hB.size hb2.size))⟩
      have hx2' := Lib.hid hx2
      have hTw' := Lib.hid hTw
      go_upto_region 5 with fail
      rw [← HW2.out]
      obtain ⟨y0, y1, y2, y3⟩ := y
      clear q0 q1 q2 q3 hw2 hF hB hb2 hx2 hTw
      go_region_with (go_at_call 19; (with_reducible refine (hih _ ?_).mono ?_); (repeat (first | with_reducible exact Below.refl _ _ | with_reducible apply below_al | with_reducible apply below_dr | ((with_reducible apply below_tr); (with_reducible assumption)))); rintro e w4 ⟨k4, n4, s4, a4, l4, c4, rfl, hb4, hT4⟩; obtain ⟨u0, u1, u2, u3, u4, u5, u6, u7, e0, e1, e2, e3, e4, e5, e6, e7, ef⟩ := (HR.out w4 hb4).1.spot c hlt; obtain ⟨z0, z1, z2, z3⟩ := tbox_cells (tbox_below hx2'.out hb4))
      all_goals
        have hset := (HR.out w4 hb4).1.set hlt (List.getElem?_eq_getElem (by omega)) ⟨⟨k', n', s', a', l', c'⟩, ⟨k4, n4, s4, a4, l4, c4⟩⟩ hTw'.out hT4
        have HF := Lib.hid hset
        clear hset
        go_wp2_with fail
        exact ⟨⟨c + 1, by simp, hlt, HF.out, ((((((((HR.out w4 hb4).2.setCell (p := ⟨w.heap.size, _, none⟩) (Nat.le_refl _) _).setCell (p := ⟨w.heap.size, _, none⟩) (Nat.le_refl _) _).setCell (p := ⟨w.heap.size, _, none⟩) (Nat.le_refl _) _).setCell (p := ⟨w.heap.size, _, none⟩) (Nat.le_refl _) _).setCell (p := ⟨w.heap.size, _, none⟩) (Nat.le_refl _) _).setCell (p := ⟨w.heap.size, _, none⟩) (Nat.le_refl _) _).setCell (p := ⟨w.heap.size, _, none⟩) (Nat.le_refl _) _).setCell (p := ⟨w.heap.size, _, none⟩) (Nat.le_refl _) _⟩, by simp [intOf]; omega⟩
    · have hce : c = n := by omega
      subst c
      have hltz : ¬ (n : Int) < (n : Int) := by omega
      obtain ⟨W0, rfl⟩ : ∃ W0, W0 = wr := ⟨_, rfl⟩
      have hBlt : w.heap.size < W0.heap.size := by obtain ⟨cur, h1, _⟩ := hF.row; exact (Array.getElem?_eq_some_iff.1 h1).1
      obtain ⟨d, hds, S, hdT, hdt⟩ := FillE.array hF hn hB (Nat.le_refl _) HS.out
      have hst := sortStable_at (P := Try.prog) 8 Try.lo Ent.enc Ent.cf Ent.tag 36 #[] W0 w.heap.size 0 n n (HYP.out W0 w.heap.size hBlt) (by omega) d W0 S hds (fun p q h1 h2 => by rw [hdt p (by omega), hdt q h2]; exact h1)
      have hcf : ∀ (d1 : Array (Ent W0 w.heap.size)) (w1 : World), SWb Ent.enc 8 W0 w.heap.size 0 d1 w1 → d1.size = n → Calls Try.prog 37 #[.slice (some ⟨w.heap.size, 0, none⟩) n n, .func (.func 38) #[] #[]] w1 fun e w' => ∃ d' : Array (Ent W0 w.heap.size), e = .returned (.slice (some ⟨w.heap.size, 0, none⟩) d'.size n) ∧ d'.toList = keptUpTo (keepsF Ent.ef d1) d1 d1.size ∧ SWb Ent.enc 8 W0 w.heap.size 0 d' w' := fun d1 w1 S1 h => by
        rw [← h]
        exact compactF_at (P := Try.prog) 8 Try.lo Ent.enc Ent.ef 38 #[] W0 w.heap.size 0 d1.size d1 w1 _ zeroEntry rfl (fun i hi => by rcases (by omega : i = 0 ∨ i = 1 ∨ i = 2 ∨ i = 3 ∨ i = 4 ∨ i = 5 ∨ i = 6 ∨ i = 7) with rfl | rfl | rfl | rfl | rfl | rfl | rfl | rfl <;> rfl) (enters_of Try.func38 (by kernel_rfl) rfl) (Ent.row hBlt) Ent.eq_says S1 (by omega) (Nat.le_refl _) (by omega)
      have HD : Hid (d.size = n ∧ d.toList.map Ent.T = ks ∧ (∀ i, i < n → d[i]!.tag = i) ∧ Below w.heap.size w W0) := ⟨hds, hdT, hdt, hB⟩
      have HCF := Lib.hid hcf
      clear hF hB S hdT hdt hds hcf hx
      go_upto_region 9 with (first
        | (go_at_call 37; refine (HCF.out d1 w1 S1 (hp1.1.trans HD.out.1)).mono ?_; rintro e w2 ⟨d2, rfl, hd2, S2⟩)
        | (go_at_call 35; refine hst.mono ?_; clear hst; rintro e w1 ⟨rfl, d1, S1, hp1, hs1⟩))
      have hmap : d2.toList.map Ent.T = sortT ks := by
        rw [hd2, ← HD.out.2.1]
        exact stable_left (f := Ent.T) (fun _ _ => rfl) (fun _ _ => rfl) HD.out.1 hp1 hs1 (fun p q h1 h2 => by rw [HD.out.2.2.1 p (by omega), HD.out.2.2.1 q h2]; exact h1)
      have hsz2 : d2.size ≤ n := by
        have h1 : (sortT ks).length ≤ ks.length := sortT_length ks
        rw [← hmap] at h1; simpa [hn] using h1
      have HM := Lib.hid hmap
      have hmk2 := make_terms d2.size (by omega)
      clear hmap hd2 hp1 hs1 S1 hmk
      have S3 : Aside _ := S2
      have hBw2 : Below w.heap.size w w2 := S2.from_w HD.out.2.2.2 (Nat.le_refl _)
      have HB2 := Lib.hid (And.intro hBw2 S2.size)
      clear S2 hBw2
      have hwB2 : w.heap.size ≤ w2.heap.size := HB2.out.1.size
      have hWB2 : W0.heap.size ≤ w2.heap.size := HB2.out.2
      go_wp2_with fail
      go_loopw [36] (fun i wr => ∃ c : Nat, i = .int .i64 c ∧ c ≤ d2.size ∧ FillF wr w2.heap.size c d2.size (fun t => t) (sortT ks) ∧ SWb Ent.enc 8 W0 w.heap.size 0 d2 wr ∧ Below w.heap.size w wr) (fun i _ => d2.size - (intOf i).toNat)
      case atStart =>
        exact ⟨0, rfl, Nat.zero_le _, ⟨⟨_, World.alloc_heap_new _ _, by rw [size_madeCells]⟩, fun i t hi => absurd hi (Nat.not_lt_zero _)⟩, S3.out.later hBlt ((Below.refl _ w2).alloc HB2.out.2 _), HB2.out.1.alloc HB2.out.1.size _⟩
      case round =>
        obtain ⟨c, rfl, hcl, hF, S2, hB⟩ := hrel
        by_cases hlt : c < d2.size
        · have hltz : (c : Int) < (d2.size : Int) := by omega
          obtain ⟨e0, he0⟩ : ∃ e0, d2[c]! = e0 := ⟨_, rfl⟩
          have hkc : (sortT ks)[c]? = some e0.T := by
            rw [← HM.out, List.getElem?_map, List.getElem?_eq_getElem (by simpa using hlt), Option.map_some, ← he0, getElem!_pos d2 c hlt]; simp
          have hcells := HoldsK.cells S2.holds (fun x => x.x.cells_length) hlt
          rw [he0] at hcells
          obtain ⟨⟨⟨k1, n1, s1, a1, l1, c1⟩, ⟨k2, n2, s2, a2, l2, c2⟩⟩, T, tag, hT, hE, hsT⟩ := e0
          have hkc' : (sortT ks)[c]? = some T := hkc
          have hT' : TmIn (fun b => b ≠ w.heap.size ∧ b < W0.heap.size) W0 (.agg #[.int .i64 k1, .int .i64 n1, .string s1, .slice a1 l1 c1]) T := hT
          have q0 : wr.cell? ⟨w.heap.size, c * 8, none⟩ = some (.int .i64 k1) := by have h := hcells 0 _ rfl; rw [Nat.zero_add] at h; exact h
          have q1 : wr.cell? ⟨w.heap.size, c * 8 + 1, none⟩ = some (.int .i64 n1) := by have h := hcells 1 _ rfl; rw [Nat.zero_add] at h; exact h
          have q2 : wr.cell? ⟨w.heap.size, c * 8 + 2, none⟩ = some (.string s1) := by have h := hcells 2 _ rfl; rw [Nat.zero_add] at h; exact h
          have q3 : wr.cell? ⟨w.heap.size, c * 8 + 3, none⟩ = some (.slice a1 l1 c1) := by have h := hcells 3 _ rfl; rw [Nat.zero_add] at h; exact h
          have q4 : wr.cell? ⟨w.heap.size, c * 8 + 4, none⟩ = some (.int .i64 k2) := by have h := hcells 4 _ rfl; rw [Nat.zero_add] at h; exact h
          have q5 : wr.cell? ⟨w.heap.size, c * 8 + 5, none⟩ = some (.int .i64 n2) := by have h := hcells 5 _ rfl; rw [Nat.zero_add] at h; exact h
          have q6 : wr.cell? ⟨w.heap.size, c * 8 + 6, none⟩ = some (.string s2) := by have h := hcells 6 _ rfl; rw [Nat.zero_add] at h; exact h
          have q7 : wr.cell? ⟨w.heap.size, c * 8 + 7, none⟩ = some (.slice a2 l2 c2) := by have h := hcells 7 _ rfl; rw [Nat.zero_add] at h; exact h
          have hTr : Has wr (.agg #[.int .i64 k1, .int .i64 n1, .string s1, .slice a1 l1 c1]) T := Ent.at S2 hT'
          obtain ⟨w3, hw3⟩ : ∃ w3, w3 = wr.alloc (.cells #[.int .i64 k1, .int .i64 n1, .string s1, .slice a1 l1 c1, .int .i64 k2, .int .i64 n2, .string s2, .slice a2 l2 c2] 59) := ⟨_, rfl⟩
          have hb3 : Below wr.heap.size wr w3 := by rw [hw3]; exact (Below.refl _ wr).alloc (Nat.le_refl _) _
          have hcal : Calls Try.prog 39 #[.agg #[.int .i64 k1, .int .i64 n1, .string s1, .slice a1 l1 c1]] w3 fun e w4 => ∃ (k4 n4 : Int) (s4 : ByteArray) (a4 : Option Addr) (l4 c4 : Nat) (u0 u1 u2 u3 : Value), e = .returned (.agg #[.int .i64 k4, .int .i64 n4, .string s4, .slice a4 l4 c4]) ∧
              w4.cell? ⟨w2.heap.size, c * 4, none⟩ = some u0 ∧ w4.cell? ⟨w2.heap.size, c * 4 + 1, none⟩ = some u1 ∧ w4.cell? ⟨w2.heap.size, c * 4 + 2, none⟩ = some u2 ∧ w4.cell? ⟨w2.heap.size, c * 4 + 3, none⟩ = some u3 ∧ (∀ j, w4.frozen? ⟨w2.heap.size, j, none⟩ = false) ∧
              Hid (TmIn (fun b => w2.heap.size < b ∧ b < w4.heap.size) w4 (.agg #[.int .i64 k4, .int .i64 n4, .string s4, .slice a4 l4 c4]) T) ∧ Hid (FillF w4 w2.heap.size c d2.size (fun t => t) (sortT ks)) ∧ Hid (Below w.heap.size w w4) ∧ Hid (SWb Ent.enc 8 W0 w.heap.size 0 d2 w4) :=
            (owhole_at T _ w3 (Has.below hTr hb3) hsT).mono fun e w4 h4 => by
              obtain ⟨r, rfl, hr, hb4⟩ := h4
              obtain ⟨k4, n4, s4, a4, l4, c4, ks4, rfl, -⟩ := hr.form
              have hF4 := (hF.below hb3).below hb4
              obtain ⟨u0, u1, u2, u3, e0, e1, e2, e3, ef⟩ := hF4.spot c hlt
              obtain ⟨cur, hcur, _⟩ := hF.row
              have hlt3 : w2.heap.size < w3.heap.size := Nat.lt_of_lt_of_le (Array.getElem?_eq_some_iff.1 hcur).1 hb3.size
              have hb34 : Below wr.heap.size wr w4 := hb3.trans (hb4.mono hb3.size)
              exact ⟨k4, n4, s4, a4, l4, c4, u0, u1, u2, u3, rfl, e0, e1, e2, e3, ef, hr.carry (fun _ _ => rfl) (fun b hb => ⟨Nat.lt_of_lt_of_le hlt3 hb.1, hb.2⟩), hF4, hB.trans (hb34.mono hB.size), S2.below hBlt hb34⟩
          rw [hw3] at hcal
          clear hcells hkc hT hE he0 hF S2 hB hTr hb3 hw3 hmk2
          go_wp2_with (go_at_call 39; refine hcal.mono ?_; clear hcal; rintro e w4 ⟨k4, n4, s4, a4, l4, c4, u0, u1, u2, u3, rfl, e0, e1, e2, e3, ef, hT4, hF4, hB4', S4⟩)
          have hB4 := hB4'.out
          have hW4 := Below.refl W0.heap.size w4
          exact ⟨⟨c + 1, by simp, hlt, hF4.out.set hlt hkc' hT4.out, S4.out.later hBlt ((((hW4.setCell (p := ⟨w2.heap.size, _, none⟩) hWB2 _).setCell (p := ⟨w2.heap.size, _, none⟩) hWB2 _).setCell (p := ⟨w2.heap.size, _, none⟩) hWB2 _).setCell (p := ⟨w2.heap.size, _, none⟩) hWB2 _), (((hB4.setCell (p := ⟨w2.heap.size, _, none⟩) hwB2 _).setCell (p := ⟨w2.heap.size, _, none⟩) hwB2 _).setCell (p := ⟨w2.heap.size, _, none⟩) hwB2 _).setCell (p := ⟨w2.heap.size, _, none⟩) hwB2 _⟩, by simp [intOf]; omega⟩
        · have hce : c = d2.size := by omega
          subst hce
          have hltz : ¬ (d2.size : Int) < (d2.size : Int) := by omega
          have e : d2.size = (sortT ks).length := by rw [← HM.out]; simp
          have hts : TsIn (fun b => w2.heap.size ≤ b ∧ b < wr.heap.size) wr (.slice (some ⟨w2.heap.size, 0, none⟩) d2.size d2.size) (sortT ks) := by
            rw [e] at hF ⊢
            have h := hF.done (by rw [← e]; unfold maxLen; omega)
            rwa [List.map_id'] at h
          have HT := Lib.hid (And.intro hts hB)
          clear hF S2 hB e hts hmk2
          go_wp2_with fail
          go_ret
          exact ⟨_, rfl, TsIn.carry (fun _ _ => rfl) (fun b hb => ⟨Nat.le_trans hwB2 hb.1, hb.2⟩) HT.out.1, HT.out.2⟩
end Go.Proofs.Ytbdkakpbhijilaa
