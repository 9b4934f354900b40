/-
  The walk of the reference's Text.
-/
import Derived.Test.YtfencolokfghfaaDoorRFig
import Derived.Test.YtfencolokfghfaaDoorWrG
import Derived.Test.YtfencolokfghfaaDoorFam
namespace Go.Proofs.YtfencolokfghfaaDoor
open Go.Shelf Go.RowKit Go.Sort
set_option linter.unusedVariables false
set_option linter.unnecessarySimpa false

def RTxOk (T : Tm) : Prop := ∀ (v : Value) (w : World), Has w v T → T.byt ≤ 2000000 → T.size ≤ 1000000 → Calls Tryd.prog 8 #[v] w (Gets w (.string (strV T.txt)))
theorem str_app8 (a : ByteArray) (l m : List UInt8) (h : a.data.toList = l) : a ++ strV m = strV (l ++ m) := by
  rw [← strV_app8, ← strV_of h]
theorem str_app8' (a : ByteArray) (l m : List UInt8) (h : a.data.toList = m) : strV l ++ a = strV (l ++ m) := by
  rw [← strV_app8, ← strV_of h]
/-- What stands in the text behind so many arguments. -/
def pt8 (l : List UInt8) (ks : List Tm) (c : Nat) : List UInt8 := if c = 0 then fnL l else fnL l ++ 40 :: (Tm.txtc (ks.take c)).tail
theorem txtc_ne {ks : List Tm} (h : ks ≠ []) : Tm.txtc ks = 44 :: (Tm.txtc ks).tail := by
  cases ks with
  | nil => exact absurd rfl h
  | cons t ts => rw [Tm.txtc_cons]; rfl
theorem pt8_succ {l : List UInt8} {ks : List Tm} {c : Nat} {t : Tm} (h : ks[c]? = some t) : pt8 l ks (c + 1) = pt8 l ks c ++ (if c = 0 then [40] else [44]) ++ t.txt := by
  have hc := (List.getElem?_eq_some_iff.1 h).1
  unfold pt8
  rw [if_neg (by omega), List.take_add_one, h]
  by_cases h0 : c = 0
  · subst h0
    rw [if_pos rfl, if_pos rfl]
    simp only [List.take_zero, Option.toList_some, List.nil_append]
    rw [Tm.txtc_cons, Tm.txtc_nil]
    simp
  · rw [if_neg h0, if_neg h0, Tm.txtc_append]
    have hne : ks.take c ≠ [] := by
      intro e
      have := congrArg List.length e
      rw [List.length_take, List.length_nil] at this
      omega
    rw [txtc_ne hne]
    simp only [Option.toList_some]
    rw [Tm.txtc_cons, Tm.txtc_nil]
    simp
theorem txtc_take_len (ks : List Tm) (c : Nat) : (Tm.txtc (ks.take c)).length ≤ (Tm.txtc ks).length := by
  conv => rhs; rw [← List.take_append_drop c ks, Tm.txtc_append]
  simp
theorem pt8_len (l : List UInt8) (n : Int) (s : ByteArray) (ks : List Tm) (c : Nat) (hs : s.data.toList = l) (hk : ks.length ≠ 0) : (pt8 l ks c).length ≤ (Tm.mk 3 n s ks).txt.length := by
  rw [Tm.txt_mk, if_neg (by decide), if_neg (by decide), if_pos rfl, if_neg hk, hs]
  unfold pt8
  have h1 := txtc_take_len ks c
  split
  · simp only [List.length_append, List.length_cons, List.length_tail, List.length_nil]; omega
  · simp only [List.length_append, List.length_cons, List.length_tail, List.length_nil]; omega
theorem pt8_end (l : List UInt8) (n : Int) (s : ByteArray) (ks : List Tm) (hs : s.data.toList = l) (hk : ks.length ≠ 0) : (Tm.mk 3 n s ks).txt = pt8 l ks ks.length ++ [41] := by
  rw [Tm.txt_mk, if_neg (by decide), if_neg (by decide), if_pos rfl, if_neg hk, hs]
  unfold pt8
  rw [if_neg hk, List.take_length]
set_option maxRecDepth 100000 in
set_option maxHeartbeats 4000000 in
theorem rtext_ok (T : Tm) : RTxOk T := by
  induction T using Tm.ind with
  | h k n s ks ih =>
  intro v w hv hby hsz
  have htl := Tm.txt_len _ (hv.nums 1)
  rw [Tm.byt_mk] at hby
  rw [Tm.size_mk] at hsz
  have hlen : ks.length ≤ 1000000 := by have := Tm.length_le_sizes ks; omega
  have hss : s.size ≤ 2000000 := by omega
  have hby2 : ∀ t ∈ ks, t.byt ≤ 2000000 ∧ t.size ≤ 1000000 := fun t ht => by
    have h1 := Tm.byt_le ht
    have h2 := Tm.size_le_sizes ht
    omega
  rw [Tm.byt_mk, Tm.size_mk] at htl
  have htl : (Tm.mk k n s ks).txt.length ≤ 50000000 := by omega
  obtain ⟨k_, n_, s_, a, len, cap, ks_, rfl, e, rfl, hk, hn, hs', hc, hm, ha⟩ := hv.form
  injection e with e1 e2 e3 e4
  subst e1 e2 e3 e4
  obtain ⟨l, hl⟩ : ∃ l, s.data.toList = l := ⟨_, rfl⟩
  have hfig := rfig_at _ n (Nat.le_refl _) hn
  have hfz : (strV (Lib.itoa n)).size ≤ 21 := by rw [strV_size]; exact itoa_len _ hn
  obtain ⟨w1, hw1⟩ : ∃ w1, w1 = w.alloc (.cells #[.int .i64 k, .int .i64 n, .string s, .slice a ks.length cap] 24) := ⟨_, rfl⟩
  have hB1 : Below w.heap.size w w1 := by rw [hw1]; exact (Below.refl _ w).alloc (Nat.le_refl _) _
  have hbox : w1.heap[w.heap.size]? = some (.cells #[.int .i64 k, .int .i64 n, .string s, .slice a ks.length cap] 24 (0, 0)) := by rw [hw1]; exact World.alloc_heap_new _ _
  obtain ⟨p0, p1, p2, p3⟩ := tbox_cells hbox
  have HFG := Lib.hid hfig
  have HB := Lib.hid hby2
  clear hfig hby2 hby hsz hk hs'
  by_cases k1 : k = 1
  · subst k1
    have HX := Lib.hid (show (Tm.mk 1 n s ks).txt = [95] ++ Lib.itoa n by rw [Tm.txt_mk]; rfl)
    rw [HX.out]
    clear HX ih hv htl
    generalize Lib.itoa n = q at *
    go_enter Tryd.func8, Tryd.ntmps8
    go_upto_region 1 with fail
    rw [← hw1]
    clear hw1
    go_wp2_with (first | (go_at_call 22; (with_reducible refine (HFG.out _).mono ?_); rintro e w2 ⟨rfl, hB2⟩))
    go_ret
    exact ⟨congrArg (fun x => Ending.returned (Value.string x)) (str_app8 _ _ _ rfl), bel hB1 hB2⟩
  have n1 : (k == 1) = false := by simpa using k1
  by_cases k2 : k = 2
  · subst k2
    have HX := Lib.hid (show (Tm.mk 2 n s ks).txt = Lib.itoa n by rw [Tm.txt_mk]; rfl)
    rw [HX.out]
    clear HX ih hv htl
    generalize Lib.itoa n = q at *
    go_enter Tryd.func8, Tryd.ntmps8
    go_upto_region 1 with fail
    rw [← hw1]
    clear hw1
    go_wp2_with (first | (go_at_call 22; (with_reducible refine (HFG.out _).mono ?_); rintro e w2 ⟨rfl, hB2⟩))
    go_ret
    exact ⟨rfl, bel hB1 hB2⟩
  have n2 : (k == 2) = false := by simpa using k2
  by_cases k4 : k = 4 ∧ ks.length = 1
  · obtain ⟨rfl, hl1⟩ := k4
    obtain ⟨b, o, k1', n1', s1, a1, l1, c1, T1, rfl, hbn, e0, e1, e2, e3, hT1, ht1⟩ := IsTm.kid hv 0 (by omega)
    have hks : ks = [T1] := by
      match ks, hl1, hT1 with
      | [t], _, h => simp at h; rw [h]
    have q0 := (hB1.cell (p := ⟨b, o + 0 * 4, none⟩) hbn).trans e0
    have q1 := (hB1.cell (p := ⟨b, o + 0 * 4 + 1, none⟩) hbn).trans e1
    have q2 := (hB1.cell (p := ⟨b, o + 0 * 4 + 2, none⟩) hbn).trans e2
    have q3 := (hB1.cell (p := ⟨b, o + 0 * 4 + 3, none⟩) hbn).trans e3
    simp only [Nat.zero_mul, Nat.add_zero] at q0 q1 q2 q3
    obtain ⟨z1, z2⟩ := HB.out T1 (List.mem_of_getElem? hT1)
    have HI := Lib.hid (fun W (h : Below w1.heap.size w1 W) => ih T1 (List.mem_of_getElem? hT1) _ W (IsTm.later (bel hB1 h) (bel hB1 h).size ht1) z1 z2)
    have hbn' : b < w1.heap.size := Nat.lt_of_lt_of_le hbn hB1.size
    have htz : (strV T1.txt).size ≤ 50000000 := by
      rw [strV_size]
      have := Tm.txt_len T1 (ht1.nums 1)
      omega
    have HX := Lib.hid (show (Tm.mk 4 n s ks).txt = [64, 40] ++ T1.txt ++ [44] ++ Lib.itoa n ++ [41] by
      rw [Tm.txt_mk, if_neg (by decide), if_neg (by decide), if_neg (by decide), if_pos ⟨rfl, hl1⟩, hks, Tm.txtc_cons, Tm.txtc_nil]; simp)
    rw [HX.out]
    rw [hl1] at *
    clear HX ih hv htl e0 e1 e2 e3 ht1 hT1 hks
    generalize Lib.itoa n = q at *
    generalize T1.txt = tx at *
    have hl1' : True := trivial
    go_enter Tryd.func8, Tryd.ntmps8
    go_upto_region 1 with fail
    rw [← hw1]
    clear hw1
    go_wp2_with fail
    obtain ⟨I, inst, F, n0, hF0, hFb, hFc⟩ := later_family w1
    have K0 := fun i => (tbox_cells (tbox_below hbox (hFb i))).1
    have K1 := fun i => (tbox_cells (tbox_below hbox (hFb i))).2.1
    have K2 := fun i => (tbox_cells (tbox_below hbox (hFb i))).2.2.1
    have K3 := fun i => (tbox_cells (tbox_below hbox (hFb i))).2.2.2
    have L0 := fun i => ((hFb i).cell (p := ⟨b, o, none⟩) hbn').trans q0
    have L1 := fun i => ((hFb i).cell (p := ⟨b, o + 1, none⟩) hbn').trans q1
    have L2 := fun i => ((hFb i).cell (p := ⟨b, o + 2, none⟩) hbn').trans q2
    have L3 := fun i => ((hFb i).cell (p := ⟨b, o + 3, none⟩) hbn').trans q3
    have C1 := Lib.hid (fun i => calls_fam hFc i (HI.out _ (hFb i)))
    have C2 := Lib.hid (fun i => calls_fam hFc i (HFG.out (F i)))
    have HF := Lib.hid hFb
    clear hFb hFc
    refine wp_region_fam F n0 hF0 (by kernel_rfl) (by kernel_rfl) ?_
    clear hF0
    repeat (go_big_quiet_step (first | (go_at_call 8; (with_reducible exact C1.out _)) | (go_at_call 22; (with_reducible exact C2.out _))))
    refine wpQuiet_nil ?_
    intro _ hw'
    obtain ⟨nq, hw''⟩ := hw'
    subst hw''
    go_wp2_with fail
    go_ret
    exact ⟨congrArg (fun x => Ending.returned (Value.string x)) (strV_of (by rw [app_list8, app_list8, app_list8, app_list8, strV_list, strV_list]; simp)), bel hB1 (HF.out nq)⟩
  by_cases k3 : k = 3
  · subst k3
    have hsl := toList_beq hl [91, 93]
    have hrq := rquote_at s l hl
    have hqz : (strV (quoteL l)).size ≤ 5000000 := by rw [strV_size]; have := quoteL_len l; have := len_of hl; omega
    by_cases h0 : ks.length = 0
    · have HX := Lib.hid (show (Tm.mk 3 n s ks).txt = quoteL l by rw [Tm.txt_mk, if_neg (by decide), if_neg (by decide), if_pos rfl, if_pos h0, hl])
      rw [HX.out]
      have HRQ := Lib.hid hrq
      have hn0 : ((ks.length : Int) == 0) = true := by simp [h0]
      clear HX ih hv htl hrq hl hsl h0
      generalize quoteL l = q at *
      go_enter Tryd.func8, Tryd.ntmps8
      go_upto_region 1 with fail
      rw [← hw1]
      clear hw1
      go_wp2_with (first | (go_at_call 23; (with_reducible refine (HRQ.out _ (by omega)).mono ?_); rintro e w2 ⟨rfl, hB2⟩; obtain ⟨r0, r1, r2, r3⟩ := tbox_cells (tbox_below hbox hB2)))
      go_ret
      exact ⟨rfl, bel hB1 hB2⟩
    · have hn0 : ((ks.length : Int) == 0) = false := by simp; intro e; exact h0 (by rw [e]; rfl)
      have HX := Lib.hid (And.intro (pt8_end l n s ks hl h0) (show ∀ c, (pt8 l ks c).length ≤ 50000000 from fun c => by have := pt8_len l n s ks c hl h0; omega))
      have HRQ := Lib.hid hrq
      have HSL := Lib.hid hsl
      rw [HX.out.1]
      by_cases hbr : l = [91, 93]
      · rw [decide_eq_true hbr] at hsl
        have HP0 := Lib.hid (show pt8 l ks 0 = [39, 91, 93, 39] by unfold pt8 fnL; rw [if_pos rfl, if_pos hbr])
        clear hrq hl HSL hbr
        go_enter Tryd.func8, Tryd.ntmps8
        go_upto_region 1 with fail
        rw [← hw1]
        clear hw1
        go_wp2_with (first | (go_at_call 23; (with_reducible refine (HRQ.out _ (by omega)).mono ?_); rintro e w2 ⟨rfl, hB2⟩; obtain ⟨r0, r1, r2, r3⟩ := tbox_cells (tbox_below hbox hB2)))
        go_loopg [3, 4] ks.length (fun g x z wr => ∃ c : Nat, x = .string (strV (pt8 l ks c)) ∧ z = .int .i64 c ∧ g + c = ks.length ∧ Below w1.heap.size w1 wr)
        case atStart => exact ⟨0, by rw [HP0.out]; rfl, rfl, by omega, hB2⟩
        case round =>
          obtain ⟨c, rfl, rfl, hgc, hB⟩ := hrel
          have hwr : Below w.heap.size w wr := bel hB1 hB
          obtain ⟨b0, b1, b2, b3⟩ := tbox_cells (tbox_below hbox hB)
          have hz : (strV (pt8 l ks c)).size ≤ 50000000 := by rw [strV_size]; exact HX.out.2 c
          clear r0 r1 r2 r3 p0 p1 p2 p3
          cases gk with
          | zero =>
            have hcc : ¬ ((c : Int) < (ks.length : Int)) := by omega
            have hce : c = ks.length := by omega
            have HCE := Lib.hid hce
            clear hce hgc hv ih
            go_wp2_with fail
            go_ret
            exact ⟨congrArg (fun x => Ending.returned (Value.string x)) (by rw [← HCE.out]; exact str_app8' _ _ _ rfl), hwr⟩
          | succ m =>
            have hlt : c < ks.length := by omega
            have hcc : ((c : Int) < (ks.length : Int)) := by omega
            obtain ⟨b, o, k1', n1', s1, a1, l1, c1, T1, rfl, hbn, e0, e1, e2, e3, hT1, ht1⟩ := IsTm.kid hv c hlt
            have q0 := (hwr.cell (p := ⟨b, o + c * 4, none⟩) hbn).trans e0
            have q1 := (hwr.cell (p := ⟨b, o + c * 4 + 1, none⟩) hbn).trans e1
            have q2 := (hwr.cell (p := ⟨b, o + c * 4 + 2, none⟩) hbn).trans e2
            have q3 := (hwr.cell (p := ⟨b, o + c * 4 + 3, none⟩) hbn).trans e3
            obtain ⟨z1, z2⟩ := HB.out T1 (List.mem_of_getElem? hT1)
            have hih := (ih T1 (List.mem_of_getElem? hT1) _ wr (IsTm.later hwr hwr.size ht1) z1 z2).mono (R' := fun e w2 => e = .returned (.string (strV T1.txt)) ∧ Below w1.heap.size w1 w2) (fun e w2 h => ⟨h.1, bel hB h.2⟩)
            have htz : (strV T1.txt).size ≤ 50000000 := by
              rw [strV_size]
              have := Tm.txt_len T1 (ht1.nums 1)
              omega
            have HS := Lib.hid (pt8_succ (l := l) hT1)
            have HIH := Lib.hid hih
            clear ih hv e0 e1 e2 e3 ht1 z1 z2 hT1 hih
            by_cases c0 : c = 0
            · subst c0
              have HS2 := Lib.hid (show pt8 l ks (0 + 1) = pt8 l ks 0 ++ [40] ++ T1.txt by rw [HS.out, if_pos rfl])
              clear HS HP0 HX
              generalize pt8 l ks 0 = p at *
              generalize T1.txt = tx at *
              simp only [Nat.zero_mul, Nat.add_zero] at q0 q1 q2 q3
              go_wp2_with (first | (go_at_call 8; (with_reducible refine HIH.out.mono ?_); rintro e w3 ⟨rfl, hB3⟩))
              go_roundg m
              case measure => omega
              case rel => exact ⟨0 + 1, congrArg Value.string (strV_of (by rw [app_list8, app_list8, strV_list, strV_list, HS2.out])), by simp, by omega, hB3⟩
            · have hc0 : ((c : Int) == 0) = false := by simpa using c0
              have HS2 := Lib.hid (show pt8 l ks (c + 1) = pt8 l ks c ++ [44] ++ T1.txt by rw [HS.out, if_neg c0])
              clear HS HP0 HX c0
              generalize pt8 l ks c = p at *
              generalize T1.txt = tx at *
              go_wp2_with (first | (go_at_call 8; (with_reducible refine HIH.out.mono ?_); rintro e w3 ⟨rfl, hB3⟩))
              go_roundg m
              case measure => omega
              case rel => exact ⟨c + 1, congrArg Value.string (strV_of (by rw [app_list8, app_list8, strV_list, strV_list, HS2.out])), by simp, by omega, hB3⟩
      · rw [decide_eq_false hbr] at hsl
        have HP0 := Lib.hid (show pt8 l ks 0 = quoteL l by unfold pt8 fnL; rw [if_pos rfl, if_neg hbr])
        clear hrq hl HSL hbr
        go_enter Tryd.func8, Tryd.ntmps8
        go_upto_region 1 with fail
        rw [← hw1]
        clear hw1
        go_wp2_with (first | (go_at_call 23; (with_reducible refine (HRQ.out _ (by omega)).mono ?_); rintro e w2 ⟨rfl, hB2⟩; obtain ⟨r0, r1, r2, r3⟩ := tbox_cells (tbox_below hbox hB2)))
        go_loopg [3, 4] ks.length (fun g x z wr => ∃ c : Nat, x = .string (strV (pt8 l ks c)) ∧ z = .int .i64 c ∧ g + c = ks.length ∧ Below w1.heap.size w1 wr)
        case atStart => exact ⟨0, by rw [HP0.out], rfl, by omega, hB2⟩
        case round =>
          obtain ⟨c, rfl, rfl, hgc, hB⟩ := hrel
          have hwr : Below w.heap.size w wr := bel hB1 hB
          obtain ⟨b0, b1, b2, b3⟩ := tbox_cells (tbox_below hbox hB)
          have hz : (strV (pt8 l ks c)).size ≤ 50000000 := by rw [strV_size]; exact HX.out.2 c
          clear r0 r1 r2 r3 p0 p1 p2 p3
          cases gk with
          | zero =>
            have hcc : ¬ ((c : Int) < (ks.length : Int)) := by omega
            have hce : c = ks.length := by omega
            have HCE := Lib.hid hce
            clear hce hgc hv ih
            go_wp2_with fail
            go_ret
            exact ⟨congrArg (fun x => Ending.returned (Value.string x)) (by rw [← HCE.out]; exact str_app8' _ _ _ rfl), hwr⟩
          | succ m =>
            have hlt : c < ks.length := by omega
            have hcc : ((c : Int) < (ks.length : Int)) := by omega
            obtain ⟨b, o, k1', n1', s1, a1, l1, c1, T1, rfl, hbn, e0, e1, e2, e3, hT1, ht1⟩ := IsTm.kid hv c hlt
            have q0 := (hwr.cell (p := ⟨b, o + c * 4, none⟩) hbn).trans e0
            have q1 := (hwr.cell (p := ⟨b, o + c * 4 + 1, none⟩) hbn).trans e1
            have q2 := (hwr.cell (p := ⟨b, o + c * 4 + 2, none⟩) hbn).trans e2
            have q3 := (hwr.cell (p := ⟨b, o + c * 4 + 3, none⟩) hbn).trans e3
            obtain ⟨z1, z2⟩ := HB.out T1 (List.mem_of_getElem? hT1)
            have hih := (ih T1 (List.mem_of_getElem? hT1) _ wr (IsTm.later hwr hwr.size ht1) z1 z2).mono (R' := fun e w2 => e = .returned (.string (strV T1.txt)) ∧ Below w1.heap.size w1 w2) (fun e w2 h => ⟨h.1, bel hB h.2⟩)
            have htz : (strV T1.txt).size ≤ 50000000 := by
              rw [strV_size]
              have := Tm.txt_len T1 (ht1.nums 1)
              omega
            have HS := Lib.hid (pt8_succ (l := l) hT1)
            have HIH := Lib.hid hih
            clear ih hv e0 e1 e2 e3 ht1 z1 z2 hT1 hih
            by_cases c0 : c = 0
            · subst c0
              have HS2 := Lib.hid (show pt8 l ks (0 + 1) = pt8 l ks 0 ++ [40] ++ T1.txt by rw [HS.out, if_pos rfl])
              clear HS HP0 HX
              generalize pt8 l ks 0 = p at *
              generalize T1.txt = tx at *
              simp only [Nat.zero_mul, Nat.add_zero] at q0 q1 q2 q3
              go_wp2_with (first | (go_at_call 8; (with_reducible refine HIH.out.mono ?_); rintro e w3 ⟨rfl, hB3⟩))
              go_roundg m
              case measure => omega
              case rel => exact ⟨0 + 1, congrArg Value.string (strV_of (by rw [app_list8, app_list8, strV_list, strV_list, HS2.out])), by simp, by omega, hB3⟩
            · have hc0 : ((c : Int) == 0) = false := by simpa using c0
              have HS2 := Lib.hid (show pt8 l ks (c + 1) = pt8 l ks c ++ [44] ++ T1.txt by rw [HS.out, if_neg c0])
              clear HS HP0 HX c0
              generalize pt8 l ks c = p at *
              generalize T1.txt = tx at *
              go_wp2_with (first | (go_at_call 8; (with_reducible refine HIH.out.mono ?_); rintro e w3 ⟨rfl, hB3⟩))
              go_roundg m
              case measure => omega
              case rel => exact ⟨c + 1, congrArg Value.string (strV_of (by rw [app_list8, app_list8, strV_list, strV_list, HS2.out])), by simp, by omega, hB3⟩
  have HX := Lib.hid (show (Tm.mk k n s ks).txt = [63] by rw [Tm.txt_mk, if_neg k1, if_neg k2, if_neg k3, if_neg k4])
  rw [HX.out]
  clear HX ih hv htl
  have n3 : (k == 3) = false := by simpa using k3
  by_cases k4' : k = 4
  · have hl1 : ((ks.length : Int) == 1) = false := by simp; intro e; exact k4 ⟨k4', by omega⟩
    subst k4'
    clear k4
    go_enter Tryd.func8, Tryd.ntmps8
    go_upto_region 1 with fail
    rw [← hw1]
    clear hw1
    go_wp2_with fail
    go_ret
    exact ⟨rfl, hB1⟩
  · have n4 : (k == 4) = false := by simpa using k4'
    clear k4
    go_enter Tryd.func8, Tryd.ntmps8
    go_upto_region 1 with fail
    rw [← hw1]
    clear hw1
    go_wp2_with fail
    go_ret
    exact ⟨rfl, hB1⟩
end Go.Proofs.YtfencolokfghfaaDoor
