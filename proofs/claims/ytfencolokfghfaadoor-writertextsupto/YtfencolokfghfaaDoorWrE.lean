/-
  The walks of writer.write and writer.Text, whatever the term.
-/
import Derived.Test.YtfencolokfghfaaDoorWrD
namespace Go.Proofs.YtfencolokfghfaaDoor
open Go.Shelf Go.RowKit Go.Sort
set_option linter.unusedVariables false

set_option maxRecDepth 100000 in
set_option maxHeartbeats 4000000 in
theorem write_ok (w0 : World) (hT0 : TabP w0) (b : Nat) : ∀ T : Tm, T.byt ≤ 2000000 → T.size ≤ 1000000 → WOk w0 b T := by
  intro T
  induction T using Tm.ind with
  | h k n s ks ih =>
    intro hby hsz v l w ht hP hB hl
    rw [Tm.byt_mk] at hby
    rw [Tm.size_mk] at hsz
    have hkl := Tm.length_le_sizes ks
    have ihk : ∀ t ∈ ks, WOk w0 b t := fun t hm => ih t hm (by have := Tm.byt_le hm; omega) (by have := Tm.size_le_sizes hm; omega)
    obtain ⟨k', n', s', a, len, cap, ks', rfl, e, hlen, hk, hn, hs', hc, hm, ha⟩ := ht.form
    injection e with e1 e2 e3 e4
    subst e1 e2 e3 e4
    subst hlen
    have hin := itoa_len n hn
    obtain ⟨w1, hw1⟩ : ∃ w1, w1 = w.alloc (.cells #[.int .i64 k, .int .i64 n, .string s, .slice a ks.length cap] 24) := ⟨_, rfl⟩
    have hb1 : Below w.heap.size w w1 := by rw [hw1]; exact bel_al (Below.refl _ _) _
    have hx1 : w1.heap[w.heap.size]? = some (.cells #[.int .i64 k, .int .i64 n, .string s, .slice a ks.length cap] 24 (0, 0)) := by rw [hw1]; exact alloc_new _ _
    obtain ⟨t0, t1, t2, t3⟩ := tbox_cells hx1
    obtain ⟨p, hp⟩ := hP.any
    have hk1 := KeepF.below hb1 hp.lt
    have hP1 := hP.below hb1
    have hB1 : Below w0.heap.size w0 w1 := bel hB hb1
    have hlt1 : w.heap.size < w1.heap.size := (Array.getElem?_eq_some_iff.1 hx1).1
    have hdec := fun W (h : Below w0.heap.size w0 W) => decimal_at n hn W (hT0.later h)
    have hF1 : For b w1 w.heap.size := hp.fresh hb1 (Nat.le_refl _) hlt1
    rw [Tm.txt_mk] at hl ⊢
    by_cases c1 : k = 1
    · subst c1
      rw [if_pos rfl] at hl ⊢
      go_enter Tryd.func19, Tryd.ntmps19
      go_upto_region 1 with fail
      rw [← hw1]
      clear hw1
      go_wp2_with (first
        | (go_at_call 30; refine (hdec _ hB1).mono ?_; rintro e W2 ⟨rfl, hb2⟩; have hk2 := hk1.trans (KeepF.below hb2 (hp.below hb1).lt); have hput := put2 (ByteArray.mk #[95]) (strV (Lib.itoa n)) (hP1.below hb2) (bel hB1 hb2) (by rw [strV_list]; have : (ByteArray.mk #[95]).data.toList.length = 1 := rfl; rw [List.length_cons] at hl; omega))
        | (go_at_call 20; refine hput.mono ?_; rintro e W3 ⟨rfl, hP3, hB3, hk3⟩))
      go_end0
      rw [strV_list] at hP3
      exact ⟨rfl, hP3, hB3, hk2.trans hk3⟩
    rw [if_neg c1] at hl ⊢
    have c1' : (k == 1) = false := by rw [beq_eq_false_iff_ne]; exact c1
    by_cases c2 : k = 2
    · subst c2
      rw [if_pos rfl] at hl ⊢
      go_enter Tryd.func19, Tryd.ntmps19
      go_upto_region 1 with fail
      rw [← hw1]
      clear hw1
      go_wp2_with (first
        | (go_at_call 30; refine (hdec _ hB1).mono ?_; rintro e W2 ⟨rfl, hb2⟩; have hk2 := hk1.trans (KeepF.below hb2 (hp.below hb1).lt); have hput := put1 (strV (Lib.itoa n)) (hP1.below hb2) (bel hB1 hb2) (by rw [strV_list]; omega))
        | (go_at_call 20; refine hput.mono ?_; rintro e W3 ⟨rfl, hP3, hB3, hk3⟩))
      go_end0
      rw [strV_list] at hP3
      exact ⟨rfl, hP3, hB3, hk2.trans hk3⟩
    rw [if_neg c2] at hl ⊢
    have c2' : (k == 2) = false := by rw [beq_eq_false_iff_ne]; exact c2
    have hT1 : TmIn (For b w1) w1 (.agg #[.int .i64 k, .int .i64 n, .string s, .slice a ks.length cap]) (.mk k n s ks) := TmIn.carry (fun x hx => (hk1.2 x hx).2) (fun x hx => (hk1.2 x hx).1) ht
    by_cases c3 : k = 3
    · subst c3
      rw [if_pos rfl] at hl ⊢
      generalize hX : (if ks.length = 0 then quoteL s.data.toList else fnL s.data.toList ++ 40 :: (Tm.txtc ks).tail ++ [41]) = X at hl ⊢
      have hwf : Calls Tryd.prog 31 #[.agg #[.int .i64 3, .int .i64 n, .string s, .slice a ks.length cap], PV b] w1 (WPost w0 b (l ++ X) w1) := by
        by_cases hne : ks.length = 0
        · rw [if_pos hne] at hX
          subst hX
          obtain rfl : ks = [] := List.eq_nil_of_length_eq_zero hne
          exact writeFun_nil n s (by omega) _ l w1 hT1 hP1 hB1 hl
        · rw [if_neg hne] at hX
          subst hX
          exact writeFun_kids n s ks hne (by omega) (by omega) ihk _ l w1 hT1 hP1 hB1 hl
      have HW := Lib.hid hwf
      clear hwf hX
      go_enter Tryd.func19, Tryd.ntmps19
      go_upto_region 1 with fail
      rw [← hw1]
      clear hw1
      go_wp2_with (first
        | (go_at_call 31; (with_reducible refine HW.out.mono ?_); rintro e W3 ⟨rfl, hP3, hB3, hk3⟩))
      go_end0
      exact ⟨rfl, hP3, hB3, hk1.trans hk3⟩
    rw [if_neg c3] at hl ⊢
    have c3' : (k == 3) = false := by rw [beq_eq_false_iff_ne]; exact c3
    by_cases c4 : k = 4 ∧ ks.length = 1
    · rw [if_pos c4] at hl ⊢
      obtain ⟨rfl, h1⟩ := c4
      obtain ⟨t, rfl⟩ : ∃ t, ks = [t] := by
        match ks, h1 with
        | [t], _ => exact ⟨t, rfl⟩
      have htc : (Tm.txtc [t]).tail = t.txt := by rw [Tm.txtc_cons, Tm.txtc_nil]; simp
      rw [htc] at hl ⊢
      simp only [List.length_append, List.length_cons, List.length_nil] at hl
      have hok := ihk t (by simp)
      obtain ⟨a', cap', hv, -, -, -, hx⟩ := hT1.kids
      obtain ⟨bk, o, k2, n2, s2, a2, l2, c2, he, hfor, q0, q1, q2, q3, hTm⟩ := hx 0 (by simp)
      injection hv with hv1 hv2 hv3
      subst hv1 hv3
      subst he
      have hp1 := put1 (ByteArray.mk #[64, 40]) hP1 hB1 (by have : (ByteArray.mk #[64, 40]).data.toList.length = 2 := rfl; omega)
      have hTm' : TmIn (For b w1) w1 (.agg #[.int .i64 k2, .int .i64 n2, .string s2, .slice a2 l2 c2]) t := hTm
      have HP1 := Lib.hid hp1
      have e1 : w1.heap.size = w.heap.size + 1 := by rw [hw1]; simp
      rw [e1] at hp1
      have HP2 := Lib.hid hp1
      clear e1
      simp only [Nat.zero_mul, Nat.add_zero] at q0 q1 q2 q3
      have cellK : ∀ (W : World), KeepF b w1 W → ∀ (x oo : Nat) (u : Value), For b w1 x → w1.cell? ⟨x, oo, none⟩ = some u → W.cell? ⟨x, oo, none⟩ = some u := fun W hk x oo u hf hc => (World.cell?_of_block (a := ⟨x, oo, none⟩) (hk.2 x hf).2).trans hc
      clear hp1 hx hTm
      go_enter Tryd.func19, Tryd.ntmps19
      go_upto_region 1 with fail
      simp only [List.length_cons, List.length_nil, Nat.zero_add] at hw1 ⊢
      rw [← hw1]
      clear hw1
      have hl9 := Lib.hid hl
      clear hl
      go_wp2_with (first
        | (go_at_call 20; (with_reducible refine HP1.out.mono ?_); rintro e W2 ⟨rfl, hP2, hB2, hk2⟩; have y3 := cellK W2 hk2 _ _ _ hF1 t3; have z0 := cellK W2 hk2 _ _ _ hfor q0; have z1 := cellK W2 hk2 _ _ _ hfor q1; have z2 := cellK W2 hk2 _ _ _ hfor q2; have z3 := cellK W2 hk2 _ _ _ hfor q3; have hwr := hok _ _ W2 (TmIn.carry (fun x hx => (hk2.2 x hx).2) (fun x hx => (hk2.2 x hx).1) hTm') hP2 hB2 (by have := hl9.out; show (l ++ [64, 40]).length + t.txt.length ≤ 1000000000; simp only [List.length_append, List.length_cons, List.length_nil]; omega))
        | (go_at_call 20; (with_reducible refine HP2.out.mono ?_); rintro e W2 ⟨rfl, hP2, hB2, hk2⟩; have y3 := cellK W2 hk2 _ _ _ hF1 t3; have z0 := cellK W2 hk2 _ _ _ hfor q0; have z1 := cellK W2 hk2 _ _ _ hfor q1; have z2 := cellK W2 hk2 _ _ _ hfor q2; have z3 := cellK W2 hk2 _ _ _ hfor q3; have hwr := hok _ _ W2 (TmIn.carry (fun x hx => (hk2.2 x hx).2) (fun x hx => (hk2.2 x hx).1) hTm') hP2 hB2 (by have := hl9.out; show (l ++ [64, 40]).length + t.txt.length ≤ 1000000000; simp only [List.length_append, List.length_cons, List.length_nil]; omega))
        | (go_at_call 19; (with_reducible refine hwr.mono ?_); rintro e W3 ⟨rfl, hP3, hB3, hk3⟩; have y1 := cellK W3 (hk2.trans hk3) _ _ _ hF1 t1)
        | (go_at_call 30; refine (hdec _ hB3).mono ?_; rintro e W4 ⟨rfl, hb4⟩; have hput3 := put3 (ByteArray.mk #[44]) (strV (Lib.itoa n)) (ByteArray.mk #[41]) (hP3.below hb4) (bel hB3 hb4) (by have := hl9.out; show (l ++ [64, 40] ++ t.txt).length + (([44] : List UInt8).length + ((strV (Lib.itoa n)).data.toList.length + ([41] : List UInt8).length)) ≤ 1000000000000; rw [strV_list]; simp only [List.length_append, List.length_cons, List.length_nil]; omega))
        | (go_at_call 20; (with_reducible refine hput3.mono ?_); rintro e W5 ⟨rfl, hP5, hB5, hk5⟩))
      go_end0
      obtain ⟨p3, hp3⟩ := hP3.any
      refine ⟨rfl, ?_, hB5, hk1.trans (hk2.trans (hk3.trans ((KeepF.below hb4 hp3.lt).trans hk5)))⟩
      rw [strV_list] at hP5
      simpa [List.append_assoc] using hP5
    rw [if_neg c4] at hl ⊢
    have c4' : (k == 4 && ((ks.length : Int) == 1)) = false := by
      cases h4 : (k == 4) with
      | false => rfl
      | true =>
        rw [Bool.true_and, beq_eq_false_iff_ne]
        intro h
        exact c4 ⟨by simpa using h4, by omega⟩
    have hput := put1 (ByteArray.mk #[63]) hP1 hB1 (by have : (ByteArray.mk #[63]).data.toList.length = 1 := rfl; simp at hl; omega)
    have HP1 := Lib.hid hput
    clear hput
    have c4n : k = 4 → ¬ ((ks.length : Int) = 1) := fun h h2 => c4 ⟨h, by omega⟩
    by_cases c5 : k = 4
    · subst c5
      have c6 : ((ks.length : Int) == 1) = false := by rw [beq_eq_false_iff_ne]; exact c4n rfl
      clear c4 c4' c4n
      go_enter Tryd.func19, Tryd.ntmps19
      go_upto_region 1 with fail
      rw [← hw1]
      clear hw1
      go_wp2_with (first
        | (go_at_call 20; (with_reducible refine HP1.out.mono ?_); rintro e W3 ⟨rfl, hP3, hB3, hk3⟩))
      go_end0
      exact ⟨rfl, hP3, hB3, hk1.trans hk3⟩
    · have c6 : (k == 4) = false := by rw [beq_eq_false_iff_ne]; exact c5
      clear c4 c4' c4n
      go_enter Tryd.func19, Tryd.ntmps19
      go_upto_region 1 with fail
      rw [← hw1]
      clear hw1
      go_wp2_with (first
        | (go_at_call 20; (with_reducible refine HP1.out.mono ?_); rintro e W3 ⟨rfl, hP3, hB3, hk3⟩))
      go_end0
      exact ⟨rfl, hP3, hB3, hk1.trans hk3⟩
end Go.Proofs.YtfencolokfghfaaDoor
