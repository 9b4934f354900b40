/-
  The walks of writer.write and writer.Text, whatever the term.
-/
import Derived.Test.YtfencolokfghfaaGreatDoorWrX
import Derived.Test.YtfencolokfghfaaGreatDoorSame
import Derived.Test.YtfencolokfghfaaGreatDoorVars
import Derived.Test.YtfencolokfghfaaGreatDoorMake
import Derived.Test.YtfencolokfghfaaGreatDoorSize
import Derived.Deep.QuietTactic
import Derived.BigQuiet
namespace Go.Proofs.YtfencolokfghfaaGreatDoor
open Go.Shelf Go.RowKit Go.Sort
set_option linter.unusedVariables false

set_option maxRecDepth 100000 in
set_option maxHeartbeats 4000000 in
theorem write_ok (w0 : World) (hT0 : TabP w0) (b : Nat) : ∀ T : Tm, T.byt ≤ 2000000 → T.size ≤ 1000000 → WOk w0 b T := by
  intro T
  induction T using Tm.ind with
  | h k n s ks ih =>
    intro hby hsz v l w ht hP hB hl
    rw [Tm.byt_mk] at hby
    rw [Tm.size_mk] at hsz
    have hkl := Tm.length_le_sizes ks
    have ihk : ∀ t ∈ ks, WOk w0 b t := fun t hm => ih t hm (by have := Tm.byt_le hm; omega) (by have := Tm.size_le_sizes hm; omega)
    obtain ⟨k', n', s', a, len, cap, ks', rfl, e, hlen, hk, hn, hs', hc, hm, ha⟩ := ht.form
    injection e with e1 e2 e3 e4
    subst e1 e2 e3 e4
    subst hlen
    have hin := itoa_len n hn
    obtain ⟨w1, hw1⟩ : ∃ w1, w1 = w.alloc (.cells #[.int .i64 k, .int .i64 n, .string s, .slice a ks.length cap] 24) := ⟨_, rfl⟩
    have hb1 : Below w.heap.size w w1 := by rw [hw1]; exact bel_al (Below.refl _ _) _
    have hx1 : w1.heap[w.heap.size]? = some (.cells #[.int .i64 k, .int .i64 n, .string s, .slice a ks.length cap] 24 (0, 0)) := by rw [hw1]; exact alloc_new _ _
    obtain ⟨t0, t1, t2, t3⟩ := tbox_cells hx1
    obtain ⟨p, hp⟩ := hP.any
    have hk1 := KeepF.below hb1 hp.lt
    have hP1 := hP.below hb1
    have hB1 : Below w0.heap.size w0 w1 := bel hB hb1
    have hlt1 : w.heap.size < w1.heap.size := (Array.getElem?_eq_some_iff.1 hx1).1
    have hdec := fun W (h : Below w0.heap.size w0 W) => decimal_at n hn W (hT0.later h)
    have hF1 : For b w1 w.heap.size := hp.fresh hb1 (Nat.le_refl _) hlt1
    rw [Tm.txt_mk] at hl ⊢
    by_cases c1 : k = 1
    · subst c1
      rw [if_pos rfl] at hl ⊢
      go_enter Tryz.func23, Tryz.ntmps23
      go_upto_region 1 with fail
      rw [← hw1]
      clear hw1
      go_wp2_with (first
        | (go_at_call 36; refine (hdec _ hB1).mono ?_; rintro e W2 ⟨rfl, hb2⟩; have hk2 := hk1.trans (KeepF.below hb2 (hp.below hb1).lt); have hput := put2 (ByteArray.mk #[95]) (strV (Lib.itoa n)) (hP1.below hb2) (bel hB1 hb2) (by rw [strV_list]; have : (ByteArray.mk #[95]).data.toList.length = 1 := rfl; rw [List.length_cons] at hl; omega))
        | (go_at_call 24; refine hput.mono ?_; rintro e W3 ⟨rfl, hP3, hB3, hk3⟩))
      go_end0
      rw [strV_list] at hP3
      exact ⟨rfl, hP3, hB3, hk2.trans hk3⟩
    rw [if_neg c1] at hl ⊢
    have c1' : (k == 1) = false := by rw [beq_eq_false_iff_ne]; exact c1
    by_cases c2 : k = 2
    · subst c2
      rw [if_pos rfl] at hl ⊢
      go_enter Tryz.func23, Tryz.ntmps23
      go_upto_region 1 with fail
      rw [← hw1]
      clear hw1
      go_wp2_with (first
        | (go_at_call 36; refine (hdec _ hB1).mono ?_; rintro e W2 ⟨rfl, hb2⟩; have hk2 := hk1.trans (KeepF.below hb2 (hp.below hb1).lt); have hput := put1 (strV (Lib.itoa n)) (hP1.below hb2) (bel hB1 hb2) (by rw [strV_list]; omega))
        | (go_at_call 24; refine hput.mono ?_; rintro e W3 ⟨rfl, hP3, hB3, hk3⟩))
      go_end0
      rw [strV_list] at hP3
      exact ⟨rfl, hP3, hB3, hk2.trans hk3⟩
    rw [if_neg c2] at hl ⊢
    have c2' : (k == 2) = false := by rw [beq_eq_false_iff_ne]; exact c2
    have hT1 : TmIn (For b w1) w1 (.agg #[.int .i64 k, .int .i64 n, .string s, .slice a ks.length cap]) (.mk k n s ks) := TmIn.carry (fun x hx => (hk1.2 x hx).2) (fun x hx => (hk1.2 x hx).1) ht
    by_cases c3 : k = 3
    · subst c3
      rw [if_pos rfl] at hl ⊢
      generalize hX : (if ks.length = 0 then quoteL s.data.toList else fnL s.data.toList ++ 40 :: (Tm.txtc ks).tail ++ [41]) = X at hl ⊢
      have hwf : Calls Tryz.prog 37 #[.agg #[.int .i64 3, .int .i64 n, .string s, .slice a ks.length cap], PV b] w1 (WPost w0 b (l ++ X) w1) := by
        by_cases hne : ks.length = 0
        · rw [if_pos hne] at hX
          subst hX
          obtain rfl : ks = [] := List.eq_nil_of_length_eq_zero hne
          exact writeFun_nil n s (by omega) _ l w1 hT1 hP1 hB1 hl
        · rw [if_neg hne] at hX
          subst hX
          exact writeFun_kids n s ks hne (by omega) (by omega) ihk _ l w1 hT1 hP1 hB1 hl
      have HW := Lib.hid hwf
      clear hwf hX
      go_enter Tryz.func23, Tryz.ntmps23
      go_upto_region 1 with fail
      rw [← hw1]
      clear hw1
      go_wp2_with (first
        | (go_at_call 37; (with_reducible refine HW.out.mono ?_); rintro e W3 ⟨rfl, hP3, hB3, hk3⟩))
      go_end0
      exact ⟨rfl, hP3, hB3, hk1.trans hk3⟩
    rw [if_neg c3] at hl ⊢
    have c3' : (k == 3) = false := by rw [beq_eq_false_iff_ne]; exact c3
    by_cases c4 : k = 4 ∧ ks.length = 1
    · rw [if_pos c4] at hl ⊢
      obtain ⟨rfl, h1⟩ := c4
      obtain ⟨t, rfl⟩ : ∃ t, ks = [t] := by
        match ks, h1 with
        | [t], _ => exact ⟨t, rfl⟩
      have htc : (Tm.txtc [t]).tail = t.txt := by rw [Tm.txtc_cons, Tm.txtc_nil]; simp
      rw [htc] at hl ⊢
      simp only [List.length_append, List.length_cons, List.length_nil] at hl
      have hok := ihk t (by simp)
      obtain ⟨a', cap', hv, -, -, -, hx⟩ := hT1.kids
      obtain ⟨bk, o, k2, n2, s2, a2, l2, c2, he, hfor, q0, q1, q2, q3, hTm⟩ := hx 0 (by simp)
      injection hv with hv1 hv2 hv3
      subst hv1 hv3
      subst he
      have hp1 := put1 (ByteArray.mk #[64, 40]) hP1 hB1 (by have : (ByteArray.mk #[64, 40]).data.toList.length = 2 := rfl; omega)
      have hTm' : TmIn (For b w1) w1 (.agg #[.int .i64 k2, .int .i64 n2, .string s2, .slice a2 l2 c2]) t := hTm
      have HP1 := Lib.hid hp1
      have e1 : w1.heap.size = w.heap.size + 1 := by rw [hw1]; simp
      rw [e1] at hp1
      have HP2 := Lib.hid hp1
      clear e1
      simp only [Nat.zero_mul, Nat.add_zero] at q0 q1 q2 q3
      have cellK : ∀ (W : World), KeepF b w1 W → ∀ (x oo : Nat) (u : Value), For b w1 x → w1.cell? ⟨x, oo, none⟩ = some u → W.cell? ⟨x, oo, none⟩ = some u := fun W hk x oo u hf hc => (World.cell?_of_block (a := ⟨x, oo, none⟩) (hk.2 x hf).2).trans hc
      clear hp1 hx hTm
      go_enter Tryz.func23, Tryz.ntmps23
      go_upto_region 1 with fail
      simp only [List.length_cons, List.length_nil, Nat.zero_add] at hw1 ⊢
      rw [← hw1]
      clear hw1
      have hl9 := Lib.hid hl
      clear hl
      go_wp2_with (first
        | (go_at_call 24; (with_reducible refine HP1.out.mono ?_); rintro e W2 ⟨rfl, hP2, hB2, hk2⟩; have y3 := cellK W2 hk2 _ _ _ hF1 t3; have z0 := cellK W2 hk2 _ _ _ hfor q0; have z1 := cellK W2 hk2 _ _ _ hfor q1; have z2 := cellK W2 hk2 _ _ _ hfor q2; have z3 := cellK W2 hk2 _ _ _ hfor q3; have hwr := hok _ _ W2 (TmIn.carry (fun x hx => (hk2.2 x hx).2) (fun x hx => (hk2.2 x hx).1) hTm') hP2 hB2 (by have := hl9.out; show (l ++ [64, 40]).length + t.txt.length ≤ 1000000000; simp only [List.length_append, List.length_cons, List.length_nil]; omega))
        | (go_at_call 24; (with_reducible refine HP2.out.mono ?_); rintro e W2 ⟨rfl, hP2, hB2, hk2⟩; have y3 := cellK W2 hk2 _ _ _ hF1 t3; have z0 := cellK W2 hk2 _ _ _ hfor q0; have z1 := cellK W2 hk2 _ _ _ hfor q1; have z2 := cellK W2 hk2 _ _ _ hfor q2; have z3 := cellK W2 hk2 _ _ _ hfor q3; have hwr := hok _ _ W2 (TmIn.carry (fun x hx => (hk2.2 x hx).2) (fun x hx => (hk2.2 x hx).1) hTm') hP2 hB2 (by have := hl9.out; show (l ++ [64, 40]).length + t.txt.length ≤ 1000000000; simp only [List.length_append, List.length_cons, List.length_nil]; omega))
        | (go_at_call 23; (with_reducible refine hwr.mono ?_); rintro e W3 ⟨rfl, hP3, hB3, hk3⟩; have y1 := cellK W3 (hk2.trans hk3) _ _ _ hF1 t1)
        | (go_at_call 36; refine (hdec _ hB3).mono ?_; rintro e W4 ⟨rfl, hb4⟩; have hput3 := put3 (ByteArray.mk #[44]) (strV (Lib.itoa n)) (ByteArray.mk #[41]) (hP3.below hb4) (bel hB3 hb4) (by have := hl9.out; show (l ++ [64, 40] ++ t.txt).length + (([44] : List UInt8).length + ((strV (Lib.itoa n)).data.toList.length + ([41] : List UInt8).length)) ≤ 1000000000000; rw [strV_list]; simp only [List.length_append, List.length_cons, List.length_nil]; omega))
        | (go_at_call 24; (with_reducible refine hput3.mono ?_); rintro e W5 ⟨rfl, hP5, hB5, hk5⟩))
      go_end0
      obtain ⟨p3, hp3⟩ := hP3.any
      refine ⟨rfl, ?_, hB5, hk1.trans (hk2.trans (hk3.trans ((KeepF.below hb4 hp3.lt).trans hk5)))⟩
      rw [strV_list] at hP5
      simpa [List.append_assoc] using hP5
    rw [if_neg c4] at hl ⊢
    have c4' : (k == 4 && ((ks.length : Int) == 1)) = false := by
      cases h4 : (k == 4) with
      | false => rfl
      | true =>
        rw [Bool.true_and, beq_eq_false_iff_ne]
        intro h
        exact c4 ⟨by simpa using h4, by omega⟩
    have hput := put1 (ByteArray.mk #[63]) hP1 hB1 (by have : (ByteArray.mk #[63]).data.toList.length = 1 := rfl; simp at hl; omega)
    have HP1 := Lib.hid hput
    clear hput
    have c4n : k = 4 → ¬ ((ks.length : Int) = 1) := fun h h2 => c4 ⟨h, by omega⟩
    by_cases c5 : k = 4
    · subst c5
      have c6 : ((ks.length : Int) == 1) = false := by rw [beq_eq_false_iff_ne]; exact c4n rfl
      clear c4 c4' c4n
      go_enter Tryz.func23, Tryz.ntmps23
      go_upto_region 1 with fail
      rw [← hw1]
      clear hw1
      go_wp2_with (first
        | (go_at_call 24; (with_reducible refine HP1.out.mono ?_); rintro e W3 ⟨rfl, hP3, hB3, hk3⟩))
      go_end0
      exact ⟨rfl, hP3, hB3, hk1.trans hk3⟩
    · have c6 : (k == 4) = false := by rw [beq_eq_false_iff_ne]; exact c5
      clear c4 c4' c4n
      go_enter Tryz.func23, Tryz.ntmps23
      go_upto_region 1 with fail
      rw [← hw1]
      clear hw1
      go_wp2_with (first
        | (go_at_call 24; (with_reducible refine HP1.out.mono ?_); rintro e W3 ⟨rfl, hP3, hB3, hk3⟩))
      go_end0
      exact ⟨rfl, hP3, hB3, hk1.trans hk3⟩
end Go.Proofs.YtfencolokfghfaaGreatDoor
namespace Go.Proofs.YtfencolokfghfaaGreatDoor
open Go.Shelf Go.RowKit Go.Sort
set_option linter.unusedVariables false

theorem dec_ne (u : Nat) : Lib.decDigits u ≠ [] := by
  intro h
  have := congrArg List.length h
  rw [Lib.decDigits_length, Lib.nDigits] at this
  split at this <;> simp at this
theorem itoa_ne (n : Int) : Lib.itoa n ≠ [] := by
  unfold Lib.itoa
  split
  · simp
  · exact dec_ne _
theorem quoteL_ne (l : List UInt8) : quoteL l ≠ [] := by
  unfold quoteL
  split
  · rename_i h
    intro e
    rw [e] at h
    simp [plainB] at h
  · simp
theorem Tm.txt_ne (T : Tm) : T.txt ≠ [] := by
  obtain ⟨k, n, s, ks⟩ := T
  rw [Tm.txt_mk]
  split
  · simp
  · split
    · exact itoa_ne n
    · split
      · split
        · exact quoteL_ne _
        · simp
      · split
        · simp
        · simp
theorem Tm.txt_len (T : Tm) (hn : ∀ x ∈ T.parts 1, i64ok x.2.num) : T.txt.length + 1 ≤ 2 * T.byt + 40 * T.size := by
  have key : ∀ (T : Tm) (d : Nat), (∀ x ∈ T.parts d, i64ok x.2.num) → T.txt.length + 1 ≤ 2 * T.byt + 40 * T.size := by
    intro T
    induction T using Tm.ind with
    | h k n s ks ih =>
      intro d hp
      rw [Tm.parts_mk] at hp
      have hn : i64ok n := hp (d, .mk k n s ks) (by simp)
      have hi := itoa_len n hn
      have hks : ∀ ks : List Tm, (∀ t ∈ ks, ∀ d, (∀ x ∈ t.parts d, i64ok x.2.num) → t.txt.length + 1 ≤ 2 * t.byt + 40 * t.size) → (∀ x ∈ Tm.partss (d + 1) ks, i64ok x.2.num) → (Tm.txtc ks).length ≤ 2 * Tm.byts ks + 40 * Tm.sizes ks := by
        intro ks
        induction ks with
        | nil => intro _ _; rw [Tm.txtc_nil]; simp
        | cons t ts iht =>
          intro h hp
          rw [Tm.partss_cons] at hp
          have h1 := h t (by simp) (d + 1) (fun x hx => hp x (by simp [hx]))
          have h2 := iht (fun u hu => h u (by simp [hu])) (fun x hx => hp x (by simp [hx]))
          rw [Tm.txtc_cons, Tm.byts_cons, Tm.sizes_cons, List.length_cons, List.length_append]
          omega
      have h3 := hks ks ih (fun x hx => hp x (by simp [hx]))
      have h4 := quoteL_len s.data.toList
      have h5 := fnL_len s.data.toList
      have h6 : s.data.toList.length = s.size := rfl
      rw [Tm.byt_mk, Tm.size_mk, Tm.txt_mk]
      split
      · rw [List.length_cons]; omega
      · split
        · omega
        · split
          · split
            · omega
            · simp only [List.length_append, List.length_cons, List.length_nil, List.length_tail]; omega
          · split
            · simp only [List.length_append, List.length_cons, List.length_nil, List.length_tail]; omega
            · simp only [List.length_cons, List.length_nil]; omega
  exact key T 1 hn
theorem TmIn.nums {p : Nat → Prop} {W : World} {T : Tm} : ∀ {v : Value}, TmIn p W v T → ∀ d, ∀ x ∈ T.parts d, i64ok x.2.num := by
  induction T using Tm.ind with
  | h k n s ks ih =>
    intro v h d x hx
    rw [Tm.parts_mk] at hx
    cases h with
    | mk hk hn hs hc hm ha vs K N S hv hkid =>
      rcases List.mem_cons.1 hx with rfl | hx
      · exact hn
      · have : ∀ (ks' : List Tm), (∀ t ∈ ks', t ∈ ks) → ∀ d, x ∈ Tm.partss d ks' → i64ok x.2.num := by
          intro ks'
          induction ks' with
          | nil => intro _ d h; rw [Tm.partss_nil] at h; cases h
          | cons t ts iht =>
            intro hm d h
            rw [Tm.partss_cons] at h
            rcases List.mem_append.1 h with h | h
            · obtain ⟨i, hi, e⟩ := List.getElem_of_mem (hm t (by simp))
              have := hkid i hi
              rw [e] at this
              exact ih t (hm t (by simp)) this d x h
            · exact iht (fun u hu => hm u (by simp [hu])) d h
        exact this ks (fun t h => h) (d + 1) hx
theorem zeroPage (w : World) : (zeroValue 52).run Tryz.prog w = .ok (.agg #[.pointer none, .slice none 0 0]) w := by kernel_rfl
set_option maxRecDepth 100000 in
set_option maxHeartbeats 4000000 in
theorem text_at (T : Tm) (v : Value) (w : World) (ht : Has w v T) (hT0 : TabP w) (hby : T.byt ≤ 2000000) (hsz : T.size ≤ 1000000) : Calls Tryz.prog 9 #[v] w fun e w' => e = .returned (.string (strV T.txt)) ∧ Below w.heap.size w w' := by
  obtain ⟨k, n, s, a, len, cap, ks, rfl, e, hlen, -⟩ := ht.form
  clear e hlen
  have hlen2 := Tm.txt_len T (ht.nums 1)
  obtain ⟨w2, hw2⟩ : ∃ w2, w2 = (w.alloc (.cells #[.int .i64 k, .int .i64 n, .string s, .slice a len cap] 24)).alloc (.cells #[.pointer none, .slice none 0 0] 52) := ⟨_, rfl⟩
  have hb2 : Below w.heap.size w w2 := by rw [hw2]; exact bel_al (bel_al (Below.refl _ _) _) _
  have hx2 : w2.heap[w.heap.size + 1]? = some (.cells #[.pointer none, .slice none 0 0] 52 (0, 0)) := by rw [hw2]; simpa using alloc_new (w.alloc (.cells #[.int .i64 k, .int .i64 n, .string s, .slice a len cap] 24)) (.cells #[.pointer none, .slice none 0 0] 52)
  have hy2 : w2.heap[w.heap.size]? = some (.cells #[.int .i64 k, .int .i64 n, .string s, .slice a len cap] 24 (0, 0)) := by rw [hw2]; exact (Below.block (bel_al (Below.refl _ (w.alloc (.cells #[.int .i64 k, .int .i64 n, .string s, .slice a len cap] 24))) _) _ (by simp)).trans (alloc_new _ _)
  obtain ⟨t0, t1, t2, t3⟩ := tbox_cells hy2
  have hpg : PgAt w.heap.size (w.heap.size + 1) (.pointer none) (Lib.byteCells []) w2 := ⟨by omega, _, hx2, World.ownsRow_nil _ _ _ _, by simp [Value.ownBlock]⟩
  have hT2 : TmIn (For (w.heap.size + 1) w2) w2 (.agg #[.int .i64 k, .int .i64 n, .string s, .slice a len cap]) T := TmIn.carry (fun x hx => hb2.block x hx) (fun x (hx : x < w.heap.size) => ⟨Nat.lt_of_lt_of_le hx hb2.size, by omega, fun p v e hv => by
    rw [hx2] at e
    injection e with e
    injection e with e1
    have : Value.slice none 0 0 = v := by
      have := congrArg (fun a : Array Value => a[1]?) e1
      simpa using this
    rw [← this] at hv
    cases hv⟩) ht
  have hwr := write_ok w hT0 (w.heap.size + 1) T hby hsz _ [] w2 hT2 (.inl hpg) hb2 (by rw [List.length_nil]; omega)
  rw [List.nil_append] at hwr
  have hne := T.txt_ne
  have hz := zeroPage
  have HW := Lib.hid hwr
  clear hwr hpg hx2
  go_enter Tryz.func9, Tryz.ntmps9
  go_upto_region 2 with fail
  rw [← hw2]
  clear hw2
  go_wp2_with (first
    | (go_at_call 23; (with_reducible refine HW.out.mono ?_); rintro e W3 ⟨rfl, hP3, hB3, hk3⟩; have hst := string_at w.heap.size (w.heap.size + 1) T.txt W3 hP3 hne)
    | (go_at_call 25; (with_reducible refine hst.mono ?_); rintro e W4 ⟨rfl, hb4⟩))
  go_ret
  exact ⟨rfl, hB3.trans hb4⟩
end Go.Proofs.YtfencolokfghfaaGreatDoor
namespace Go.Proofs.YtfencolokfghfaaGreatDoor
open Go.Shelf Go.RowKit Go.Sort
set_option linter.unusedVariables false

/-- Texts in memory. -/
def StrIn (w : World) (a : Option Addr) (ns : List ByteArray) : Prop := ∀ i s, ns[i]? = some s → ∃ g o, a = some ⟨g, o, none⟩ ∧ g < w.heap.size ∧ w.cell? ⟨g, o + i, none⟩ = some (.string s)
theorem StrIn.below {w w' : World} {a : Option Addr} {ns : List ByteArray} (h : StrIn w a ns) (hb : Below w.heap.size w w') : StrIn w' a ns := fun i s hs => by
  obtain ⟨g, o, h1, h2, h3⟩ := h i s hs
  exact ⟨g, o, h1, Nat.lt_of_lt_of_le h2 hb.size, (hb.cell (p := ⟨g, o + i, none⟩) h2).trans h3⟩
def tellO (x : ByteArray × Tm) : Option ByteArray := if Lib.hasPrefix x.1.data.toList [95] = true then none else some (x.1 ++ ByteArray.mk #[32, 61, 32] ++ strV x.2.txt)
def toldL (ns : List ByteArray) (vs : List Tm) (k : Nat) : List ByteArray := ((ns.zip vs).take k).filterMap tellO
def ansL (ns : List ByteArray) (vs : List Tm) : List UInt8 :=
  if (toldL ns vs (ns.zip vs).length).length = 0 then [121, 101, 115] else Lib.join ((toldL ns vs (ns.zip vs).length).map (·.data.toList)) [44, 32]
def OwnS (w : World) (base : Nat) (v : Value) (ss : List ByteArray) : Prop := w.ownsRow base 9 1 v ss.length (ss.map Value.string)
theorem OwnS.form {w : World} {base : Nat} {v : Value} {l : List ByteArray} (h : OwnS w base v l) : ∃ a c, v = .slice a l.length c := by
  obtain ⟨hl, ⟨rfl, h1⟩ | ⟨g, cap, cur, rfl, hg, hh, h4, h5, h6, h7⟩⟩ := h
  · exact ⟨none, 0, by rw [h1]⟩
  · exact ⟨_, _, rfl⟩
theorem infoStr : (Tryz.prog.info? 9).map (fun i => (i.zero, i.size, i.bytes)) = some (some (.string (ByteArray.mk #[])), 1, 16) := by kernel_rfl
theorem wpList_append_s {w : World} {ops : Array Oper} {rest : List Oper} {o : Oper} {a : Act} {Q : Exit → Act → World → Prop} (hgd : o.guard = none) (s x : Operand)
    (ho : o.op = .call { callee := .builtin .append, args := #[s, x], argTypes := #[41, 41] })
    (base : Nat) (v : Value) (l : List ByteArray) (hs : a.eval s = v) (hown : OwnS w base v l) (B : Nat) (y : ByteArray) (hx : a.eval x = .slice (some ⟨B, 0, none⟩) 1 1)
    (hr : w.cell? ⟨B, 0, none⟩ = some (.string y)) (hl : l.length ≤ 1000000) (hbase : base ≤ w.heap.size)
    (h : ∀ v' w', OwnS w' base v' (l ++ [y]) → w.grownBy w' v.ownBlock → wpList Tryz.prog ops Q rest (a.put o.dst v') w') : wpList Tryz.prog ops Q (o :: rest) a w := by
  obtain ⟨i0, hi, hz0, hz1, hz2⟩ := info_parts infoStr
  refine wpList_append_own _ hgd s x 41 ho base 9 i0 _ 1 16 Tryz.underlying41 hi hz0 hz1 hz2 rfl (by decide) v l.length (l.map Value.string) hs hown ⟨B, 0, none⟩ 1 1 [.string y] hx rfl (fun j u hj => ?_) (fun u hu => by simp at hu; subst hu; rfl) (by unfold maxLen; omega) (by omega) hbase ?_
  · have : j = 0 := by have := (List.getElem?_eq_some_iff.1 hj).1; simpa using this
    subst this
    simp at hj
    subst hj
    simpa [Addr.add] using hr
  · intro v' w' h1 h2 _
    exact h v' w' (by unfold OwnS; rw [List.length_append, List.map_append]; exact h1) h2
theorem toldL_succ {ns : List ByteArray} {vs : List Tm} {k : Nat} {x : ByteArray × Tm} (h : (ns.zip vs)[k]? = some x) : toldL ns vs (k + 1) = toldL ns vs k ++ (tellO x).toList := by
  unfold toldL
  rw [List.take_add_one, h, List.filterMap_append]
  cases hx : tellO x with
  | none => simp [hx]
  | some y => simp [hx]
theorem joinTail_len {c : Nat} (sep : List UInt8) : ∀ (r : List (List UInt8)), (∀ x ∈ r, x.length ≤ c) → (Lib.joinTail sep r).length ≤ (c + sep.length) * r.length
  | [], _ => by simp [Lib.joinTail]
  | x :: r, h => by
    have h1 := joinTail_len sep r (fun y hy => h y (by simp [hy]))
    have h2 := h x (by simp)
    simp only [Lib.joinTail, List.map_cons, List.flatten_cons, List.length_append, List.length_cons] at h1 ⊢
    rw [Nat.mul_add]
    omega
theorem join_len {c : Nat} (sep : List UInt8) (r : List (List UInt8)) (h : ∀ x ∈ r, x.length ≤ c) : (Lib.join r sep).length ≤ (c + sep.length) * r.length := by
  cases r with
  | nil => simp [Lib.join_nil]
  | cons x r =>
    have h1 := joinTail_len sep r (fun y hy => h y (by simp [hy]))
    have h2 := h x (by simp)
    rw [Lib.join_cons, List.length_append, List.length_cons, Nat.mul_add]
    omega
theorem txt_bound {p : Nat → Prop} {W : World} {v : Value} {t : Tm} (h : TmIn p W v t) (hb : t.byt ≤ 2000000 ∧ t.size ≤ 1000000) : t.txt.length ≤ 45000000 := by
  have := Tm.txt_len t (h.nums 1)
  omega
set_option maxRecDepth 100000 in
set_option maxHeartbeats 4000000 in
theorem answer_at (ns : List ByteArray) (vs : List Tm) (a0 : Option Addr) (cap0 : Nat) (a1 : Option Addr) (cap1 : Nat) (w : World) (hns : StrIn w a0 ns) (hc0 : ns.length ≤ cap0) (hcm : cap0 ≤ maxLen) (ha0 : a0 = none → cap0 = 0) (hvs : HasTs w (.slice a1 vs.length cap1) vs) (hT : TabP w)
    (hv : ∀ t ∈ vs, t.byt ≤ 2000000 ∧ t.size ≤ 1000000) (hvl : vs.length ≤ 1000) (hnl : ns.length ≤ 9223372036854775807) (hn : ∀ s ∈ ns, s.size ≤ 2000000) : Calls Tryz.prog 17 #[.slice a0 ns.length cap0, .slice a1 vs.length cap1] w fun e w' => e = .returned (.string (strV (ansL ns vs))) ∧ Below w.heap.size w w' := by
  obtain ⟨m, hm⟩ : ∃ m, m = (ns.zip vs).length := ⟨_, rfl⟩
  have hm2 : m = min ns.length vs.length := by rw [hm, List.length_zip]
  have hmi : min (ns.length : Int) (vs.length : Int) = (m : Int) := by omega
  have hm3 : (m : Int) ≤ (cap0 : Int) := by omega
  have hm4 : (0 : Int) ≤ (m : Int) := by omega
  go_enter Tryz.func17, Tryz.ntmps17
  have hTs := hvs
  obtain ⟨a1', cap1', hvv, -, -, -, hel⟩ := hvs
  injection hvv with hv1 hv2 hv3
  subst hv1 hv3
  have htold : ∀ k, ∀ x ∈ toldL ns vs k, x.size ≤ 50000000 := by
    intro k x hx
    unfold toldL at hx
    obtain ⟨y, hy, hyx⟩ := List.mem_filterMap.1 hx
    have hz := List.mem_of_mem_take hy
    obtain ⟨i, hi, e⟩ := List.getElem_of_mem hz
    rw [List.getElem_zip] at e
    have hi1 : i < ns.length := by rw [List.length_zip] at hi; omega
    have hi2 : i < vs.length := by rw [List.length_zip] at hi; omega
    obtain ⟨b, o, k1, n1, s1, a2, l2, c2, -, -, -, -, -, -, hTm⟩ := hel i hi2
    have h1 := hn _ (List.getElem_mem hi1)
    have h2 := txt_bound hTm (hv _ (List.getElem_mem hi2))
    rw [← e] at hyx
    unfold tellO at hyx
    split at hyx
    · cases hyx
    · injection hyx with hyx
      rw [← hyx, ByteArray.size_append, ByteArray.size_append, strV_size]
      have : (ByteArray.mk #[32, 61, 32]).size = 3 := rfl
      simp only at *
      omega
  have hlen : ∀ k, k ≤ m → (toldL ns vs k).length ≤ 1000 := fun k hk => by
    have := List.length_filterMap_le tellO ((ns.zip vs).take k)
    rw [List.length_take] at this
    unfold toldL
    omega
  have HT := Lib.hid (And.intro htold (And.intro hlen (And.intro hm hel)))
  have HM := Lib.hid hm2
  clear htold hlen hm hel hm2
  go_wp2_with fail
  go_loopg [5, 16] m (fun g x z wr => ∃ k : Nat, z = .int .i64 k ∧ g + k = m ∧ OwnS wr w.heap.size x (toldL ns vs k) ∧ Below w.heap.size w wr)
  case atStart => exact ⟨0, rfl, by omega, World.ownsRow_nil _ _ _ _, Below.refl _ _⟩
  case round =>
    obtain ⟨k, rfl, hgk, hO, hbr⟩ := hrel
    obtain ⟨xa, xc, rfl⟩ := hO.form
    cases gk with
    | zero =>
      have hkk : ¬ ((k : Int) < (m : Int)) := by omega
      obtain ⟨htold, hlen, hm, hel⟩ := HT.out
      have hke : k = (ns.zip vs).length := by omega
      have hl1 := hlen k (by omega)
      have ht1 := htold k
      by_cases h0 : (toldL ns vs k).length = 0
      · have ha : ansL ns vs = [121, 101, 115] := by unfold ansL; rw [← hke, if_pos h0]
        have h0' : ((toldL ns vs k).length : Int) = 0 := by omega
        have HA := Lib.hid ha
        clear ha htold hlen ht1 hel hke hm
        go_wp2_with fail
        go_ret
        rw [HA.out]
        exact ⟨rfl, hbr⟩
      · have ha : ansL ns vs = Lib.join ((toldL ns vs k).map (·.data.toList)) [44, 32] := by unfold ansL; rw [← hke, if_neg h0]
        have h0' : (((toldL ns vs k).length : Int) == 0) = false := by rw [beq_eq_false_iff_ne]; omega
        obtain ⟨hol, ⟨-, h1⟩ | ⟨g, cap, cur, hgv, hg, hh, h4, h5, h6, h7⟩⟩ := id hO
        · exact absurd h1 h0
        · injection hgv with e1 e2 e3
          subst e1 e3
          have hjl := join_len (c := 50000000) [44, 32] ((toldL ns vs k).map (·.data.toList)) (fun x hx => by
            obtain ⟨y, hy, rfl⟩ := List.mem_map.1 hx
            exact ht1 y hy)
          have hj := Tryz.strings_Join g 0 xc (toldL ns vs k) (ByteArray.mk #[44, 32]) wr (fun j x hx => by
            have hjl : j < (toldL ns vs k).length := (List.getElem?_eq_some_iff.1 hx).1
            rw [Nat.zero_add, Lib.cell_of_heap hh]
            have e : cur.toList[j]? = ((toldL ns vs k).map Value.string)[j]? := by
              rw [← h7, List.getElem?_take_of_lt (by omega)]
            rw [List.getElem?_map, hx] at e
            simpa using e) ((Array.getElem?_eq_some_iff.1 hh).1) (by omega) h4 (by
              have : (ByteArray.mk #[44, 32]).data.toList = [44, 32] := rfl
              rw [this]
              simp only [List.length_map, List.length_cons, List.length_nil] at hjl
              have : (50000000 + (0 + 1 + 1)) * (toldL ns vs k).length ≤ 50000002 * 1000 := Nat.mul_le_mul (by omega) hl1
              omega)
          have HA := Lib.hid ha
          have HJ := Lib.hid hj
          clear ha htold hlen ht1 hel hj hjl hol h7 hO hke hm h0
          go_wp2_with (first | (go_at_call 32; (with_reducible refine HJ.out.mono ?_); rintro e W2 ⟨rfl, hb2⟩))
          go_ret
          rw [HA.out]
          exact ⟨rfl, bel hbr hb2⟩
    | succ q =>
      have hkk : ((k : Int) < (m : Int)) := by omega
      obtain ⟨htold, hlen, hm, hel⟩ := HT.out
      have hm2 := HM.out
      have hk1 : k < ns.length := by omega
      have hk2 : k < vs.length := by omega
      have hk3 : (k : Int) < (vs.length : Int) := by omega
      have hl1 := hlen k (by omega)
      have hz : (ns.zip vs)[k]? = some (ns[k], vs[k]) := by
        rw [List.getElem?_eq_getElem (by rw [List.length_zip]; omega), List.getElem_zip]
      have hsu := toldL_succ hz
      obtain ⟨g, o, hga, hgl, hgc⟩ := (hns.below hbr) k ns[k] (List.getElem?_eq_getElem hk1)
      subst hga
      obtain ⟨a1', cap1', hvv, -, -, -, hel2⟩ := hTs.below hbr
      injection hvv with hv1 hv2 hv3
      subst hv1 hv3
      obtain ⟨b, o2, k1, n1, s1, a2, l2, c2, he, hbl, q0, q1, q2, q3, hTm⟩ := hel2 k hk2
      subst he
      have hvk := hv _ (List.getElem_mem hk2)
      have hnk := hn _ (List.getElem_mem hk1)
      have htx := text_at vs[k] _ wr hTm (hT.later hbr) hvk.1 hvk.2
      have htb := txt_bound hTm hvk
      have hts : (strV vs[k].txt).size = vs[k].txt.length := strV_size _
      have hpf := fun W => Tryz.strings_HasPrefix ns[k] (ByteArray.mk #[95]) W
      generalize hnm : ns[k] = nm at *
      generalize htt : vs[k] = t at *
      have HS := Lib.hid hsu
      have HTX := Lib.hid htx
      cases hpx : Lib.hasPrefix nm.data.toList [95] with
      | true =>
        have hpf' : ∀ W, Calls Tryz.prog 31 #[.string nm, .string (ByteArray.mk #[95])] W fun e w' => e = .returned (.bool true) ∧ w' = W := fun W => by
          have := hpf W
          rwa [show (ByteArray.mk #[95]).data.toList = [95] from rfl, hpx] at this
        have hto : tellO (nm, t) = none := by unfold tellO; rw [if_pos hpx]
        have HTO := Lib.hid hto
        clear hto hpf hsu htx hpx htold hlen hel hel2 hm2 hm
        go_wp2_with (first | (go_at_call 31; refine (hpf' _).mono ?_; rintro e W2 ⟨rfl, rfl⟩))
        go_roundg q
        case measure => omega
        case rel => exact ⟨k + 1, by simp, by omega, by rw [HS.out, HTO.out]; simpa using hO, hbr⟩
      | false =>
        have hpf' : ∀ W, Calls Tryz.prog 31 #[.string nm, .string (ByteArray.mk #[95])] W fun e w' => e = .returned (.bool false) ∧ w' = W := fun W => by
          have := hpf W
          rwa [show (ByteArray.mk #[95]).data.toList = [95] from rfl, hpx] at this
        have hto : tellO (nm, t) = some (nm ++ ByteArray.mk #[32, 61, 32] ++ strV t.txt) := by unfold tellO; rw [if_neg (by rw [hpx]; decide)]
        have HTO := Lib.hid hto
        clear hto hpf hsu htx hpx htold hlen hel hel2 hm2 hm
        go_wp2_with (first
          | (go_at_call 31; refine (hpf' _).mono ?_; rintro e W2 ⟨rfl, rfl⟩)
          | (go_at_call 9; (with_reducible refine HTX.out.mono ?_); rintro e W3 ⟨rfl, hb3⟩)
          | (at_builtin; refine wpList_append_s rfl _ _ rfl w.heap.size (.slice xa (toldL ns vs k).length xc) (toldL ns vs k) rfl (owns_below (owns_below hO hb3) (bel_al (Below.refl _ _) _)) W3.heap.size _ rfl (by rw [Lib.cell_of_heap (alloc_new _ _)]; rfl) (by omega) (by have := hbr.size; have := hb3.size; simp; omega) ?_; intro v' W4 hO4 hg4; have hb4 := (bel_al (bel hbr hb3) _).grown hg4 (by have := hbr.size; have := hb3.size; simp; omega) (fun k' hk' => (World.ownsRow.lt hO k' hk').1)))
        go_roundg q
        case measure => omega
        case rel => exact ⟨k + 1, by simp, by omega, by rw [HS.out, HTO.out]; exact hO4, hb4⟩
end Go.Proofs.YtfencolokfghfaaGreatDoor
namespace Go.Proofs.YtfencolokfghfaaGreatDoor
open Go.Shelf Go.RowKit Go.Sort
set_option linter.unusedVariables false

theorem itoa1 : Lib.itoa 1 = [49] := by
  have := Lib.itoa_nonneg 1
  rw [Lib.decDigits_one (by decide)] at this
  exact this
theorem itoa3 : Lib.itoa (-3) = [45, 51] := by
  have := Lib.itoa_neg 3 (by decide)
  rw [Lib.decDigits_one (by decide)] at this
  exact this
def exW : Tm := .mk 3 0 (strV [102]) [.mk 1 1 (ByteArray.mk #[]) [], .mk 3 0 (strV [65]) []]
theorem exW_txt : exW.txt = [102, 40, 95, 49, 44, 39, 65, 39, 41] := by
  unfold exW
  simp only [Tm.txt_mk, Tm.txtc_cons, Tm.txtc_nil, itoa1, strV_list]
  decide
theorem exA_ans : ansL [ByteArray.mk #[88], ByteArray.mk #[95, 121]] [.mk 2 (-3) (ByteArray.mk #[]) [], .mk 2 4 (ByteArray.mk #[]) []] = [88, 32, 61, 32, 45, 51] := by
  have h1 : toldL [ByteArray.mk #[88], ByteArray.mk #[95, 121]] [.mk 2 (-3) (ByteArray.mk #[]) [], .mk 2 4 (ByteArray.mk #[]) []] 2 = [ByteArray.mk #[88] ++ ByteArray.mk #[32, 61, 32] ++ strV (Lib.itoa (-3))] := by
    have e1 : (Tm.mk 2 (-3) (ByteArray.mk #[]) []).txt = Lib.itoa (-3) := by rw [Tm.txt_mk]; rfl
    have e2 : tellO (ByteArray.mk #[88], .mk 2 (-3) (ByteArray.mk #[]) []) = some (ByteArray.mk #[88] ++ ByteArray.mk #[32, 61, 32] ++ strV (Lib.itoa (-3))) := by
      unfold tellO
      rw [if_neg (by decide), e1]
    have e3 : tellO (ByteArray.mk #[95, 121], .mk 2 4 (ByteArray.mk #[]) []) = none := by
      unfold tellO
      rw [if_pos (by decide)]
    unfold toldL
    simp [e2, e3]
  unfold ansL
  rw [show (List.zip [ByteArray.mk #[88], ByteArray.mk #[95, 121]] [Tm.mk 2 (-3) (ByteArray.mk #[]) [], Tm.mk 2 4 (ByteArray.mk #[]) []]).length = 2 from rfl, h1, itoa3]
  decide
theorem ans_nil : ansL [] [] = [121, 101, 115] := rfl
theorem hasNew8 {w w' : World} {v : Value} {T : Tm} (h : TmIn (fun b => w.heap.size ≤ b ∧ b < w'.heap.size) w' v T) : Has w' v T := h.carry (fun _ _ => rfl) (fun b hb => hb.2)
theorem NewTm.form8 {w w' : World} {T : Tm} {e : Ending} (h : NewTm w T e w') : ∃ k n s a l cp, e = .returned (.agg #[.int .i64 k, .int .i64 n, .string s, .slice a l cp]) ∧ Has w' (.agg #[.int .i64 k, .int .i64 n, .string s, .slice a l cp]) T ∧ Below w.heap.size w w' := by
  obtain ⟨r, rfl, hr, hb⟩ := h
  obtain ⟨k, n, s, a, len, cap, ks, rfl, -⟩ := hr.form
  exact ⟨k, n, s, a, len, cap, rfl, hasNew8 hr, hb⟩
theorem two_ts8 {q : Nat → Prop} {Z : World} {g : Nat} {k n : Int} {s : ByteArray} {a : Option Addr} {l c : Nat} {k' n' : Int} {s' : ByteArray} {a' : Option Addr} {l' c' : Nat} {x y : Tm} (hx : Z.heap[g]? = some (.cells #[.int .i64 k, .int .i64 n, .string s, .slice a l c, .int .i64 k', .int .i64 n', .string s', .slice a' l' c'] 24 (0, 0))) (hq : q g)
    (ht : TmIn q Z (.agg #[.int .i64 k, .int .i64 n, .string s, .slice a l c]) x) (ht' : TmIn q Z (.agg #[.int .i64 k', .int .i64 n', .string s', .slice a' l' c']) y) : TsIn q Z (.slice (some ⟨g, 0, none⟩) 2 2) [x, y] := by
  refine ⟨some ⟨g, 0, none⟩, 2, rfl, Nat.le_refl _, by unfold maxLen; omega, (fun e => by cases e), fun i hi => ?_⟩
  have e : i = 0 ∨ i = 1 := by simp at hi; omega
  rcases e with rfl | rfl
  · exact ⟨g, 0, k, n, s, a, l, c, rfl, hq, by simp [World.cell?, hx], by simp [World.cell?, hx], by simp [World.cell?, hx], by simp [World.cell?, hx], ht⟩
  · exact ⟨g, 0, k', n', s', a', l', c', rfl, hq, by simp [World.cell?, hx], by simp [World.cell?, hx], by simp [World.cell?, hx], by simp [World.cell?, hx], ht'⟩
theorem two8 {w : World} {k n : Int} {s : ByteArray} {a : Option Addr} {l c : Nat} {k' n' : Int} {s' : ByteArray} {a' : Option Addr} {l' c' : Nat} {x y : Tm} (hx : Has w (.agg #[.int .i64 k, .int .i64 n, .string s, .slice a l c]) x) (hy : Has w (.agg #[.int .i64 k', .int .i64 n', .string s', .slice a' l' c']) y) :
    HasTs (w.alloc (.cells #[.int .i64 k, .int .i64 n, .string s, .slice a l c, .int .i64 k', .int .i64 n', .string s', .slice a' l' c'] 24)) (.slice (some ⟨w.heap.size, 0, none⟩) 2 2) [x, y] := by
  have hb := bel_al (Below.refl w.heap.size w) (.cells #[.int .i64 k, .int .i64 n, .string s, .slice a l c, .int .i64 k', .int .i64 n', .string s', .slice a' l' c'] 24)
  exact two_ts8 (alloc_new _ _) (by simp) (hx.below hb) (hy.below hb)
theorem nil_ts (w : World) : HasTs w (.slice none 0 0) [] := ⟨none, 0, rfl, Nat.le_refl _, by unfold maxLen; omega, fun _ => rfl, fun i hi => by simp at hi⟩
theorem ans_none (w : World) (hT : TabP w) : Calls Tryz.prog 17 #[.slice none 0 0, .slice none 0 0] w fun e w' => e = .returned (.string (ByteArray.mk #[121, 101, 115])) ∧ Below w.heap.size w w' :=
  answer_at [] [] none 0 none 0 w (fun i s h => by simp at h) (Nat.le_refl _) (by unfold maxLen; omega) (fun _ => rfl) (nil_ts w) hT (fun t h => by cases h) (by simp) (by simp) (fun s h => by cases h)
theorem str_two {W : World} {g : Nat} {x y : ByteArray} (h : W.heap[g]? = some (.cells #[.string x, .string y] 9 (0, 0))) : StrIn W (some ⟨g, 0, none⟩) [x, y] := fun i s hs => by
  have hlt := (Array.getElem?_eq_some_iff.1 h).1
  have e : i = 0 ∨ i = 1 := by have := (List.getElem?_eq_some_iff.1 hs).1; simp at this; omega
  refine ⟨g, 0, rfl, hlt, ?_⟩
  rw [Lib.cell_of_heap h]
  rcases e with rfl | rfl
  · simp at hs; subst hs; rfl
  · simp at hs; subst hs; rfl
theorem ans_two (W4 W5 W6 : World) {k5 m5 : Int} {s5 : ByteArray} {a5 : Option Addr} {l5 c5 : Nat} {k6 m6 : Int} {s6 : ByteArray} {a6 : Option Addr} {l6 c6 : Nat}
    (hb5 : Below (W4.alloc (.cells #[.string (ByteArray.mk #[88]), .string (ByteArray.mk #[95, 121])] 9)).heap.size (W4.alloc (.cells #[.string (ByteArray.mk #[88]), .string (ByteArray.mk #[95, 121])] 9)) W5) (hb6 : Below W5.heap.size W5 W6)
    (hT5 : Has W5 (.agg #[.int .i64 k5, .int .i64 m5, .string s5, .slice a5 l5 c5]) (.mk 2 (-3) (ByteArray.mk #[]) [])) (hT6 : Has W6 (.agg #[.int .i64 k6, .int .i64 m6, .string s6, .slice a6 l6 c6]) (.mk 2 4 (ByteArray.mk #[]) []))
    (hT : TabP (W6.alloc (.cells #[.int .i64 k5, .int .i64 m5, .string s5, .slice a5 l5 c5, .int .i64 k6, .int .i64 m6, .string s6, .slice a6 l6 c6] 24))) :
    Calls Tryz.prog 17 #[.slice (some ⟨W4.heap.size, 0, none⟩) 2 2, .slice (some ⟨W6.heap.size, 0, none⟩) 2 2] (W6.alloc (.cells #[.int .i64 k5, .int .i64 m5, .string s5, .slice a5 l5 c5, .int .i64 k6, .int .i64 m6, .string s6, .slice a6 l6 c6] 24)) fun e w' => e = .returned (.string (ByteArray.mk #[88, 32, 61, 32, 45, 51])) ∧ Below (W6.alloc (.cells #[.int .i64 k5, .int .i64 m5, .string s5, .slice a5 l5 c5, .int .i64 k6, .int .i64 m6, .string s6, .slice a6 l6 c6] 24)).heap.size (W6.alloc (.cells #[.int .i64 k5, .int .i64 m5, .string s5, .slice a5 l5 c5, .int .i64 k6, .int .i64 m6, .string s6, .slice a6 l6 c6] 24)) w' := by
  have hx : (W6.alloc (.cells #[.int .i64 k5, .int .i64 m5, .string s5, .slice a5 l5 c5, .int .i64 k6, .int .i64 m6, .string s6, .slice a6 l6 c6] 24)).heap[W4.heap.size]? = some (.cells #[.string (ByteArray.mk #[88]), .string (ByteArray.mk #[95, 121])] 9 (0, 0)) :=
    (Below.block (bel_al (bel hb5 hb6) _) _ (by simp)).trans (alloc_new _ _)
  have h := answer_at [ByteArray.mk #[88], ByteArray.mk #[95, 121]] [.mk 2 (-3) (ByteArray.mk #[]) [], .mk 2 4 (ByteArray.mk #[]) []] (some ⟨W4.heap.size, 0, none⟩) 2 (some ⟨W6.heap.size, 0, none⟩) 2 _ (str_two hx) (by simp) (by unfold maxLen; omega) (fun e => by cases e) (two8 (hT5.below hb6) hT6) hT
    (fun t ht => by
      simp at ht
      rcases ht with rfl | rfl
      · exact ⟨by decide +kernel, by decide +kernel⟩
      · exact ⟨by decide +kernel, by decide +kernel⟩) (by simp) (by simp) (fun s hs => by
      simp at hs
      rcases hs with rfl | rfl
      · decide
      · decide)
  rw [exA_ans] at h
  exact h
set_option maxRecDepth 100000 in
set_option maxHeartbeats 4000000 in
theorem shown8_at (w : World) (hT : TabP w) : Calls Tryz.prog 4 #[] w (Gets w (.bool true)) := by
  have hn3 := fun W => num_at (-3) W ⟨by decide, by decide⟩
  have hn4 := fun W => num_at 4 W ⟨by decide, by decide⟩
  have hle := fun W => let_at 1 W ⟨by decide, by decide⟩
  have hat := fun W => atom_at (ByteArray.mk #[65]) W (by decide)
  have hz := zeroTerm
  go_enter Tryz.func4, Tryz.ntmps4
  go_wp2_with (first
    | (go_at_call 15; refine (hle _).mono ?_; rintro e W1 h4; obtain ⟨k1, m1, s1, a1, l1, c1, rfl, hT1, hb1⟩ := h4.form8)
    | (go_at_call 16; refine (hat _).mono ?_; rintro e W2 h4; obtain ⟨k2, m2, s2, a2, l2, c2, rfl, hT2, hb2⟩ := h4.form8; have hmk := make_at (ByteArray.mk #[102]) _ _ _ (by decide) (two8 (hT1.below hb2) hT2) (by simp only [Tm.sizes_cons, Tm.sizes_nil, Tm.size_mk]; decide))
    | (go_at_call 14; refine hmk.mono ?_; rintro e W3 h4; obtain ⟨k3, m3, s3, a3, l3, c3, rfl, hT3, hb3'⟩ := h4.form8; have hb3 : Below w.heap.size w W3 := bel (bel_al (bel hb1 hb2) _) hb3'; have htx := text_at exW _ W3 hT3 (hT.later hb3) (by decide +kernel) (by decide +kernel); rw [exW_txt] at htx; have htx' : Calls Tryz.prog 9 #[.agg #[.int .i64 k3, .int .i64 m3, .string s3, .slice a3 l3 c3]] W3 (fun e w' => e = .returned (.string (ByteArray.mk #[102, 40, 95, 49, 44, 39, 65, 39, 41])) ∧ Below W3.heap.size W3 w') := htx)
    | (go_at_call 9; refine htx'.mono ?_; rintro e W4 ⟨rfl, hb4'⟩; have hb4 := bel hb3 hb4')
    | (go_at_call 18; (with_reducible refine (hn3 _).mono ?_); rintro e W5 h4; obtain ⟨k5, m5, s5, a5, l5, c5, rfl, hT5, hb5'⟩ := h4.form8; have hb5 := bel (bel_al hb4 (.cells #[.string (ByteArray.mk #[88]), .string (ByteArray.mk #[95, 121])] 9)) hb5')
    | (go_at_call 18; (with_reducible refine (hn4 _).mono ?_); rintro e W6 h4; obtain ⟨k6, m6, s6, a6, l6, c6, rfl, hT6, hb6'⟩ := h4.form8; have hb6 := bel hb5 hb6'; have hans := ans_two W4 W5 W6 hb5' hb6' hT5 hT6 (hT.later (bel_al hb6 (.cells #[.int .i64 k5, .int .i64 m5, .string s5, .slice a5 l5 c5, .int .i64 k6, .int .i64 m6, .string s6, .slice a6 l6 c6] 24))))
    | (go_at_call 17; (with_reducible refine hans.mono ?_); rintro e W8 ⟨rfl, hb8'⟩; have hb8 := bel (bel_al hb6 _) hb8'; have hno := ans_none W8 (hT.later hb8))
    | (go_at_call 17; (with_reducible refine hno.mono ?_); rintro e W9 ⟨rfl, hb9⟩))
  go_ret
  exact ⟨rfl, bel hb8 hb9⟩
end Go.Proofs.YtfencolokfghfaaGreatDoor
namespace Go.Proofs.YtfencolokfghfaaGreatDoor
open Go.Shelf Go.RowKit Go.Sort
set_option linter.unusedVariables false

/-! ### What names' texts are like -/
theorem esc_no10 : ∀ (l : List UInt8), 10 ∉ escL l
  | [] => by simp [escL]
  | c :: l => by
    have := esc_no10 l
    rw [escL, List.mem_append]
    rintro (h | h)
    · unfold escB at h
      split at h
      · rename_i hc
        rcases hc with rfl | rfl <;> simp at h
      · split at h
        · simp at h
        · rename_i h1 h2
          simp at h
          exact h2 h.symm
    · exact this h
theorem pre_mem {p : UInt8 → Bool} : ∀ {l : List UInt8}, pre p l = l.length → ∀ c ∈ l, p c = true
  | [], _, c, h => by cases h
  | d :: l, e, c, h => by
    unfold pre at e
    split at e
    · rename_i hd
      rcases List.mem_cons.1 h with rfl | h
      · exact hd
      · exact pre_mem (by simpa using e) c h
    · simp at e
/-- A plain name: its bytes. -/
theorem plain_cases {l : List UInt8} (h : plainB l = true) : (l = [91, 93] ∨ l = [33] ∨ l = [59]) ∨ (l ≠ [] ∧ lowB (l.headD 0) = true ∧ ∀ c ∈ l, wordB c = true) ∨ (l ≠ [] ∧ ∀ c ∈ l, symB c = true) := by
  unfold plainB at h
  split at h
  · cases h
  · rename_i h0
    have hne : l ≠ [] := fun e => h0 (.inl e)
    split at h
    · rename_i h1; exact .inl h1
    · simp only [Bool.or_eq_true, Bool.and_eq_true, decide_eq_true_eq] at h
      rcases h with ⟨h1, h2⟩ | h2
      · exact .inr (.inl ⟨hne, h1, pre_mem h2⟩)
      · exact .inr (.inr ⟨hne, pre_mem h2⟩)
theorem plain_not {l : List UInt8} (h : plainB l = true) {c : UInt8} (hc : c = 10 ∨ c = 32 ∨ c = 39) : c ∉ l := by
  intro hm
  rcases plain_cases h with (rfl | rfl | rfl) | ⟨-, -, hw⟩ | ⟨-, hw⟩
  · rcases hc with rfl | rfl | rfl <;> simp at hm
  · rcases hc with rfl | rfl | rfl <;> simp at hm
  · rcases hc with rfl | rfl | rfl <;> simp at hm
  · have := hw c hm
    rcases hc with rfl | rfl | rfl <;> exact absurd this (by decide)
  · have := hw c hm
    rcases hc with rfl | rfl | rfl <;> exact absurd this (by decide)
theorem quote_no10 (l : List UInt8) : 10 ∉ quoteL l := by
  unfold quoteL
  split
  · rename_i h; exact plain_not h (.inl rfl)
  · have := esc_no10 l
    simp [this]
theorem quote_head {l : List UInt8} (h : 32 ∈ quoteL l) : (quoteL l)[0]? = some 39 := by
  unfold quoteL at h ⊢
  split at h
  · rename_i hp; exact absurd h (plain_not hp (.inr (.inl rfl)))
  · rename_i hp; rw [if_neg hp]; rfl
theorem escB_ne (c : UInt8) : ∃ d r, escB c = d :: r := by
  unfold escB
  split
  · exact ⟨_, _, rfl⟩
  · split <;> exact ⟨_, _, rfl⟩
theorem esc_inj : ∀ (l m : List UInt8), escL l = escL m → l = m
  | [], [], _ => rfl
  | [], d :: m, h => by obtain ⟨e, r, he⟩ := escB_ne d; rw [escL, escL, he] at h; simp at h
  | c :: l, [], h => by obtain ⟨e, r, he⟩ := escB_ne c; rw [escL, escL, he] at h; simp at h
  | c :: l, d :: m, h => by
    rw [escL, escL] at h
    have key : c = d ∧ escL l = escL m := by
      unfold escB at h
      by_cases c1 : c = 39 ∨ c = 92
      · rw [if_pos c1] at h
        by_cases d1 : d = 39 ∨ d = 92
        · rw [if_pos d1] at h
          simp at h
          exact h
        · rw [if_neg d1] at h
          by_cases d2 : d = 10
          · rw [if_pos d2] at h
            simp at h
            rcases c1 with rfl | rfl <;> simp at h
          · rw [if_neg d2] at h
            simp at h
            rw [h.1] at c1
            exact absurd c1 d1
      · rw [if_neg c1] at h
        by_cases d1 : d = 39 ∨ d = 92
        · rw [if_pos d1] at h
          by_cases c2 : c = 10
          · rw [if_pos c2] at h
            simp at h
            rcases d1 with rfl | rfl <;> simp at h
          · rw [if_neg c2] at h
            simp at h
            rw [← h.1] at d1
            exact absurd d1 c1
        · rw [if_neg d1] at h
          by_cases c2 : c = 10
          · rw [if_pos c2] at h
            by_cases d2 : d = 10
            · rw [if_pos d2] at h
              simp at h
              exact ⟨c2.trans d2.symm, h⟩
            · rw [if_neg d2] at h
              simp at h
              exact absurd (.inr h.1.symm) d1
          · rw [if_neg c2] at h
            by_cases d2 : d = 10
            · rw [if_pos d2] at h
              simp at h
              exact absurd (.inr h.1) c1
            · rw [if_neg d2] at h
              simp at h
              exact h
    rw [key.1, esc_inj l m key.2]
theorem quote_inj {l m : List UInt8} (h : quoteL l = quoteL m) : l = m := by
  unfold quoteL at h
  by_cases hl : plainB l = true
  · rw [if_pos hl] at h
    by_cases hm : plainB m = true
    · rw [if_pos hm] at h; exact h
    · rw [if_neg hm] at h
      exact absurd (by rw [h]; simp : (39 : UInt8) ∈ l) (plain_not hl (.inr (.inr rfl)))
  · rw [if_neg hl] at h
    by_cases hm : plainB m = true
    · rw [if_pos hm] at h
      exact absurd (by rw [← h]; simp : (39 : UInt8) ∈ m) (plain_not hm (.inr (.inr rfl)))
    · rw [if_neg hm] at h
      simp at h
      exact esc_inj l m h
theorem dec_dig (u : Nat) : ∀ c ∈ Lib.decDigits u, digB c = true := by
  intro c hc
  rw [Lib.decDigits_eq] at hc
  obtain ⟨t, -, rfl⟩ := List.mem_map.1 hc
  unfold Lib.dg
  simp only [digB, spanB, Bool.and_eq_true, decide_eq_true_eq]
  rw [UInt8.toNat_ofNat']
  omega
/-- A number's text has a figure, and begins with one, or with a hyphen. -/
theorem itoa_dig (n : Int) : (∃ c ∈ Lib.itoa n, digB c = true) ∧ ∃ c r, Lib.itoa n = c :: r ∧ (digB c = true ∨ c = 45) := by
  have hd : ∀ u, ∃ c r, Lib.decDigits u = c :: r ∧ digB c = true := fun u => by
    cases h : Lib.decDigits u with
    | nil => exact absurd h (dec_ne u)
    | cons c r => exact ⟨c, r, rfl, dec_dig u c (by rw [h]; simp)⟩
  unfold Lib.itoa
  split
  · obtain ⟨c, r, h1, h2⟩ := hd n.natAbs
    exact ⟨⟨c, by rw [h1]; simp, h2⟩, 45, _, rfl, .inr rfl⟩
  · obtain ⟨c, r, h1, h2⟩ := hd n.toNat
    exact ⟨⟨c, by rw [h1]; simp, h2⟩, c, r, h1, .inl h2⟩
theorem quote_num (l : List UInt8) (n : Int) : quoteL l ≠ Lib.itoa n := by
  intro h
  obtain ⟨⟨c, hc, hd⟩, d, r, he, hdr⟩ := itoa_dig n
  unfold quoteL at h
  split at h
  · rename_i hp
    rcases plain_cases hp with (rfl | rfl | rfl) | ⟨-, hlow, -⟩ | ⟨-, hw⟩
    · rw [he] at h; simp at h; rcases hdr with h1 | h1
      · rw [← h.1] at h1; exact absurd h1 (by decide)
      · rw [h1] at h; simp at h
    · rw [he] at h; simp at h; rcases hdr with h1 | h1
      · rw [← h.1] at h1; exact absurd h1 (by decide)
      · rw [h1] at h; simp at h
    · rw [he] at h; simp at h; rcases hdr with h1 | h1
      · rw [← h.1] at h1; exact absurd h1 (by decide)
      · rw [h1] at h; simp at h
    · rw [h, he] at hlow
      simp only [List.headD_cons] at hlow
      rcases hdr with h1 | h1
      · simp only [lowB, digB, spanB, Bool.and_eq_true, decide_eq_true_eq] at hlow h1; omega
      · rw [h1] at hlow; exact absurd hlow (by decide)
    · rw [← h] at hc
      have := hw c hc
      have h48 : 48 ≤ c.toNat ∧ c.toNat ≤ 57 := by simpa [digB, spanB] using hd
      unfold symB amongB at this
      simp at this
      rcases this with rfl | rfl | rfl | rfl | rfl | rfl | rfl | rfl | rfl | rfl | rfl | rfl | rfl | rfl | rfl | rfl | rfl <;> exact absurd h48 (by decide)
  · rw [he] at h
    simp at h
    rcases hdr with h1 | h1
    · rw [← h.1] at h1; exact absurd h1 (by decide)
    · rw [h1] at h; simp at h
theorem num_var (n : Int) : Lib.itoa n ≠ 95 :: Lib.itoa n := by
  intro h
  have := congrArg List.length h
  simp at this
theorem atom_txt (s : ByteArray) : (Tm.mk 3 0 s []).txt = quoteL s.data.toList := by rw [Tm.txt_mk]; rfl
theorem num_txt (n : Int) : (Tm.mk 2 n (ByteArray.mk #[]) []).txt = Lib.itoa n := by rw [Tm.txt_mk]; rfl
theorem let_txt (n : Int) : (Tm.mk 1 n (ByteArray.mk #[]) []).txt = 95 :: Lib.itoa n := by rw [Tm.txt_mk]; rfl
theorem str_ne {a b : List UInt8} (h : a ≠ b) : ((strV a).toList == (strV b).toList) = false := by
  rw [ByteArray.toList_eq, ByteArray.toList_eq]
  simp only [beq_eq_false_iff_ne, ne_eq]
  exact h
theorem one_byt (k n : Int) (s : ByteArray) : (Tm.mk k n s []).byt = s.size := by rw [Tm.byt_mk, Tm.byts_nil]; rfl
theorem one_size (k n : Int) (s : ByteArray) : (Tm.mk k n s []).size = 1 := by rw [Tm.size_mk, Tm.sizes_nil]
end Go.Proofs.YtfencolokfghfaaGreatDoor
namespace Go.Proofs.YtfencolokfghfaaGreatDoor
open Go.Shelf Go.RowKit Go.Sort
set_option linter.unusedVariables false

/-! ### Figures -/
theorem dec_step {u : Nat} (h : ¬ u < 10) : Lib.decDigits u = Lib.decDigits (u / 10) ++ [UInt8.ofNat (48 + u % 10)] := by rw [Lib.decDigits, dif_neg h]
theorem dig_inj {a b : Nat} (ha : a < 10) (hb : b < 10) (h : UInt8.ofNat (48 + a) = UInt8.ofNat (48 + b)) : a = b := by
  have := congrArg UInt8.toNat h
  rw [UInt8.toNat_ofNat', UInt8.toNat_ofNat'] at this
  omega
theorem dec_inj : ∀ (u v : Nat), Lib.decDigits u = Lib.decDigits v → u = v := by
  intro u
  induction u using Nat.strongRecOn with
  | ind u ih =>
    intro v h
    by_cases hu : u < 10
    · rw [Lib.decDigits_one hu] at h
      by_cases hv : v < 10
      · rw [Lib.decDigits_one hv] at h
        injection h with h
        exact dig_inj hu hv h
      · rw [dec_step hv] at h
        have := congrArg List.length h
        have h2 : 0 < (Lib.decDigits (v / 10)).length := List.length_pos_iff.2 (dec_ne _)
        simp only [List.length_append, List.length_cons, List.length_nil] at this
        omega
    · rw [dec_step hu] at h
      by_cases hv : v < 10
      · rw [Lib.decDigits_one hv] at h
        have := congrArg List.length h
        have h2 : 0 < (Lib.decDigits (u / 10)).length := List.length_pos_iff.2 (dec_ne _)
        simp only [List.length_append, List.length_cons, List.length_nil] at this
        omega
      · rw [dec_step hv] at h
        have h1 := List.append_inj' h rfl
        have e1 := ih (u / 10) (by omega) (v / 10) h1.1
        have e2 : UInt8.ofNat (48 + u % 10) = UInt8.ofNat (48 + v % 10) := by have := h1.2; injection this
        have := dig_inj (by omega) (by omega) e2
        omega
theorem itoa_inj {n m : Int} (h : Lib.itoa n = Lib.itoa m) : n = m := by
  have h45 : ∀ u r, Lib.decDigits u ≠ 45 :: r := fun u r e => by
    have := dec_dig u 45 (by rw [e]; simp)
    exact absurd this (by decide)
  unfold Lib.itoa at h
  split at h
  · split at h
    · injection h with _ h
      have := dec_inj _ _ h
      omega
    · exact absurd h.symm (h45 _ _)
  · split at h
    · exact absurd h (h45 _ _)
    · have := dec_inj _ _ h
      omega
/-! ### Tokens -/
def stop8 (c : UInt8) : Bool := c == 40 || (c == 41 || c == 44)
/-- What may stand behind a token. -/
def behind8 (x : List UInt8) : Prop := x = [] ∨ ∃ c r, x = c :: r ∧ stop8 c = true
/-- A token without marks. -/
def Simple (a : List UInt8) : Prop := a ≠ [] ∧ ∀ c ∈ a, stop8 c = false ∧ c ≠ 39
theorem simple_take : ∀ {a x : List UInt8}, (∀ c ∈ a, stop8 c = false) → behind8 x → (a ++ x).takeWhile (fun c => !stop8 c) = a
  | [], x, _, hx => by
    rcases hx with rfl | ⟨c, r, rfl, hc⟩
    · rfl
    · simp [hc]
  | c :: a, x, h, hx => by
    have h1 := h c (by simp)
    have ih := simple_take (a := a) (fun d hd => h d (by simp [hd])) hx
    simp [h1, ih]
theorem simple_two {a b x y : List UInt8} (ha : Simple a) (hb : Simple b) (hx : behind8 x) (hy : behind8 y) (h : a ++ x = b ++ y) : a = b ∧ x = y := by
  have h1 := simple_take (fun c hc => (ha.2 c hc).1) hx
  have h2 := simple_take (fun c hc => (hb.2 c hc).1) hy
  have e : a = b := by rw [← h1, ← h2, h]
  subst e
  exact ⟨rfl, List.append_cancel_left h⟩
theorem esc_two : ∀ (l m x y : List UInt8), behind8 x → behind8 y → escL l ++ 39 :: x = escL m ++ 39 :: y → l = m ∧ x = y
  | [], [], x, y, _, _, h => by simp [escL] at h; exact ⟨rfl, h⟩
  | [], d :: m, x, y, hx, hy, h => by
    exfalso
    rw [escL, escL] at h
    unfold escB at h
    have h39 : x.head? ≠ some 39 := by
      rcases hx with rfl | ⟨c, r, rfl, hc⟩
      · simp
      · intro e; simp at e; subst e; exact absurd hc (by decide)
    split at h
    · rename_i hd
      rcases hd with rfl | rfl
      · simp at h; rw [h] at h39; simp at h39
      · simp at h
    · split at h
      · simp at h
      · rename_i h1 h2
        simp at h
        exact h1 (.inl h.1.symm)
  | c :: l, [], x, y, hx, hy, h => by
    exfalso
    rw [escL, escL] at h
    unfold escB at h
    have h39 : y.head? ≠ some 39 := by
      rcases hy with rfl | ⟨c, r, rfl, hc⟩
      · simp
      · intro e; simp at e; subst e; exact absurd hc (by decide)
    split at h
    · rename_i hd
      rcases hd with rfl | rfl
      · simp at h; rw [← h] at h39; simp at h39
      · simp at h
    · split at h
      · simp at h
      · rename_i h1 h2
        simp at h
        exact h1 (.inl h.1)
  | c :: l, d :: m, x, y, hx, hy, h => by
    rw [escL, escL, List.append_assoc, List.append_assoc] at h
    have key : c = d ∧ escL l ++ 39 :: x = escL m ++ 39 :: y := by
      unfold escB at h
      by_cases c1 : c = 39 ∨ c = 92
      · rw [if_pos c1] at h
        by_cases d1 : d = 39 ∨ d = 92
        · rw [if_pos d1] at h
          simp at h
          exact h
        · rw [if_neg d1] at h
          by_cases d2 : d = 10
          · rw [if_pos d2] at h
            simp at h
            rcases c1 with rfl | rfl <;> simp at h
          · rw [if_neg d2] at h
            simp at h
            rw [h.1] at c1
            exact absurd c1 d1
      · rw [if_neg c1] at h
        by_cases d1 : d = 39 ∨ d = 92
        · rw [if_pos d1] at h
          by_cases c2 : c = 10
          · rw [if_pos c2] at h
            simp at h
            rcases d1 with rfl | rfl <;> simp at h
          · rw [if_neg c2] at h
            simp at h
            rw [← h.1] at d1
            exact absurd d1 c1
        · rw [if_neg d1] at h
          by_cases c2 : c = 10
          · rw [if_pos c2] at h
            by_cases d2 : d = 10
            · rw [if_pos d2] at h
              simp at h
              exact ⟨c2.trans d2.symm, h⟩
            · rw [if_neg d2] at h
              simp at h
              exact absurd (.inr h.1.symm) d1
          · rw [if_neg c2] at h
            by_cases d2 : d = 10
            · rw [if_pos d2] at h
              simp at h
              exact absurd (.inr h.1) c1
            · rw [if_neg d2] at h
              simp at h
              exact h
    have ih := esc_two l m x y hx hy key.2
    exact ⟨by rw [key.1, ih.1], ih.2⟩
/-- A token: without marks, or within. -/
def TokL (a : List UInt8) : Prop := Simple a ∨ ∃ l, a = 39 :: (escL l ++ [39])
theorem tok_two {a b x y : List UInt8} (ha : TokL a) (hb : TokL b) (hx : behind8 x) (hy : behind8 y) (h : a ++ x = b ++ y) : a = b ∧ x = y := by
  rcases ha with ha | ⟨l, rfl⟩
  · rcases hb with hb | ⟨m, rfl⟩
    · exact simple_two ha hb hx hy h
    · exfalso
      obtain ⟨c, r, rfl⟩ := List.exists_cons_of_ne_nil ha.1
      simp at h
      exact (ha.2 c (by simp)).2 h.1
  · rcases hb with hb | ⟨m, rfl⟩
    · exfalso
      obtain ⟨c, r, rfl⟩ := List.exists_cons_of_ne_nil hb.1
      simp at h
      exact (hb.2 c (by simp)).2 h.1.symm
    · simp at h
      obtain ⟨e1, e2⟩ := esc_two l m x y hx hy h
      rw [e1]
      exact ⟨rfl, e2⟩
theorem itoa_chars (n : Int) : ∀ c ∈ Lib.itoa n, digB c = true ∨ c = 45 := by
  intro c hc
  unfold Lib.itoa at hc
  split at hc
  · rcases List.mem_cons.1 hc with rfl | hc
    · exact .inr rfl
    · exact .inl (dec_dig _ c hc)
  · exact .inl (dec_dig _ c hc)
theorem dig_stop {c : UInt8} (h : digB c = true ∨ c = 45) : stop8 c = false ∧ c ≠ 39 := by
  rcases h with h | rfl
  · have h48 : 48 ≤ c.toNat ∧ c.toNat ≤ 57 := by simpa [digB, spanB] using h
    refine ⟨?_, fun e => by subst e; exact absurd h48 (by decide)⟩
    unfold stop8
    simp only [Bool.or_eq_false_iff, beq_eq_false_iff_ne, ne_eq]
    exact ⟨fun e => by subst e; exact absurd h48 (by decide), fun e => by subst e; exact absurd h48 (by decide), fun e => by subst e; exact absurd h48 (by decide)⟩
  · decide
theorem tok_int (n : Int) : Simple (Lib.itoa n) := ⟨itoa_ne n, fun c hc => dig_stop (itoa_chars n c hc)⟩
theorem tok_var (n : Int) : Simple (95 :: Lib.itoa n) := ⟨by simp, fun c hc => by
  rcases List.mem_cons.1 hc with rfl | hc
  · decide
  · exact dig_stop (itoa_chars n c hc)⟩
theorem word_stop (c : UInt8) (h : wordB c = true ∨ symB c = true) : stop8 c = false ∧ c ≠ 39 := by
  constructor
  · cases hs : stop8 c with
    | false => rfl
    | true =>
      exfalso
      unfold stop8 at hs
      simp at hs
      rcases hs with rfl | rfl | rfl <;> (rcases h with h | h <;> exact absurd h (by decide))
  · rintro rfl
    rcases h with h | h <;> exact absurd h (by decide)
theorem tok_quote (l : List UInt8) : TokL (quoteL l) := by
  unfold quoteL
  split
  · rename_i h
    refine .inl ?_
    rcases plain_cases h with (rfl | rfl | rfl) | ⟨h0, -, hw⟩ | ⟨h0, hw⟩
    · exact ⟨by simp, by decide⟩
    · exact ⟨by simp, by decide⟩
    · exact ⟨by simp, by decide⟩
    · exact ⟨h0, fun c hc => word_stop c (.inl (hw c hc))⟩
    · exact ⟨h0, fun c hc => word_stop c (.inr (hw c hc))⟩
  · exact .inr ⟨l, by simp⟩
theorem tok_fn (l : List UInt8) : TokL (fnL l) := by
  unfold fnL
  split
  · exact .inr ⟨[91, 93], by decide⟩
  · exact tok_quote l
theorem fn_inj {l m : List UInt8} (h : fnL l = fnL m) : l = m := by
  unfold fnL at h
  have key : ∀ l, l ≠ [91, 93] → quoteL l ≠ [39, 91, 93, 39] := by
    intro l hl e
    unfold quoteL at e
    split at e
    · rename_i hp
      exact absurd (by rw [e]; simp : (39 : UInt8) ∈ l) (plain_not hp (.inr (.inr rfl)))
    · have e2 : escL l = escL [91, 93] := by
        have : (39 :: escL l ++ [39] : List UInt8) = 39 :: escL [91, 93] ++ [39] := by rw [e]; decide
        simp at this
        exact this
      exact hl (esc_inj _ _ e2)
  split at h
  · split at h
    · rename_i h1 h2; rw [h1, h2]
    · rename_i h1 h2; exact absurd h.symm (key m h2)
  · split at h
    · rename_i h1 h2; exact absurd h (key l h1)
    · exact quote_inj h
/-! ### Terms -/
mutual
/-- As its kind asks, and no Fun @ of two, all through. -/
def Tm.okw : Tm → Bool
  | .mk k n s ks => ((decide (k = 1) && decide (s.data.toList = []) && decide (ks.length = 0)) || (decide (k = 2) && decide (s.data.toList = []) && decide (ks.length = 0)) || (decide (k = 3) && decide (n = 0) && !(decide (s.data.toList = [64]) && decide (ks.length = 2))) || (decide (k = 4) && decide (s.data.toList = []) && decide (ks.length = 1))) && Tm.okws ks
def Tm.okws : List Tm → Bool
  | [] => true
  | t :: ts => t.okw && Tm.okws ts
end
theorem Tm.okws_mem : ∀ {ks : List Tm}, Tm.okws ks = true → ∀ t ∈ ks, t.okw = true
  | u :: us, h, t, ht => by
    rw [Tm.okws, Bool.and_eq_true] at h
    rcases List.mem_cons.1 ht with rfl | ht
    · exact h.1
    · exact Tm.okws_mem h.2 t ht
/-- The kinds that a term may have, with their parts. -/
theorem Tm.okw_cases {k n : Int} {s : ByteArray} {ks : List Tm} (h : (Tm.mk k n s ks).okw = true) : Tm.okws ks = true ∧
    ((k = 1 ∧ s = ByteArray.mk #[] ∧ ks = []) ∨ (k = 2 ∧ s = ByteArray.mk #[] ∧ ks = []) ∨ (k = 3 ∧ n = 0 ∧ ¬ (s.data.toList = [64] ∧ ks.length = 2)) ∨ (k = 4 ∧ s = ByteArray.mk #[] ∧ ∃ t, ks = [t])) := by
  rw [Tm.okw] at h
  simp only [Bool.and_eq_true, Bool.or_eq_true, decide_eq_true_eq, Bool.not_eq_true', Bool.and_eq_false_iff, decide_eq_false_iff_not] at h
  obtain ⟨h, hks⟩ := h
  refine ⟨hks, ?_⟩
  rcases h with ((⟨⟨h1, h2⟩, h3⟩ | ⟨⟨h1, h2⟩, h3⟩) | ⟨⟨h1, h2⟩, h3⟩) | ⟨⟨h1, h2⟩, h3⟩
  · exact .inl ⟨h1, str_ext h2, List.eq_nil_of_length_eq_zero h3⟩
  · exact .inr (.inl ⟨h1, str_ext h2, List.eq_nil_of_length_eq_zero h3⟩)
  · exact .inr (.inr (.inl ⟨h1, h2, fun e => h3.elim (fun h => h e.1) (fun h => h e.2)⟩))
  · refine .inr (.inr (.inr ⟨h1, str_ext h2, ?_⟩))
    match ks, h3 with
    | [t], _ => exact ⟨t, rfl⟩
/-- What may stand behind a term. -/
def end8 (r : List UInt8) : Prop := r = [] ∨ ∃ c x, r = c :: x ∧ (c = 41 ∨ c = 44)
theorem end8.behind {r : List UInt8} (h : end8 r) : behind8 r := by
  rcases h with rfl | ⟨c, x, rfl, hc⟩
  · exact .inl rfl
  · exact .inr ⟨c, x, rfl, by rcases hc with rfl | rfl <;> decide⟩
/-- A term's first token, and what stands behind it. -/
def hd8 : Tm → List UInt8
  | .mk k n s ks => if k = 1 then 95 :: Lib.itoa n else if k = 2 then Lib.itoa n else if k = 3 then (if ks.length = 0 then quoteL s.data.toList else fnL s.data.toList) else [64]
def tl8 : Tm → List UInt8
  | .mk k n s ks => if k = 1 then [] else if k = 2 then [] else if k = 3 then (if ks.length = 0 then [] else 40 :: ((Tm.txtc ks).tail ++ [41])) else 40 :: ((Tm.txtc ks).tail ++ (44 :: (Lib.itoa n ++ [41])))
theorem hd8_mk (k n : Int) (s : ByteArray) (ks : List Tm) : hd8 (.mk k n s ks) = if k = 1 then 95 :: Lib.itoa n else if k = 2 then Lib.itoa n else if k = 3 then (if ks.length = 0 then quoteL s.data.toList else fnL s.data.toList) else [64] := rfl
theorem tl8_mk (k n : Int) (s : ByteArray) (ks : List Tm) : tl8 (.mk k n s ks) = if k = 1 then [] else if k = 2 then [] else if k = 3 then (if ks.length = 0 then [] else 40 :: ((Tm.txtc ks).tail ++ [41])) else 40 :: ((Tm.txtc ks).tail ++ (44 :: (Lib.itoa n ++ [41]))) := rfl
theorem txt_split {T : Tm} (h : T.okw = true) : T.txt = hd8 T ++ tl8 T := by
  obtain ⟨k, n, s, ks⟩ := T
  obtain ⟨-, ⟨rfl, rfl, rfl⟩ | ⟨rfl, rfl, rfl⟩ | ⟨rfl, rfl, -⟩ | ⟨rfl, rfl, t, rfl⟩⟩ := Tm.okw_cases h
  · rw [Tm.txt_mk]; simp [hd8, tl8]
  · rw [Tm.txt_mk]; simp [hd8, tl8]
  · rw [Tm.txt_mk]
    by_cases h0 : ks.length = 0
    · simp [hd8, tl8, h0]
    · simp [hd8, tl8, h0]
  · rw [Tm.txt_mk]; simp [hd8, tl8]
theorem hd_tok {T : Tm} (h : T.okw = true) : TokL (hd8 T) := by
  obtain ⟨k, n, s, ks⟩ := T
  obtain ⟨-, ⟨rfl, rfl, rfl⟩ | ⟨rfl, rfl, rfl⟩ | ⟨rfl, rfl, -⟩ | ⟨rfl, rfl, t, rfl⟩⟩ := Tm.okw_cases h
  · exact .inl (tok_var n)
  · exact .inl (tok_int n)
  · rw [hd8_mk, if_neg (by decide), if_neg (by decide), if_pos rfl]
    split
    · exact tok_quote _
    · exact tok_fn _
  · exact .inl (show Simple [64] from ⟨by simp, fun c hc => by simp at hc; subst hc; decide⟩)
theorem tl_behind (T : Tm) {r : List UInt8} (hr : end8 r) : behind8 (tl8 T ++ r) := by
  obtain ⟨k, n, s, ks⟩ := T
  rw [tl8_mk]
  split
  · exact hr.behind
  · split
    · exact hr.behind
    · split
      · split
        · exact hr.behind
        · exact .inr ⟨40, _, rfl, by decide⟩
      · exact .inr ⟨40, _, rfl, by decide⟩
/-- What a first token may begin with. -/
theorem quote_first (l : List UInt8) : ∃ c r, quoteL l = c :: r ∧ c ≠ 95 := by
  cases h : quoteL l with
  | nil => exact absurd h (quoteL_ne l)
  | cons c r =>
    refine ⟨c, r, rfl, ?_⟩
    rintro rfl
    unfold quoteL at h
    split at h
    · rename_i hp
      rcases plain_cases hp with (rfl | rfl | rfl) | ⟨-, hl, -⟩ | ⟨-, hw⟩
      · simp at h
      · simp at h
      · simp at h
      · rw [h] at hl; exact absurd (show lowB 95 = true from hl) (by decide)
      · have := hw 95 (by rw [h]; simp); exact absurd this (by decide)
    · simp at h
theorem fn_first (l : List UInt8) : ∃ c r, fnL l = c :: r ∧ c ≠ 95 := by
  unfold fnL
  split
  · exact ⟨39, _, rfl, by decide⟩
  · exact quote_first l
theorem fn_num (l : List UInt8) (n : Int) : fnL l ≠ Lib.itoa n := by
  unfold fnL
  split
  · intro h
    have := itoa_chars n 39 (by rw [← h]; simp)
    rcases this with h | h
    · exact absurd h (by decide)
    · exact absurd h (by decide)
  · exact quote_num l n
theorem var_num (n m : Int) : 95 :: Lib.itoa n ≠ Lib.itoa m := by
  intro h
  have := itoa_chars m 95 (by rw [← h]; simp)
  rcases this with h | h
  · exact absurd h (by decide)
  · exact absurd h (by decide)
theorem fn_at : fnL [64] = [64] := by decide
theorem quote_at64 : quoteL [64] = [64] := by decide
theorem num_at64 (n : Int) : Lib.itoa n ≠ [64] := by
  intro h
  have := itoa_chars n 64 (by rw [h]; simp)
  rcases this with h | h
  · exact absurd h (by decide)
  · exact absurd h (by decide)
/-- The text of one term, and what stands behind it, tell both. -/
def One (T : Tm) : Prop := ∀ U r s, U.okw = true → end8 r → end8 s → T.txt ++ r = U.txt ++ s → T = U ∧ r = s
theorem kids_one : ∀ (ks : List Tm), (∀ t ∈ ks, One t) → ∀ (us : List Tm) (r s : List UInt8), Tm.okws us = true → Tm.txtc ks ++ 41 :: r = Tm.txtc us ++ 41 :: s → ks = us ∧ r = s
  | [], _, [], r, s, _, h => by rw [Tm.txtc_nil] at h; simp at h; exact ⟨rfl, h⟩
  | [], _, u :: us, r, s, _, h => by rw [Tm.txtc_nil, Tm.txtc_cons] at h; simp at h
  | k :: ks, _, [], r, s, _, h => by rw [Tm.txtc_nil, Tm.txtc_cons] at h; simp at h
  | k :: ks, ih, u :: us, r, s, hu, h => by
    rw [Tm.okws, Bool.and_eq_true] at hu
    rw [Tm.txtc_cons, Tm.txtc_cons] at h
    simp only [List.cons_append, List.append_assoc, List.cons.injEq, true_and] at h
    have he : ∀ (l : List Tm) (x : List UInt8), end8 (Tm.txtc l ++ 41 :: x) := by
      intro l x
      cases l with
      | nil => rw [Tm.txtc_nil]; exact .inr ⟨41, x, rfl, .inl rfl⟩
      | cons t ts => rw [Tm.txtc_cons]; exact .inr ⟨44, _, rfl, .inr rfl⟩
    obtain ⟨e1, e2⟩ := ih k (by simp) u _ _ hu.1 (he ks r) (he us s) h
    obtain ⟨e3, e4⟩ := kids_one ks (fun t ht => ih t (by simp [ht])) us r s hu.2 e2
    exact ⟨by rw [e1, e3], e4⟩
theorem end_c (l : List Tm) (x : List UInt8) : end8 (Tm.txtc l ++ 41 :: x) := by
  cases l with
  | nil => rw [Tm.txtc_nil]; exact .inr ⟨41, x, rfl, .inl rfl⟩
  | cons t ts => rw [Tm.txtc_cons]; exact .inr ⟨44, _, rfl, .inr rfl⟩
theorem end_40 {r x : List UInt8} (h : end8 r) : r ≠ 40 :: x := by
  rintro rfl
  rcases h with h | ⟨c, y, h, hc⟩
  · cases h
  · injection h with h1 h2
    subst h1
    rcases hc with h | h <;> exact absurd h (by decide)
/-- Both texts by their first tokens. -/
theorem by_first {T U : Tm} {r s : List UInt8} (hT : T.okw = true) (hU : U.okw = true) (hr : end8 r) (hs : end8 s) (h : T.txt ++ r = U.txt ++ s) : hd8 T = hd8 U ∧ tl8 T ++ r = tl8 U ++ s := by
  have h' : hd8 T ++ (tl8 T ++ r) = hd8 U ++ (tl8 U ++ s) := by
    rw [txt_split hT, txt_split hU] at h
    simpa [List.append_assoc] using h
  exact tok_two (hd_tok hT) (hd_tok hU) (tl_behind _ hr) (tl_behind _ hs) h'
theorem hd1 (n : Int) : hd8 (.mk 1 n (ByteArray.mk #[]) []) = 95 :: Lib.itoa n := rfl
theorem hd2 (n : Int) : hd8 (.mk 2 n (ByteArray.mk #[]) []) = Lib.itoa n := rfl
theorem hd30 (s : ByteArray) : hd8 (.mk 3 0 s []) = quoteL s.data.toList := rfl
theorem hd31 (s : ByteArray) (k : Tm) (ks : List Tm) : hd8 (.mk 3 0 s (k :: ks)) = fnL s.data.toList := rfl
theorem hd4 (n : Int) (t : Tm) : hd8 (.mk 4 n (ByteArray.mk #[]) [t]) = [64] := rfl
theorem tl1 (n : Int) : tl8 (.mk 1 n (ByteArray.mk #[]) []) = [] := rfl
theorem tl2 (n : Int) : tl8 (.mk 2 n (ByteArray.mk #[]) []) = [] := rfl
theorem tl30 (s : ByteArray) : tl8 (.mk 3 0 s []) = [] := rfl
theorem tl31 (s : ByteArray) (k : Tm) (ks : List Tm) : tl8 (.mk 3 0 s (k :: ks)) = 40 :: (k.txt ++ (Tm.txtc ks ++ [41])) := by
  rw [tl8_mk, if_neg (by decide), if_neg (by decide), if_pos rfl, if_neg (by simp), Tm.txtc_cons]
  simp
theorem tl4 (n : Int) (t : Tm) : tl8 (.mk 4 n (ByteArray.mk #[]) [t]) = 40 :: (t.txt ++ (44 :: (Lib.itoa n ++ [41]))) := by
  rw [tl8_mk, if_neg (by decide), if_neg (by decide), if_neg (by decide), Tm.txtc_cons, Tm.txtc_nil]
  simp
/-- The shapes of a term that may be. -/
inductive Shape : Tm → Prop where
  | var (n : Int) : Shape (.mk 1 n (ByteArray.mk #[]) [])
  | int (n : Int) : Shape (.mk 2 n (ByteArray.mk #[]) [])
  | atom (s : ByteArray) : Shape (.mk 3 0 s [])
  | fn (s : ByteArray) (k : Tm) (ks : List Tm) (hk : k.okw = true) (hks : Tm.okws ks = true) (hat : ¬ (s.data.toList = [64] ∧ ks.length = 1)) : Shape (.mk 3 0 s (k :: ks))
  | sl (n : Int) (t : Tm) (ht : t.okw = true) : Shape (.mk 4 n (ByteArray.mk #[]) [t])
theorem shape_of {T : Tm} (h : T.okw = true) : Shape T := by
  obtain ⟨k, n, s, ks⟩ := T
  obtain ⟨hks, ⟨rfl, rfl, rfl⟩ | ⟨rfl, rfl, rfl⟩ | ⟨rfl, rfl, hat⟩ | ⟨rfl, rfl, t, rfl⟩⟩ := Tm.okw_cases h
  · exact .var n
  · exact .int n
  · cases ks with
    | nil => exact .atom s
    | cons k ks =>
      rw [Tm.okws, Bool.and_eq_true] at hks
      exact .fn s k ks hks.1 hks.2 (fun e => hat ⟨e.1, by simp [e.2]⟩)
  · rw [Tm.okws, Bool.and_eq_true] at hks
    exact .sl n t hks.1
theorem int_okw (n : Int) : (Tm.mk 2 n (ByteArray.mk #[]) []).okw = true := by rw [Tm.okw, Tm.okws]; rfl
theorem one_int (n : Int) : One (.mk 2 n (ByteArray.mk #[]) []) := by
  intro U r s hU hr hs h
  obtain ⟨e1, e2⟩ := by_first (T := .mk 2 n (ByteArray.mk #[]) []) (int_okw n) hU hr hs h
  rw [hd2, tl2] at *
  cases shape_of hU with
  | var m => rw [hd1] at e1; exact absurd e1.symm (var_num _ _)
  | int m =>
    rw [hd2] at e1
    rw [tl2] at e2
    exact ⟨by rw [itoa_inj e1], by simpa using e2⟩
  | atom q => rw [hd30] at e1; exact absurd e1.symm (quote_num _ _)
  | fn q k ks => rw [hd31] at e1; exact absurd e1.symm (fn_num _ _)
  | sl m t => rw [hd4] at e1; exact absurd e1 (num_at64 _)
/-- A Fun @ and a Seal have not the same text behind the bracket. -/
theorem fn_sl {k : Tm} {ks : List Tm} {t : Tm} {n : Int} {r s : List UInt8} (hk : One k) (hks : ∀ u ∈ ks, One u) (ht : t.okw = true) (hl : ks.length ≠ 1) (h : k.txt ++ (Tm.txtc ks ++ 41 :: r) = t.txt ++ (44 :: (Lib.itoa n ++ 41 :: s))) : False := by
  obtain ⟨-, e⟩ := hk t _ _ ht (end_c ks r) (.inr ⟨44, _, rfl, .inr rfl⟩) h
  cases ks with
  | nil => rw [Tm.txtc_nil] at e; simp at e
  | cons k1 ks =>
    rw [Tm.txtc_cons] at e
    simp only [List.cons_append, List.append_assoc, List.cons.injEq, true_and] at e
    have e' : k1.txt ++ (Tm.txtc ks ++ 41 :: r) = (Tm.mk 2 n (ByteArray.mk #[]) []).txt ++ 41 :: s := by rw [num_txt]; exact e
    obtain ⟨-, e2⟩ := hks k1 (by simp) _ _ _ (int_okw n) (end_c ks r) (.inr ⟨41, _, rfl, .inl rfl⟩) e'
    cases ks with
    | nil => exact hl rfl
    | cons k2 ks => rw [Tm.txtc_cons] at e2; simp at e2
theorem sl_fn {k : Tm} {ks : List Tm} {t : Tm} {n : Int} {r s : List UInt8} (ht : One t) (hk : k.okw = true) (hks : Tm.okws ks = true) (hl : ks.length ≠ 1) (h : t.txt ++ (44 :: (Lib.itoa n ++ 41 :: r)) = k.txt ++ (Tm.txtc ks ++ 41 :: s)) : False := by
  obtain ⟨-, e⟩ := ht k _ _ hk (.inr ⟨44, _, rfl, .inr rfl⟩) (end_c ks s) h
  cases ks with
  | nil => rw [Tm.txtc_nil] at e; simp at e
  | cons k1 ks =>
    rw [Tm.okws, Bool.and_eq_true] at hks
    rw [Tm.txtc_cons] at e
    simp only [List.cons_append, List.append_assoc, List.cons.injEq, true_and] at e
    have e' : (Tm.mk 2 n (ByteArray.mk #[]) []).txt ++ 41 :: r = k1.txt ++ (Tm.txtc ks ++ 41 :: s) := by rw [num_txt]; exact e
    obtain ⟨-, e2⟩ := one_int n _ _ _ hks.1 (.inr ⟨41, _, rfl, .inl rfl⟩) (end_c ks s) e'
    cases ks with
    | nil => exact hl rfl
    | cons k2 ks => rw [Tm.txtc_cons] at e2; simp at e2
theorem quote_64 {l : List UInt8} (h : quoteL l = [64]) : l = [64] := quote_inj (h.trans quote_at64.symm)
theorem fn_64 {l : List UInt8} (h : fnL l = [64]) : l = [64] := fn_inj (h.trans fn_at.symm)
/-- TEXTS ARE TOLD APART. -/
theorem txt_one (T : Tm) : T.okw = true → One T := by
  induction T using Tm.ind with
  | h k n s ks ih =>
    intro hT U r s' hU hr hs h
    have ihk : ∀ t ∈ ks, One t := fun t ht => ih t ht (Tm.okws_mem (Tm.okw_cases hT).1 t ht)
    obtain ⟨e1, e2⟩ := by_first hT hU hr hs h
    clear h
    cases shape_of hT with
    | var =>
      rw [hd1] at e1
      rw [tl1] at e2
      cases shape_of hU with
      | var m =>
        rw [hd1] at e1
        rw [tl1] at e2
        injection e1 with _ e1
        exact ⟨by rw [itoa_inj e1], by simpa using e2⟩
      | int m => rw [hd2] at e1; exact absurd e1 (var_num _ _)
      | atom q => rw [hd30] at e1; obtain ⟨c, x, h1, h2⟩ := quote_first q.data.toList; rw [h1] at e1; injection e1 with e1; exact absurd e1.symm h2
      | fn q k ks => rw [hd31] at e1; obtain ⟨c, x, h1, h2⟩ := fn_first q.data.toList; rw [h1] at e1; injection e1 with e1; exact absurd e1.symm h2
      | sl m t => rw [hd4] at e1; simp at e1
    | int => exact one_int n U r s' hU hr hs (by rw [txt_split hT, txt_split hU, List.append_assoc, List.append_assoc, e1, e2])
    | atom =>
      rw [hd30] at e1
      rw [tl30] at e2
      cases shape_of hU with
      | var m => rw [hd1] at e1; obtain ⟨c, x, h1, h2⟩ := quote_first s.data.toList; rw [h1] at e1; injection e1 with e1; exact absurd e1 h2
      | int m => rw [hd2] at e1; exact absurd e1 (quote_num _ _)
      | atom q =>
        rw [hd30] at e1
        rw [tl30] at e2
        exact ⟨by rw [str_ext (quote_inj e1)], by simpa using e2⟩
      | fn q k ks => rw [tl31] at e2; exact absurd e2 (end_40 hr)
      | sl m t => rw [tl4] at e2; exact absurd e2 (end_40 hr)
    | fn _ k ks hk hks hat =>
      rw [hd31] at e1
      rw [tl31] at e2
      cases shape_of hU with
      | var m => rw [hd1] at e1; obtain ⟨c, x, h1, h2⟩ := fn_first s.data.toList; rw [h1] at e1; injection e1 with e1; exact absurd e1 h2
      | int m => rw [hd2] at e1; exact absurd e1 (fn_num _ _)
      | atom q => rw [tl30] at e2; exact absurd e2.symm (end_40 hs)
      | fn q u us hu hus hat' =>
        rw [hd31] at e1
        rw [tl31] at e2
        simp only [List.cons_append, List.append_assoc, List.nil_append, List.cons.injEq, true_and] at e2
        obtain ⟨e3, e4⟩ := ihk k (by simp) u _ _ hu (end_c ks r) (end_c us s') e2
        obtain ⟨e5, e6⟩ := kids_one ks (fun t ht => ihk t (by simp [ht])) us r s' hus e4
        exact ⟨by rw [str_ext (fn_inj e1), e3, e5], e6⟩
      | sl m t ht =>
        rw [hd4] at e1
        rw [tl4] at e2
        simp only [List.cons_append, List.append_assoc, List.nil_append, List.cons.injEq, true_and] at e2
        exact (fn_sl (ihk k (by simp)) (fun u hu => ihk u (by simp [hu])) ht (fun e => hat ⟨fn_64 e1, e⟩) e2).elim
    | sl _ t ht =>
      rw [hd4] at e1
      rw [tl4] at e2
      cases shape_of hU with
      | var m => rw [hd1] at e1; simp at e1
      | int m => rw [hd2] at e1; exact absurd e1.symm (num_at64 _)
      | atom q => rw [tl30] at e2; exact absurd e2.symm (end_40 hs)
      | fn q u us hu hus hat' =>
        rw [hd31] at e1
        rw [tl31] at e2
        simp only [List.cons_append, List.append_assoc, List.nil_append, List.cons.injEq, true_and] at e2
        exact (sl_fn (ihk t (by simp)) hu hus (fun e => hat' ⟨fn_64 e1.symm, e⟩) e2).elim
      | sl m u hu =>
        rw [tl4] at e2
        simp only [List.cons_append, List.append_assoc, List.nil_append, List.cons.injEq, true_and] at e2
        obtain ⟨e3, e4⟩ := ihk t (by simp) u _ _ hu (.inr ⟨44, _, rfl, .inr rfl⟩) (.inr ⟨44, _, rfl, .inr rfl⟩) e2
        simp only [List.cons.injEq, true_and] at e4
        obtain ⟨e5, e6⟩ := simple_two (tok_int _) (tok_int _) (.inr ⟨41, _, rfl, by decide⟩) (.inr ⟨41, _, rfl, by decide⟩) e4
        injection e6 with _ e6
        exact ⟨by rw [e3, itoa_inj e5], e6⟩
/-- WRITERONES, apart from memory. -/
theorem txt_inj {T U : Tm} (hT : T.okw = true) (hU : U.okw = true) : T.txt = U.txt ↔ T = U :=
  ⟨fun h => (txt_one T hT U [] [] hU (.inl rfl) (.inl rfl) (by rw [h])).1, fun h => by rw [h]⟩
end Go.Proofs.YtfencolokfghfaaGreatDoor
namespace Go.Proofs.YtfencolokfghfaaGreatDoor
open Go.RowKit Go.Shelf
set_option linter.unusedVariables false

theorem below_draws {B : Nat} {a w : World} (h : Below B a w) : ∀ n, Below B a (w.drewN n)
  | 0 => h
  | n + 1 => (below_draws h n).drew

set_option maxRecDepth 100000 in
set_option maxHeartbeats 1000000 in
theorem rsize_at (T : Tm) : ∀ (v : Value) (w : World), Has w v T → T.size ≤ 1000000000000 → Calls Tryz.prog 19 #[v] w (Gets w (.int .i64 (T.size : Int))) := by
  induction T using Tm.ind with
  | h k n s ks ih =>
    intro v w hv hs
    obtain ⟨k_, n_, s_, a, len, cap, ks_, rfl, e, rfl, hk, hn, hs', hc, hm, ha⟩ := hv.form
    injection e with e1 e2 e3 e4
    subst e1 e2 e3 e4
    rw [Tm.size_mk] at hs ⊢
    have hlen : ks.length ≤ 1000000000000 := by have := Tm.length_le_sizes ks; omega
    obtain ⟨w1, hw1⟩ : ∃ w1, w1 = w.alloc (.cells #[.int .i64 k, .int .i64 n, .string s, .slice a ks.length cap] 24) := ⟨_, rfl⟩
    have hB1 : Below w.heap.size w w1 := by rw [hw1]; exact (Below.refl _ w).alloc (Nat.le_refl _) _
    have hbox : w1.heap[w.heap.size]? = some (.cells #[.int .i64 k, .int .i64 n, .string s, .slice a ks.length cap] 24 (0, 0)) := by rw [hw1]; exact World.alloc_heap_new _ _
    go_enter Tryz.func19, Tryz.ntmps19
    have HH := Lib.hid (And.intro hs (And.intro hB1 hbox))
    have HW := Lib.hid hw1
    clear hs hB1 hbox hw1
    go_wp2_with fail
    rw [← HW.out]
    go_loopw [3, 4] (fun x i wr => ∃ c : Nat, x = .int .i64 ((1 + Tm.sizes (ks.take c) : Nat) : Int) ∧ i = .int .i64 c ∧ c ≤ ks.length ∧ Below w1.heap.size w1 wr) (fun _ i _ => ks.length - (intOf i).toNat)
    case atStart => exact ⟨0, by simp [Tm.sizes_nil], rfl, Nat.zero_le _, Below.refl _ _⟩
    case round =>
      obtain ⟨c, rfl, rfl, hcl, hB⟩ := hrel
      have hbr := tbox_below HH.out.2.2 hB
      obtain ⟨b0, b1, b2, b3⟩ := tbox_cells hbr
      have hwr : Below w.heap.size w wr := HH.out.2.1.trans (hB.mono HH.out.2.1.size)
      by_cases hlt : c < ks.length
      · obtain ⟨b, o, k1, n1, s1, a1, l1, c1, T1, rfl, hbn, e0, e1, e2, e3, hT1, ht1⟩ := IsTm.kid hv c hlt
        have q0 := (hwr.cell (p := ⟨b, o + c * 4, none⟩) hbn).trans e0
        have q1 := (hwr.cell (p := ⟨b, o + c * 4 + 1, none⟩) hbn).trans e1
        have q2 := (hwr.cell (p := ⟨b, o + c * 4 + 2, none⟩) hbn).trans e2
        have q3 := (hwr.cell (p := ⟨b, o + c * 4 + 3, none⟩) hbn).trans e3
        have hts := Tm.take_succ_sizes ks c T1 hT1
        have htl := Tm.sizes_take_le ks (c + 1)
        have hs0 := HH.out.1
        obtain ⟨m, hm'⟩ : ∃ m, Tm.sizes (ks.take c) = m := ⟨_, rfl⟩
        obtain ⟨m1, hm1⟩ : ∃ m1, T1.size = m1 := ⟨_, rfl⟩
        have hih := (ih T1 (List.mem_of_getElem? hT1) _ wr (IsTm.later hwr hwr.size ht1) (by omega)).mono (R' := fun e w2 => e = .returned (.int .i64 (m1 : Int)) ∧ Below w1.heap.size w1 w2) (fun e w2 h => ⟨by rw [← hm1]; exact h.1, hB.trans (h.2.mono hB.size)⟩)
        have hmb : m + m1 ≤ 1000000000000 := by omega
        have HR := Lib.hid (And.intro hts (And.intro hm' hm1))
        clear ih hv e0 e1 e2 e3 ht1 hts htl hs0 hT1
        rw [hm']
        clear hm' hm1
        have hmi : ((1 + m : Nat) : Int) + (m1 : Int) ≤ 1000000000001 := by omega
        go_wp2_with (go_at_call 19; refine hih.mono ?_; rintro e w2 ⟨rfl, hB2⟩)
        go_roundw
        case rel =>
          refine ⟨c + 1, ?_, by simp, hlt, hB2⟩
          rw [HR.out.1, HR.out.2.1, HR.out.2.2]
          exact congrArg (Value.int .i64) (by omega)
        case measure => simp [intOf]; omega
      · have hce : c = ks.length := by omega
        subst hce
        clear ih hv
        rw [List.take_length]
        go_wp2_with fail
        go_ret
        exact ⟨rfl, hwr⟩

end Go.Proofs.YtfencolokfghfaaGreatDoor
namespace Go.Proofs.YtfencolokfghfaaGreatDoor
open Go.Shelf Go.RowKit Go.Sort
set_option linter.unusedVariables false
set_option linter.unnecessarySimpa false

set_option maxRecDepth 100000 in
set_option maxHeartbeats 1000000 in
theorem few8_at (T : Tm) (v : Value) (w : World) (hv : Has w v T) (hs : T.size ≤ 2000000) : Calls Tryz.prog 5 #[v] w (Gets w (.bool (decide (T.size ≤ 1000)))) := by
  obtain ⟨k, n, s, a, len, cap, ks, rfl, e, -⟩ := hv.form
  clear e
  have hb : Below w.heap.size w (w.alloc (.cells #[.int .i64 k, .int .i64 n, .string s, .slice a len cap] 24)) := (Below.refl _ w).alloc (Nat.le_refl _) _
  have h := (rsize_at T _ _ (Has.below hv hb) (by omega)).mono (R' := Gets w (.int .i64 (T.size : Int))) (fun e w2 h => ⟨h.1, hb.trans (h.2.mono hb.size)⟩)
  clear hv hb
  go_enter Tryz.func5, Tryz.ntmps5
  go_wp2_with (go_at_call 19; refine h.mono ?_; clear h; rintro e w2 ⟨rfl, hB⟩)
  go_ret
  refine ⟨congrArg (fun b => Ending.returned (Value.bool b)) (?_ : decide ((T.size : Int) ≤ 1000) = decide (T.size ≤ 1000)), hB⟩
  rw [decide_eq_decide]
  omega
theorem one_ts8 {w : World} {k n : Int} {s : ByteArray} {a : Option Addr} {l c : Nat} {x : Tm} (hx : Has w (.agg #[.int .i64 k, .int .i64 n, .string s, .slice a l c]) x) :
    HasTs (w.alloc (.cells #[.int .i64 k, .int .i64 n, .string s, .slice a l c] 24)) (.slice (some ⟨w.heap.size, 0, none⟩) 1 1) [x] := by
  have hb := bel_al (Below.refl w.heap.size w) (.cells #[.int .i64 k, .int .i64 n, .string s, .slice a l c] 24)
  obtain ⟨c0, c1, c2, c3⟩ := tbox_cells (alloc_new w (.cells #[.int .i64 k, .int .i64 n, .string s, .slice a l c] 24))
  refine ⟨some ⟨w.heap.size, 0, none⟩, 1, rfl, Nat.le_refl _, by unfold maxLen; omega, (fun e => by cases e), fun i hi => ?_⟩
  obtain rfl : i = 0 := by simp at hi; omega
  exact ⟨w.heap.size, 0, k, n, s, a, l, c, rfl, by simp, by simpa using c0, by simpa using c1, by simpa using c2, by simpa using c3, hx.below hb⟩
theorem ans_comp (ns : List ByteArray) (vs : List Tm) (W : World) (cells : Array Value) (hts : HasTs ((W.alloc (.cells (ns.map Value.string).toArray 9)).alloc (.cells cells 24)) (.slice (some ⟨W.heap.size + 1, 0, none⟩) vs.length vs.length) vs) (hT : TabP W)
    (hv : ∀ t ∈ vs, t.byt ≤ 2000000 ∧ t.size ≤ 1000000) (hvl : vs.length ≤ 1000) (hnl : ns.length ≤ 1000) (hn : ∀ s ∈ ns, s.size ≤ 2000000) :
    Calls Tryz.prog 17 #[.slice (some ⟨W.heap.size, 0, none⟩) ns.length ns.length, .slice (some ⟨W.heap.size + 1, 0, none⟩) vs.length vs.length] ((W.alloc (.cells (ns.map Value.string).toArray 9)).alloc (.cells cells 24)) fun e w' => e = .returned (.string (strV (ansL ns vs))) ∧ Below W.heap.size W w' := by
  have hb := bel_al (bel_al (Below.refl W.heap.size W) (.cells (ns.map Value.string).toArray 9)) (.cells cells 24)
  have hx : ((W.alloc (.cells (ns.map Value.string).toArray 9)).alloc (.cells cells 24)).heap[W.heap.size]? = some (.cells (ns.map Value.string).toArray 9 (0, 0)) := (Below.block (bel_al (Below.refl _ (W.alloc (.cells (ns.map Value.string).toArray 9))) _) _ (by simp)).trans (alloc_new _ _)
  refine (answer_at ns vs _ ns.length _ vs.length _ (fun i s hs => ⟨W.heap.size, 0, rfl, (Array.getElem?_eq_some_iff.1 hx).1, ?_⟩) (Nat.le_refl _) (by unfold maxLen; omega) (fun e => by cases e) hts (hT.later hb) hv hvl (by omega) hn).mono fun e w' h => ⟨h.1, bel hb h.2⟩
  rw [Lib.cell_of_heap hx]
  simp [hs]
def bX : ByteArray := ByteArray.mk #[88]
def bY : ByteArray := ByteArray.mk #[89]
def bH : ByteArray := ByteArray.mk #[95]
theorem tell_X (T : Tm) : tellO (bX, T) = some (ByteArray.mk #[88, 32, 61, 32] ++ strV T.txt) := by
  unfold tellO
  rw [if_neg (by show ¬ Lib.hasPrefix bX.data.toList [95] = true; decide)]
  congr 1
theorem tell_Y (T : Tm) : tellO (bY, T) = some (ByteArray.mk #[89, 32, 61, 32] ++ strV T.txt) := by
  unfold tellO
  rw [if_neg (by show ¬ Lib.hasPrefix bY.data.toList [95] = true; decide)]
  congr 1
theorem tell_H (T : Tm) : tellO (bH, T) = none := by
  unfold tellO
  rw [if_pos (by show Lib.hasPrefix bH.data.toList [95] = true; decide)]
theorem ans_one {ns : List ByteArray} {vs : List Tm} {s : ByteArray} (h : toldL ns vs (ns.zip vs).length = [s]) : strV (ansL ns vs) = s := by
  refine str_ext ?_
  rw [strV_list]
  unfold ansL
  rw [h, if_neg (by simp)]
  simp [Lib.join_one]
theorem ans_two8 {ns : List ByteArray} {vs : List Tm} {s t : ByteArray} (h : toldL ns vs (ns.zip vs).length = [s, t]) : strV (ansL ns vs) = s ++ ByteArray.mk #[44, 32] ++ t := by
  refine str_ext ?_
  rw [strV_list]
  unfold ansL
  rw [h, if_neg (by simp)]
  simp [Lib.join_cons, Lib.joinTail, ByteArray.data_append]
theorem told1 (T : Tm) : toldL [bX] [T] 1 = [ByteArray.mk #[88, 32, 61, 32] ++ strV T.txt] := by unfold toldL; simp [tell_X]
theorem told2 (T U : Tm) : toldL [bX, bY] [T, U] 2 = [ByteArray.mk #[88, 32, 61, 32] ++ strV T.txt, ByteArray.mk #[89, 32, 61, 32] ++ strV U.txt] := by unfold toldL; simp [tell_X, tell_Y]
theorem told3 (T U : Tm) : toldL [bH, bY] [T, U] 2 = [ByteArray.mk #[89, 32, 61, 32] ++ strV U.txt] := by unfold toldL; simp [tell_H, tell_Y]
theorem told4 (T : Tm) : toldL [bX, bY] [T] 1 = [ByteArray.mk #[88, 32, 61, 32] ++ strV T.txt] := by unfold toldL; simp [tell_X]
theorem ansA {T : Tm} {k n : Int} {s : ByteArray} {a : Option Addr} {l c : Nat} (W : World) (hx : Has W (.agg #[.int .i64 k, .int .i64 n, .string s, .slice a l c]) T) (hT : TabP W) (hv : T.byt ≤ 2000000 ∧ T.size ≤ 1000000) : Calls Tryz.prog 17 #[.slice (some ⟨W.heap.size, 0, none⟩) 1 1, .slice (some ⟨W.heap.size + 1, 0, none⟩) 1 1] ((W.alloc (.cells #[.string (ByteArray.mk #[88])] 9)).alloc (.cells #[.int .i64 k, .int .i64 n, .string s, .slice a l c] 24)) fun e w' => e = .returned (.string (ByteArray.mk #[88, 32, 61, 32] ++ strV T.txt)) ∧ Below W.heap.size W w' := by
  have h1 := one_ts8 (hx.below (bel_al (Below.refl W.heap.size W) (.cells #[.string (ByteArray.mk #[88])] 9)))
  rw [World.size_alloc] at h1
  have h := ans_comp [bX] [T] W #[.int .i64 k, .int .i64 n, .string s, .slice a l c] h1 hT (fun t ht => by simp at ht; subst ht; exact hv) (by simp) (by simp) (fun s hs => by simp at hs; subst hs; decide)
  rw [ans_one (told1 T)] at h
  exact h
theorem ansD {T : Tm} {k n : Int} {s : ByteArray} {a : Option Addr} {l c : Nat} (W : World) (hx : Has W (.agg #[.int .i64 k, .int .i64 n, .string s, .slice a l c]) T) (hT : TabP W) (hv : T.byt ≤ 2000000 ∧ T.size ≤ 1000000) : Calls Tryz.prog 17 #[.slice (some ⟨W.heap.size, 0, none⟩) 2 2, .slice (some ⟨W.heap.size + 1, 0, none⟩) 1 1] ((W.alloc (.cells #[.string (ByteArray.mk #[88]), .string (ByteArray.mk #[89])] 9)).alloc (.cells #[.int .i64 k, .int .i64 n, .string s, .slice a l c] 24)) fun e w' => e = .returned (.string (ByteArray.mk #[88, 32, 61, 32] ++ strV T.txt)) ∧ Below W.heap.size W w' := by
  have h1 := one_ts8 (hx.below (bel_al (Below.refl W.heap.size W) (.cells #[.string (ByteArray.mk #[88]), .string (ByteArray.mk #[89])] 9)))
  rw [World.size_alloc] at h1
  have h := ans_comp [bX, bY] [T] W #[.int .i64 k, .int .i64 n, .string s, .slice a l c] h1 hT (fun t ht => by simp at ht; subst ht; exact hv) (by simp) (by simp) (fun s hs => by simp at hs; rcases hs with rfl | rfl <;> decide)
  rw [ans_one (told4 T)] at h
  exact h
theorem ansB {T U : Tm} {k n : Int} {s : ByteArray} {a : Option Addr} {l c : Nat} {k' n' : Int} {s' : ByteArray} {a' : Option Addr} {l' c' : Nat} (W : World) (hx : Has W (.agg #[.int .i64 k, .int .i64 n, .string s, .slice a l c]) T) (hy : Has W (.agg #[.int .i64 k', .int .i64 n', .string s', .slice a' l' c']) U) (hT : TabP W) (hv : T.byt ≤ 2000000 ∧ T.size ≤ 1000000) (hu : U.byt ≤ 2000000 ∧ U.size ≤ 1000000) : Calls Tryz.prog 17 #[.slice (some ⟨W.heap.size, 0, none⟩) 2 2, .slice (some ⟨W.heap.size + 1, 0, none⟩) 2 2] ((W.alloc (.cells #[.string (ByteArray.mk #[88]), .string (ByteArray.mk #[89])] 9)).alloc (.cells #[.int .i64 k, .int .i64 n, .string s, .slice a l c, .int .i64 k', .int .i64 n', .string s', .slice a' l' c'] 24)) fun e w' => e = .returned (.string (ByteArray.mk #[88, 32, 61, 32] ++ strV T.txt ++ ByteArray.mk #[44, 32] ++ (ByteArray.mk #[89, 32, 61, 32] ++ strV U.txt))) ∧ Below W.heap.size W w' := by
  have hb := bel_al (Below.refl W.heap.size W) (.cells #[.string (ByteArray.mk #[88]), .string (ByteArray.mk #[89])] 9)
  have h1 := two8 (hx.below hb) (hy.below hb)
  rw [World.size_alloc] at h1
  have h := ans_comp [bX, bY] [T, U] W #[.int .i64 k, .int .i64 n, .string s, .slice a l c, .int .i64 k', .int .i64 n', .string s', .slice a' l' c'] h1 hT (fun t ht => by simp at ht; rcases ht with rfl | rfl; exact hv; exact hu) (by simp) (by simp) (fun s hs => by simp at hs; rcases hs with rfl | rfl <;> decide)
  rw [ans_two8 (told2 T U)] at h
  exact h
theorem ansC {T U : Tm} {k n : Int} {s : ByteArray} {a : Option Addr} {l c : Nat} {k' n' : Int} {s' : ByteArray} {a' : Option Addr} {l' c' : Nat} (W : World) (hx : Has W (.agg #[.int .i64 k, .int .i64 n, .string s, .slice a l c]) T) (hy : Has W (.agg #[.int .i64 k', .int .i64 n', .string s', .slice a' l' c']) U) (hT : TabP W) (hv : T.byt ≤ 2000000 ∧ T.size ≤ 1000000) (hu : U.byt ≤ 2000000 ∧ U.size ≤ 1000000) : Calls Tryz.prog 17 #[.slice (some ⟨W.heap.size, 0, none⟩) 2 2, .slice (some ⟨W.heap.size + 1, 0, none⟩) 2 2] ((W.alloc (.cells #[.string (ByteArray.mk #[95]), .string (ByteArray.mk #[89])] 9)).alloc (.cells #[.int .i64 k, .int .i64 n, .string s, .slice a l c, .int .i64 k', .int .i64 n', .string s', .slice a' l' c'] 24)) fun e w' => e = .returned (.string (ByteArray.mk #[89, 32, 61, 32] ++ strV U.txt)) ∧ Below W.heap.size W w' := by
  have hb := bel_al (Below.refl W.heap.size W) (.cells #[.string (ByteArray.mk #[95]), .string (ByteArray.mk #[89])] 9)
  have h1 := two8 (hx.below hb) (hy.below hb)
  rw [World.size_alloc] at h1
  have h := ans_comp [bH, bY] [T, U] W #[.int .i64 k, .int .i64 n, .string s, .slice a l c, .int .i64 k', .int .i64 n', .string s', .slice a' l' c'] h1 hT (fun t ht => by simp at ht; rcases ht with rfl | rfl; exact hv; exact hu) (by simp) (by simp) (fun s hs => by simp at hs; rcases hs with rfl | rfl <;> decide)
  rw [ans_one (told3 T U)] at h
  exact h
end Go.Proofs.YtfencolokfghfaaGreatDoor
namespace Go.Proofs.YtfencolokfghfaaGreatDoor
open Go.Shelf Go.RowKit Go.Sort
set_option linter.unusedVariables false

def lowC (c : UInt8) : Bool := decide (c.toNat < 32) && decide (c ≠ 10)
mutual
/-- What at tells of a term. -/
def Tm.atb : Tm → Bool
  | .mk k n s ks => (decide (k = 3) && decide (s.data.toList = [64]) && decide (ks.length = 2)) || (s.data.toList.any lowC || Tm.atbs ks)
def Tm.atbs : List Tm → Bool
  | [] => false
  | t :: ts => t.atb || Tm.atbs ts
end
theorem Tm.atbs_any : ∀ ks : List Tm, Tm.atbs ks = ks.any Tm.atb
  | [] => by rw [Tm.atbs]; rfl
  | t :: ts => by rw [Tm.atbs, Tm.atbs_any ts]; rfl
theorem Tm.atb_mk (k n : Int) (s : ByteArray) (ks : List Tm) : (Tm.mk k n s ks).atb = ((decide (k = 3) && decide (s.data.toList = [64]) && decide (ks.length = 2)) || (s.data.toList.any lowC || ks.any Tm.atb)) := by
  rw [Tm.atb, Tm.atbs_any]
theorem valid_parts8 (lv : Int) (T : Tm) (d : Nat) : validL lv (T.parts d) = validL lv (T.parts 1) := by
  have key : ∀ (T : Tm) (d e : Nat), validL lv (T.parts d) = validL lv (T.parts e) := by
    intro T
    induction T using Tm.ind with
    | h k n s ks ih =>
      intro d e
      have : ∀ (ks : List Tm), (∀ t ∈ ks, ∀ d e : Nat, validL lv (t.parts d) = validL lv (t.parts e)) → ∀ d e, validL lv (Tm.partss d ks) = validL lv (Tm.partss e ks) := by
        intro ks
        induction ks with
        | nil => intro _ d e; rw [Tm.partss_nil, Tm.partss_nil]
        | cons t ts iht =>
          intro h d e
          have h1 := h t (by simp) d e
          have h2 := iht (fun u hu => h u (by simp [hu])) d e
          unfold validL at h1 h2 ⊢
          rw [Tm.partss_cons, Tm.partss_cons, List.all_append, List.all_append, h1, h2]
      have h3 := this ks ih (d + 1) (e + 1)
      unfold validL at h3 ⊢
      rw [Tm.parts_mk, Tm.parts_mk, List.all_cons, List.all_cons, h3]
  exact key T d 1
theorem valid_mk8 (lv : Int) (k n : Int) (s : ByteArray) (ks : List Tm) : (Tm.mk k n s ks).valid lv = ((Tm.mk k n s ks).formed lv && ks.all fun t => t.valid lv) := by
  have : ∀ (ks : List Tm) (d : Nat), validL lv (Tm.partss d ks) = ks.all fun t => t.valid lv := by
    intro ks
    induction ks with
    | nil => intro d; rw [Tm.partss_nil]; rfl
    | cons t ts ih =>
      intro d
      have h1 := valid_parts8 lv t d
      have h2 := ih d
      unfold validL at h1 h2
      unfold validL
      rw [Tm.partss_cons, List.all_append, h1, h2, List.all_cons]
      rfl
  have h3 := this ks 2
  unfold validL at h3
  unfold Tm.valid validL
  rw [Tm.parts_mk, List.all_cons, h3]
  rfl
theorem Tm.okws_all : ∀ {ks : List Tm}, (∀ t ∈ ks, t.okw = true) → Tm.okws ks = true
  | [], _ => by rw [Tm.okws]
  | t :: ts, h => by rw [Tm.okws, h t (by simp), Tm.okws_all (fun u hu => h u (by simp [hu]))]; rfl
theorem ba_toList {s : ByteArray} (h : s.toList = []) : s.data.toList = [] := by
  rw [ByteArray.toList_eq] at h
  exact h
theorem okw_of (T : Tm) : T.valid 16 = true → T.atb = false → T.okw = true := by
  induction T using Tm.ind with
  | h k n s ks ih =>
    intro hv ha
    rw [valid_mk8, Bool.and_eq_true, List.all_eq_true] at hv
    rw [Tm.atb_mk, Bool.or_eq_false_iff, Bool.or_eq_false_iff] at ha
    have hax := List.any_eq_false.1 ha.2.2
    have hks : Tm.okws ks = true := Tm.okws_all fun t ht => ih t ht (hv.2 t ht) (by simpa using hax t ht)
    have hf := hv.1
    rw [Tm.formed_eq 16 k n s ks ks.length rfl] at hf
    rw [Tm.okw, hks, Bool.and_true]
    split at hf
    · rename_i h1
      simp only [Bool.and_eq_true, decide_eq_true_eq] at hf
      simp [h1, ba_toList hf.1.2, List.eq_nil_of_length_eq_zero hf.2]
    · split at hf
      · rename_i h1
        simp only [Bool.and_eq_true, decide_eq_true_eq] at hf
        simp [h1, ba_toList hf.1, List.eq_nil_of_length_eq_zero hf.2]
      · split at hf
        · rename_i h1
          simp only [Bool.and_eq_true, decide_eq_true_eq] at hf
          have := ha.1
          simp only [h1, decide_true, Bool.true_and] at this
          simp [h1, hf.1.1, this]
        · split at hf
          · rename_i h1
            simp only [Bool.and_eq_true, decide_eq_true_eq] at hf
            simp [h1, ba_toList hf.1.1.1.1, hf.1.2]
          · cases hf
theorem check_valid {T : Tm} (h : T.check 16 = 0) : T.valid 16 = true := by
  unfold Tm.check at h
  split at h
  · cases h
  · split at h
    · cases h
    · split at h
      · assumption
      · cases h
end Go.Proofs.YtfencolokfghfaaGreatDoor
namespace Go.Proofs.YtfencolokfghfaaGreatDoor
open Go.RowKit

/-- A region that draws its order, in a family of worlds. -/
theorem wp_region_fam {P : Program} {id : Nat} {Q : Exit → Act → World → Prop} {a : Act} {w : World} {l : List Oper} {I : Type} (F : I → World) (n0 : I) (h0 : w.drew = F n0) (hm : P.follows .mixedOrders = true) (hB : Region.lexB .any l.toArray = true)
    (h : wpQuiet P l.toArray (fun w' => ∃ n, w' = F n) (fun a' => ∀ w', (∃ n, w' = F n) → Q .normal a' w') l a) : (Code.region id l.toArray true).wp P Q a w :=
  wp_region_quiet (C := fun w' => ∃ n, w' = F n) hm hB ⟨n0, h0⟩ (by simpa using h)

/-- All worlds in which nothing that is here has turned. -/
theorem later_family (w : World) : ∃ (I : Type) (_ : Nonempty I) (F : I → World) (n0 : I), w.drew = F n0 ∧ (∀ n, Below w.heap.size w (F n)) ∧ ∀ n w', Below (F n).heap.size (F n) w' → ∃ m, w' = F m :=
  ⟨{ w' : World // Below w.heap.size w w' }, ⟨⟨w, Below.refl _ _⟩⟩, Subtype.val, ⟨w.drew, (Below.refl _ _).drew⟩, rfl, fun n => n.2, fun n w' h => ⟨⟨w', n.2.trans (h.mono n.2.size)⟩, rfl⟩⟩

/-- A contract over such a family. -/
theorem calls_fam {P : Program} {f : FuncId} {args : Array Value} {I : Type} {F : I → World} {v : Value} (hc : ∀ n w', Below (F n).heap.size (F n) w' → ∃ m, w' = F m) (n : I)
    (h : Calls P f args (F n) (Gets (F n) v)) : Calls P f args (F n) fun e w'' => e = .returned v ∧ ∃ m, w'' = F m :=
  h.mono fun _ _ hg => ⟨hg.1, hc n _ hg.2⟩

end Go.Proofs.YtfencolokfghfaaGreatDoor
namespace Go.Proofs.YtfencolokfghfaaGreatDoor
open Go.Shelf Go.RowKit Go.Sort
set_option linter.unusedVariables false
set_option linter.unnecessarySimpa false
open Classical

def AtOk (T : Tm) : Prop := ∀ (v : Value) (w : World), Has w v T → T.byt ≤ 2000000 → T.size ≤ 2000000 → Calls Tryz.prog 8 #[v] w (Gets w (.bool T.atb))
theorem any_take {α : Type} {l : List α} {p : α → Bool} {j : Nat} {x : α} (h : (l.take j).any p = false) (hx : l[j]? = some x) (hp : p x = false) : (l.take (j + 1)).any p = false := by
  rw [List.take_add_one, hx, List.any_append, h]
  simp [hp]
theorem any_mem {α : Type} {l : List α} {p : α → Bool} {j : Nat} {x : α} (hx : l[j]? = some x) (hp : p x = true) : l.any p = true := List.any_eq_true.2 ⟨x, List.mem_of_getElem? hx, hp⟩
set_option maxRecDepth 100000 in
set_option maxHeartbeats 4000000 in
theorem at_c1 (k n : Int) (s : ByteArray) (ks : List Tm) (ih : ∀ t ∈ ks, AtOk t) (hk3 : k ≠ 3) : AtOk (.mk k n s ks) := by
  intro v w hv hby hsz
  have hatb : (Tm.mk k n s ks).atb = (s.data.toList.any lowC || ks.any Tm.atb) := by
    rw [Tm.atb_mk]
    have : (decide (k = 3) && decide (s.data.toList = [64]) && decide (ks.length = 2)) = false := by simp [hk3]
    rw [this, Bool.false_or]
  rw [hatb]
  clear hatb
  obtain ⟨k_, n_, s_, a, len, cap, ks_, rfl, e, rfl, hk, hn, hs', hc, hm, ha⟩ := hv.form
  injection e with e1 e2 e3 e4
  subst e1 e2 e3 e4
  rw [Tm.byt_mk] at hby
  rw [Tm.size_mk] at hsz
  have hlen : ks.length ≤ 2000000 := by have := Tm.length_le_sizes ks; omega
  have hss : s.size ≤ 2000000 := by omega
  obtain ⟨l, hl⟩ : ∃ l, s.data.toList = l := ⟨_, rfl⟩
  rw [hl]
  have hll := len_of hl
  have hk3' : (k == 3) = false := by simpa using hk3
  have hby2 : ∀ t ∈ ks, t.byt ≤ 2000000 ∧ t.size ≤ 2000000 := fun t ht => by
    have h1 := Tm.byt_le ht
    have h2 := Tm.size_le_sizes ht
    omega
  have HB := Lib.hid hby2
  have HL := Lib.hid hl
  have HLL := Lib.hid hll
  clear hby2 hby hsz hl hll hk hn hs'
  obtain ⟨w1, hw1⟩ : ∃ w1, w1 = w.alloc (.cells #[.int .i64 k, .int .i64 n, .string s, .slice a ks.length cap] 24) := ⟨_, rfl⟩
  have hB1 : Below w.heap.size w w1 := by rw [hw1]; exact (Below.refl _ w).alloc (Nat.le_refl _) _
  have hbox : w1.heap[w.heap.size]? = some (.cells #[.int .i64 k, .int .i64 n, .string s, .slice a ks.length cap] 24 (0, 0)) := by rw [hw1]; exact World.alloc_heap_new _ _
  obtain ⟨p0, p1, p2, p3⟩ := tbox_cells hbox
  go_enter Tryz.func8, Tryz.ntmps8
  go_upto_region 1 with fail
  rw [← hw1]
  clear hw1
  go_wp2_with fail
  go_loopg [3] s.size (fun g z wr => ∃ j : Nat, z = .int .i64 j ∧ g + j = s.size ∧ (l.take j).any lowC = false ∧ wr = w1)
  case atStart => exact ⟨0, rfl, by omega, by simp, rfl⟩
  case round =>
    obtain ⟨j, rfl, hgj, hno, hwr⟩ := hrel
    have hwr := hwr.symm
    subst hwr
    have HNO := Lib.hid hno
    clear hno
    cases gk with
    | zero =>
      have hjj : ¬ ((j : Int) < (s.size : Int)) := by omega
      go_wp2_with fail
      have HN2 := Lib.hid (show l.any lowC = false by have := HNO.out; rwa [List.take_of_length_le (by rw [← HLL.out]; omega)] at this)
      have HL1 := HN2
      clear HNO HN2 hgj hjj
      go_loopg [4] ks.length (fun g z wr => ∃ i : Nat, z = .int .i64 i ∧ g + i = ks.length ∧ (ks.take i).any Tm.atb = false ∧ Below w1.heap.size w1 wr)
      case atStart => exact ⟨0, rfl, by omega, by simp, Below.refl _ _⟩
      case round =>
        obtain ⟨i, rfl, hgi, hno, hB⟩ := hrel
        have HNO := Lib.hid hno
        clear hno
        have hwr : Below w.heap.size w wr := hB1.trans (hB.mono hB1.size)
        obtain ⟨b0, b1, b2, b3⟩ := tbox_cells (tbox_below hbox hB)
        cases gk with
        | zero =>
          have hii : ¬ ((i : Int) < (ks.length : Int)) := by omega
          have HN2 := Lib.hid (show ks.any Tm.atb = false by have := HNO.out; rwa [List.take_of_length_le (by omega)] at this)
          clear ih
          go_wp2_with fail
          go_ret
          exact ⟨congrArg (fun b => Ending.returned (Value.bool b)) (by rw [HL1.out, HN2.out]; rfl), hwr⟩
        | succ m =>
          have hlt : i < ks.length := by omega
          have hii : ((i : Int) < (ks.length : Int)) := by omega
          obtain ⟨b, o, k1, n1, s1, a1, l1, c1, T1, rfl, hbn, e0, e1, e2, e3, hT1, ht1⟩ := IsTm.kid hv i hlt
          have q0 := (hwr.cell (p := ⟨b, o + i * 4, none⟩) hbn).trans e0
          have q1 := (hwr.cell (p := ⟨b, o + i * 4 + 1, none⟩) hbn).trans e1
          have q2 := (hwr.cell (p := ⟨b, o + i * 4 + 2, none⟩) hbn).trans e2
          have q3 := (hwr.cell (p := ⟨b, o + i * 4 + 3, none⟩) hbn).trans e3
          obtain ⟨z1, z2⟩ := HB.out T1 (List.mem_of_getElem? hT1)
          have hih := (ih T1 (List.mem_of_getElem? hT1) _ wr (IsTm.later hwr hwr.size ht1) z1 z2).mono (R' := fun e w2 => e = .returned (.bool T1.atb) ∧ Below w1.heap.size w1 w2) (fun e w2 h => ⟨h.1, hB.trans (h.2.mono hB.size)⟩)
          have HT1 := Lib.hid hT1
          clear ih hv e0 e1 e2 e3 ht1 z1 z2 hT1
          cases hb1 : T1.atb with
          | true =>
            rw [hb1] at hih
            have HN2 := Lib.hid (any_mem HT1.out hb1)
            clear hb1
            go_wp2_with (go_at_call 8; refine hih.mono ?_; rintro e w2 ⟨rfl, hB2⟩)
            go_ret
            exact ⟨congrArg (fun b => Ending.returned (Value.bool b)) (by rw [HN2.out, Bool.or_true]), hB1.trans (hB2.mono hB1.size)⟩
          | false =>
            rw [hb1] at hih
            have HN2 := Lib.hid (any_take HNO.out HT1.out hb1)
            clear hb1
            go_wp2_with (go_at_call 8; refine hih.mono ?_; rintro e w2 ⟨rfl, hB2⟩)
            go_roundg m
            case measure => omega
            case rel => exact ⟨i + 1, by simp, by omega, HN2.out, hB2⟩
    | succ m =>
      have hlt : j < s.size := by omega
      have hjj : ((j : Int) < (s.size : Int)) := by omega
      obtain ⟨c, hc, hg⟩ := get_of HL.out hlt
      have HC := Lib.hid hc
      clear hc ih hv
      cases hlow : lowC c with
      | true =>
        have HN2 := Lib.hid (any_mem HC.out hlow)
        have h32 : (c.toNat : Int) < 32 := by
          unfold lowC at hlow
          simp only [Bool.and_eq_true, decide_eq_true_eq] at hlow
          omega
        have h10 : ((c.toNat : Int) == 10) = false := by
          unfold lowC at hlow
          simp only [Bool.and_eq_true, decide_eq_true_eq] at hlow
          exact ne_int (c := c) (d := 10) hlow.2
        clear hlow
        go_wp2_with fail
        go_ret
        exact ⟨congrArg (fun b => Ending.returned (Value.bool b)) (by rw [HN2.out, Bool.true_or]), hB1⟩
      | false =>
        have HN2 := Lib.hid (any_take HNO.out HC.out hlow)
        by_cases h32 : (c.toNat : Int) < 32
        · have h10 : c = 10 := by
            unfold lowC at hlow
            simp only [Bool.and_eq_false_iff, decide_eq_false_iff_not] at hlow
            rcases hlow with h | h
            · omega
            · exact Classical.not_not.1 h
          subst h10
          clear hlow
          go_wp2_with fail
          go_roundg m
          case measure => omega
          case rel => exact ⟨j + 1, by simp, by omega, HN2.out, rfl⟩
        · clear hlow
          go_wp2_with fail
          go_roundg m
          case measure => omega
          case rel => exact ⟨j + 1, by simp, by omega, HN2.out, rfl⟩
set_option maxRecDepth 100000 in
set_option maxHeartbeats 4000000 in
theorem at_c2 (k n : Int) (s : ByteArray) (ks : List Tm) (ih : ∀ t ∈ ks, AtOk t) (hk3 : k = 3) (h64 : s.data.toList ≠ [64]) : AtOk (.mk k n s ks) := by
  intro v w hv hby hsz
  have hatb : (Tm.mk k n s ks).atb = (s.data.toList.any lowC || ks.any Tm.atb) := by
    rw [Tm.atb_mk]
    have : (decide (k = 3) && decide (s.data.toList = [64]) && decide (ks.length = 2)) = false := by simp [h64]
    rw [this, Bool.false_or]
  rw [hatb]
  clear hatb
  obtain ⟨k_, n_, s_, a, len, cap, ks_, rfl, e, rfl, hk, hn, hs', hc, hm, ha⟩ := hv.form
  injection e with e1 e2 e3 e4
  subst e1 e2 e3 e4
  rw [Tm.byt_mk] at hby
  rw [Tm.size_mk] at hsz
  have hlen : ks.length ≤ 2000000 := by have := Tm.length_le_sizes ks; omega
  have hss : s.size ≤ 2000000 := by omega
  obtain ⟨l, hl⟩ : ∃ l, s.data.toList = l := ⟨_, rfl⟩
  rw [hl]
  have hll := len_of hl
  have hk3' : (k == 3) = true := by simp [hk3]
  clear hk3
  have h64' := toList_beq hl [64]; rw [← hl, decide_eq_false h64] at h64'; clear h64
  have hby2 : ∀ t ∈ ks, t.byt ≤ 2000000 ∧ t.size ≤ 2000000 := fun t ht => by
    have h1 := Tm.byt_le ht
    have h2 := Tm.size_le_sizes ht
    omega
  have HB := Lib.hid hby2
  have HL := Lib.hid hl
  have HLL := Lib.hid hll
  clear hby2 hby hsz hl hll hk hn hs'
  obtain ⟨w1, hw1⟩ : ∃ w1, w1 = w.alloc (.cells #[.int .i64 k, .int .i64 n, .string s, .slice a ks.length cap] 24) := ⟨_, rfl⟩
  have hB1 : Below w.heap.size w w1 := by rw [hw1]; exact (Below.refl _ w).alloc (Nat.le_refl _) _
  have hbox : w1.heap[w.heap.size]? = some (.cells #[.int .i64 k, .int .i64 n, .string s, .slice a ks.length cap] 24 (0, 0)) := by rw [hw1]; exact World.alloc_heap_new _ _
  obtain ⟨p0, p1, p2, p3⟩ := tbox_cells hbox
  go_enter Tryz.func8, Tryz.ntmps8
  go_upto_region 1 with fail
  rw [← hw1]
  clear hw1
  go_wp2_with fail
  go_loopg [3] s.size (fun g z wr => ∃ j : Nat, z = .int .i64 j ∧ g + j = s.size ∧ (l.take j).any lowC = false ∧ wr = w1)
  case atStart => exact ⟨0, rfl, by omega, by simp, rfl⟩
  case round =>
    obtain ⟨j, rfl, hgj, hno, hwr⟩ := hrel
    have hwr := hwr.symm
    subst hwr
    have HNO := Lib.hid hno
    clear hno
    cases gk with
    | zero =>
      have hjj : ¬ ((j : Int) < (s.size : Int)) := by omega
      go_wp2_with fail
      have HN2 := Lib.hid (show l.any lowC = false by have := HNO.out; rwa [List.take_of_length_le (by rw [← HLL.out]; omega)] at this)
      have HL1 := HN2
      clear HNO HN2 hgj hjj
      go_loopg [4] ks.length (fun g z wr => ∃ i : Nat, z = .int .i64 i ∧ g + i = ks.length ∧ (ks.take i).any Tm.atb = false ∧ Below w1.heap.size w1 wr)
      case atStart => exact ⟨0, rfl, by omega, by simp, Below.refl _ _⟩
      case round =>
        obtain ⟨i, rfl, hgi, hno, hB⟩ := hrel
        have HNO := Lib.hid hno
        clear hno
        have hwr : Below w.heap.size w wr := hB1.trans (hB.mono hB1.size)
        obtain ⟨b0, b1, b2, b3⟩ := tbox_cells (tbox_below hbox hB)
        cases gk with
        | zero =>
          have hii : ¬ ((i : Int) < (ks.length : Int)) := by omega
          have HN2 := Lib.hid (show ks.any Tm.atb = false by have := HNO.out; rwa [List.take_of_length_le (by omega)] at this)
          clear ih
          go_wp2_with fail
          go_ret
          exact ⟨congrArg (fun b => Ending.returned (Value.bool b)) (by rw [HL1.out, HN2.out]; rfl), hwr⟩
        | succ m =>
          have hlt : i < ks.length := by omega
          have hii : ((i : Int) < (ks.length : Int)) := by omega
          obtain ⟨b, o, k1, n1, s1, a1, l1, c1, T1, rfl, hbn, e0, e1, e2, e3, hT1, ht1⟩ := IsTm.kid hv i hlt
          have q0 := (hwr.cell (p := ⟨b, o + i * 4, none⟩) hbn).trans e0
          have q1 := (hwr.cell (p := ⟨b, o + i * 4 + 1, none⟩) hbn).trans e1
          have q2 := (hwr.cell (p := ⟨b, o + i * 4 + 2, none⟩) hbn).trans e2
          have q3 := (hwr.cell (p := ⟨b, o + i * 4 + 3, none⟩) hbn).trans e3
          obtain ⟨z1, z2⟩ := HB.out T1 (List.mem_of_getElem? hT1)
          have hih := (ih T1 (List.mem_of_getElem? hT1) _ wr (IsTm.later hwr hwr.size ht1) z1 z2).mono (R' := fun e w2 => e = .returned (.bool T1.atb) ∧ Below w1.heap.size w1 w2) (fun e w2 h => ⟨h.1, hB.trans (h.2.mono hB.size)⟩)
          have HT1 := Lib.hid hT1
          clear ih hv e0 e1 e2 e3 ht1 z1 z2 hT1
          cases hb1 : T1.atb with
          | true =>
            rw [hb1] at hih
            have HN2 := Lib.hid (any_mem HT1.out hb1)
            clear hb1
            go_wp2_with (go_at_call 8; refine hih.mono ?_; rintro e w2 ⟨rfl, hB2⟩)
            go_ret
            exact ⟨congrArg (fun b => Ending.returned (Value.bool b)) (by rw [HN2.out, Bool.or_true]), hB1.trans (hB2.mono hB1.size)⟩
          | false =>
            rw [hb1] at hih
            have HN2 := Lib.hid (any_take HNO.out HT1.out hb1)
            clear hb1
            go_wp2_with (go_at_call 8; refine hih.mono ?_; rintro e w2 ⟨rfl, hB2⟩)
            go_roundg m
            case measure => omega
            case rel => exact ⟨i + 1, by simp, by omega, HN2.out, hB2⟩
    | succ m =>
      have hlt : j < s.size := by omega
      have hjj : ((j : Int) < (s.size : Int)) := by omega
      obtain ⟨c, hc, hg⟩ := get_of HL.out hlt
      have HC := Lib.hid hc
      clear hc ih hv
      cases hlow : lowC c with
      | true =>
        have HN2 := Lib.hid (any_mem HC.out hlow)
        have h32 : (c.toNat : Int) < 32 := by
          unfold lowC at hlow
          simp only [Bool.and_eq_true, decide_eq_true_eq] at hlow
          omega
        have h10 : ((c.toNat : Int) == 10) = false := by
          unfold lowC at hlow
          simp only [Bool.and_eq_true, decide_eq_true_eq] at hlow
          exact ne_int (c := c) (d := 10) hlow.2
        clear hlow
        go_wp2_with fail
        go_ret
        exact ⟨congrArg (fun b => Ending.returned (Value.bool b)) (by rw [HN2.out, Bool.true_or]), hB1⟩
      | false =>
        have HN2 := Lib.hid (any_take HNO.out HC.out hlow)
        by_cases h32 : (c.toNat : Int) < 32
        · have h10 : c = 10 := by
            unfold lowC at hlow
            simp only [Bool.and_eq_false_iff, decide_eq_false_iff_not] at hlow
            rcases hlow with h | h
            · omega
            · exact Classical.not_not.1 h
          subst h10
          clear hlow
          go_wp2_with fail
          go_roundg m
          case measure => omega
          case rel => exact ⟨j + 1, by simp, by omega, HN2.out, rfl⟩
        · clear hlow
          go_wp2_with fail
          go_roundg m
          case measure => omega
          case rel => exact ⟨j + 1, by simp, by omega, HN2.out, rfl⟩
set_option maxRecDepth 100000 in
set_option maxHeartbeats 4000000 in
theorem at_c3 (k n : Int) (s : ByteArray) (ks : List Tm) (ih : ∀ t ∈ ks, AtOk t) (hk3 : k = 3) (h64 : s.data.toList = [64]) (h2 : ks.length ≠ 2) : AtOk (.mk k n s ks) := by
  intro v w hv hby hsz
  have hatb : (Tm.mk k n s ks).atb = (s.data.toList.any lowC || ks.any Tm.atb) := by
    rw [Tm.atb_mk]
    have : (decide (k = 3) && decide (s.data.toList = [64]) && decide (ks.length = 2)) = false := by simp [h2]
    rw [this, Bool.false_or]
  rw [hatb]
  clear hatb
  obtain ⟨k_, n_, s_, a, len, cap, ks_, rfl, e, rfl, hk, hn, hs', hc, hm, ha⟩ := hv.form
  injection e with e1 e2 e3 e4
  subst e1 e2 e3 e4
  rw [Tm.byt_mk] at hby
  rw [Tm.size_mk] at hsz
  have hlen : ks.length ≤ 2000000 := by have := Tm.length_le_sizes ks; omega
  have hss : s.size ≤ 2000000 := by omega
  obtain ⟨l, hl⟩ : ∃ l, s.data.toList = l := ⟨_, rfl⟩
  rw [hl]
  have hll := len_of hl
  have hk3' : (k == 3) = true := by simp [hk3]
  clear hk3
  have h64' := toList_beq hl [64]; rw [← hl, decide_eq_true h64] at h64'; clear h64; have h2' : ((ks.length : Int) == 2) = false := by simp; omega
  have hby2 : ∀ t ∈ ks, t.byt ≤ 2000000 ∧ t.size ≤ 2000000 := fun t ht => by
    have h1 := Tm.byt_le ht
    have h2 := Tm.size_le_sizes ht
    omega
  have HB := Lib.hid hby2
  have HL := Lib.hid hl
  have HLL := Lib.hid hll
  clear hby2 hby hsz hl hll hk hn hs'
  obtain ⟨w1, hw1⟩ : ∃ w1, w1 = w.alloc (.cells #[.int .i64 k, .int .i64 n, .string s, .slice a ks.length cap] 24) := ⟨_, rfl⟩
  have hB1 : Below w.heap.size w w1 := by rw [hw1]; exact (Below.refl _ w).alloc (Nat.le_refl _) _
  have hbox : w1.heap[w.heap.size]? = some (.cells #[.int .i64 k, .int .i64 n, .string s, .slice a ks.length cap] 24 (0, 0)) := by rw [hw1]; exact World.alloc_heap_new _ _
  obtain ⟨p0, p1, p2, p3⟩ := tbox_cells hbox
  go_enter Tryz.func8, Tryz.ntmps8
  go_upto_region 1 with fail
  rw [← hw1]
  clear hw1
  go_wp2_with fail
  go_loopg [3] s.size (fun g z wr => ∃ j : Nat, z = .int .i64 j ∧ g + j = s.size ∧ (l.take j).any lowC = false ∧ wr = w1)
  case atStart => exact ⟨0, rfl, by omega, by simp, rfl⟩
  case round =>
    obtain ⟨j, rfl, hgj, hno, hwr⟩ := hrel
    have hwr := hwr.symm
    subst hwr
    have HNO := Lib.hid hno
    clear hno
    cases gk with
    | zero =>
      have hjj : ¬ ((j : Int) < (s.size : Int)) := by omega
      go_wp2_with fail
      have HN2 := Lib.hid (show l.any lowC = false by have := HNO.out; rwa [List.take_of_length_le (by rw [← HLL.out]; omega)] at this)
      have HL1 := HN2
      clear HNO HN2 hgj hjj
      go_loopg [4] ks.length (fun g z wr => ∃ i : Nat, z = .int .i64 i ∧ g + i = ks.length ∧ (ks.take i).any Tm.atb = false ∧ Below w1.heap.size w1 wr)
      case atStart => exact ⟨0, rfl, by omega, by simp, Below.refl _ _⟩
      case round =>
        obtain ⟨i, rfl, hgi, hno, hB⟩ := hrel
        have HNO := Lib.hid hno
        clear hno
        have hwr : Below w.heap.size w wr := hB1.trans (hB.mono hB1.size)
        obtain ⟨b0, b1, b2, b3⟩ := tbox_cells (tbox_below hbox hB)
        cases gk with
        | zero =>
          have hii : ¬ ((i : Int) < (ks.length : Int)) := by omega
          have HN2 := Lib.hid (show ks.any Tm.atb = false by have := HNO.out; rwa [List.take_of_length_le (by omega)] at this)
          clear ih
          go_wp2_with fail
          go_ret
          exact ⟨congrArg (fun b => Ending.returned (Value.bool b)) (by rw [HL1.out, HN2.out]; rfl), hwr⟩
        | succ m =>
          have hlt : i < ks.length := by omega
          have hii : ((i : Int) < (ks.length : Int)) := by omega
          obtain ⟨b, o, k1, n1, s1, a1, l1, c1, T1, rfl, hbn, e0, e1, e2, e3, hT1, ht1⟩ := IsTm.kid hv i hlt
          have q0 := (hwr.cell (p := ⟨b, o + i * 4, none⟩) hbn).trans e0
          have q1 := (hwr.cell (p := ⟨b, o + i * 4 + 1, none⟩) hbn).trans e1
          have q2 := (hwr.cell (p := ⟨b, o + i * 4 + 2, none⟩) hbn).trans e2
          have q3 := (hwr.cell (p := ⟨b, o + i * 4 + 3, none⟩) hbn).trans e3
          obtain ⟨z1, z2⟩ := HB.out T1 (List.mem_of_getElem? hT1)
          have hih := (ih T1 (List.mem_of_getElem? hT1) _ wr (IsTm.later hwr hwr.size ht1) z1 z2).mono (R' := fun e w2 => e = .returned (.bool T1.atb) ∧ Below w1.heap.size w1 w2) (fun e w2 h => ⟨h.1, hB.trans (h.2.mono hB.size)⟩)
          have HT1 := Lib.hid hT1
          clear ih hv e0 e1 e2 e3 ht1 z1 z2 hT1
          cases hb1 : T1.atb with
          | true =>
            rw [hb1] at hih
            have HN2 := Lib.hid (any_mem HT1.out hb1)
            clear hb1
            go_wp2_with (go_at_call 8; refine hih.mono ?_; rintro e w2 ⟨rfl, hB2⟩)
            go_ret
            exact ⟨congrArg (fun b => Ending.returned (Value.bool b)) (by rw [HN2.out, Bool.or_true]), hB1.trans (hB2.mono hB1.size)⟩
          | false =>
            rw [hb1] at hih
            have HN2 := Lib.hid (any_take HNO.out HT1.out hb1)
            clear hb1
            go_wp2_with (go_at_call 8; refine hih.mono ?_; rintro e w2 ⟨rfl, hB2⟩)
            go_roundg m
            case measure => omega
            case rel => exact ⟨i + 1, by simp, by omega, HN2.out, hB2⟩
    | succ m =>
      have hlt : j < s.size := by omega
      have hjj : ((j : Int) < (s.size : Int)) := by omega
      obtain ⟨c, hc, hg⟩ := get_of HL.out hlt
      have HC := Lib.hid hc
      clear hc ih hv
      cases hlow : lowC c with
      | true =>
        have HN2 := Lib.hid (any_mem HC.out hlow)
        have h32 : (c.toNat : Int) < 32 := by
          unfold lowC at hlow
          simp only [Bool.and_eq_true, decide_eq_true_eq] at hlow
          omega
        have h10 : ((c.toNat : Int) == 10) = false := by
          unfold lowC at hlow
          simp only [Bool.and_eq_true, decide_eq_true_eq] at hlow
          exact ne_int (c := c) (d := 10) hlow.2
        clear hlow
        go_wp2_with fail
        go_ret
        exact ⟨congrArg (fun b => Ending.returned (Value.bool b)) (by rw [HN2.out, Bool.true_or]), hB1⟩
      | false =>
        have HN2 := Lib.hid (any_take HNO.out HC.out hlow)
        by_cases h32 : (c.toNat : Int) < 32
        · have h10 : c = 10 := by
            unfold lowC at hlow
            simp only [Bool.and_eq_false_iff, decide_eq_false_iff_not] at hlow
            rcases hlow with h | h
            · omega
            · exact Classical.not_not.1 h
          subst h10
          clear hlow
          go_wp2_with fail
          go_roundg m
          case measure => omega
          case rel => exact ⟨j + 1, by simp, by omega, HN2.out, rfl⟩
        · clear hlow
          go_wp2_with fail
          go_roundg m
          case measure => omega
          case rel => exact ⟨j + 1, by simp, by omega, HN2.out, rfl⟩
set_option maxRecDepth 100000 in
set_option maxHeartbeats 4000000 in
theorem at_c4 (n : Int) (s : ByteArray) (ks : List Tm) (hs64 : s.data.toList = [64]) (h2 : ks.length = 2) : AtOk (.mk 3 n s ks) := by
  intro v w hv hby hsz
  have hatb : (Tm.mk 3 n s ks).atb = true := by rw [Tm.atb_mk]; simp [hs64, h2]
  rw [hatb]
  obtain ⟨k_, n_, s_, a, len, cap, ks_, rfl, e, rfl, hk, hn, hs', hc, hm, ha⟩ := hv.form
  injection e with e1 e2 e3 e4
  subst e1 e2 e3 e4
  have hq := toList_beq hs64 [64]
  rw [h2] at *
  clear hatb hv hby hsz
  go_enter Tryz.func8, Tryz.ntmps8
  go_wp2_with fail
  go_ret
  exact ⟨rfl, (Below.refl _ w).alloc (Nat.le_refl _) _⟩
theorem at_ok (T : Tm) : AtOk T := by
  induction T using Tm.ind with
  | h k n s ks ih =>
    by_cases hk : k = 3
    · subst hk
      by_cases h64 : s.data.toList = [64]
      · by_cases h2 : ks.length = 2
        · exact at_c4 n s ks h64 h2
        · exact at_c3 3 n s ks ih rfl h64 h2
      · exact at_c2 3 n s ks ih rfl h64
    · exact at_c1 k n s ks ih hk
end Go.Proofs.YtfencolokfghfaaGreatDoor
