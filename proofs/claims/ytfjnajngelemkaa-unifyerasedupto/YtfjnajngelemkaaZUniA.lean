/-
  seal.Open where nothing stands behind the seals and the name: the list that is left is nil.
-/
import Derived.Test.YtfjnajngelemkaaZSeal6
namespace Go.Proofs.Ytfjnajngelemkaa
open Go.RowKit Go.Shelf
set_option linter.unusedVariables false
set_option linter.unusedSimpArgs false

set_option maxRecDepth 100000 in
set_option maxHeartbeats 2000000 in
theorem withKids_none (B1 : Nat) (k n : Int) (s : ByteArray) (v : Value) (w : World) (hv : Has w v (.mk k n s [])) :
    Calls Try.prog 52 #[v, .func (.func 96) #[] #[.pointer (some ⟨B1, 0, none⟩)]] w fun e w' => e = .returned (.agg #[.int .i64 k, .int .i64 n, .string s, .slice none 0 0]) ∧ Below w.heap.size w w' := by
  obtain ⟨k_, n_, s_, a, len, cap, ks_, rfl, e, rfl, hk, hn, hs', hlc, hcm, ha⟩ := hv.form
  injection e with e1 e2 e3 e4
  subst e1 e2 e3 e4
  obtain ⟨w2, hw2⟩ : ∃ w2, w2 = (w.alloc (.cells #[.int .i64 k, .int .i64 n, .string s, .slice a ([] : List Tm).length cap] 24)).alloc (.cells #[.int .i64 0, .int .i64 0, .string (ByteArray.mk #[]), .slice none 0 0] 24) := ⟨_, rfl⟩
  have hb2 : Below w.heap.size w w2 := by rw [hw2]; exact ((Below.refl _ w).alloc (Nat.le_refl _) _).alloc (by simp) _
  have hx1 : w2.heap[w.heap.size]? = some (.cells #[.int .i64 k, .int .i64 n, .string s, .slice a ([] : List Tm).length cap] 24 (0, 0)) := by rw [hw2]; exact (Below.heap_alloc _ _ _ (by simp)).trans (World.alloc_heap_new _ _)
  have hx2 : w2.heap[w.heap.size + 1]? = some (.cells #[.int .i64 0, .int .i64 0, .string (ByteArray.mk #[]), .slice none 0 0] 24 (0, 0)) := by rw [hw2]; simpa using World.alloc_heap_new (w.alloc (.cells #[.int .i64 k, .int .i64 n, .string s, .slice a ([] : List Tm).length cap] 24)) (.cells #[.int .i64 0, .int .i64 0, .string (ByteArray.mk #[]), .slice none 0 0] 24)
  have hz := zeroTerm
  have HW := Lib.hid (And.intro hw2 (And.intro hb2 (And.intro hx1 hx2)))
  clear hw2 hb2 hx1 hx2 hv
  go_enter Try.func52, Try.ntmps52
  go_wp2_with fail
  go_loopw [19] (fun i wr => i = .int .i64 0 ∧ wr = w2) (fun i _ => 0)
  case atStart => exact ⟨rfl, HW.out.1.symm⟩
  case round =>
    obtain ⟨rfl, rfl⟩ := hrel
    obtain ⟨x0, x1, x2, x3⟩ := tbox_cells HW.out.2.2.1
    obtain ⟨z0, z1, z2, z3⟩ := tbox_cells HW.out.2.2.2
    have xf : ∀ j, wr.frozen? ⟨w.heap.size, j, none⟩ = false := fun j => by simp [World.frozen?, HW.out.2.2.1]
    have zf : ∀ j, wr.frozen? ⟨w.heap.size + 1, j, none⟩ = false := fun j => by simp [World.frozen?, HW.out.2.2.2]
    go_wp2_with fail
    have h5 := boxed_result (w := w) ((Below.heap_setCell wr ⟨w.heap.size, 3, none⟩ (.slice none 0 0) (w.heap.size + 1) (by simp)).trans HW.out.2.2.2) ((noTs (fun _ => False) (wr.setCell ⟨w.heap.size, 3, none⟩ (.slice none 0 0))).term hk hn hs') (fun b hb => hb.elim) (HW.out.2.1.setCell (p := ⟨w.heap.size, 3, none⟩) (Nat.le_refl _) _) (Nat.le_succ _)
    generalize (((((wr.setCell ⟨w.heap.size, 3, none⟩ (.slice none 0 0)).setCell ⟨w.heap.size + 1, 0, none⟩ (.int .i64 k)).setCell ⟨w.heap.size + 1, 1, none⟩ (.int .i64 n)).setCell ⟨w.heap.size + 1, 2, none⟩ (.string s)).setCell ⟨w.heap.size + 1, 3, none⟩ (.slice none 0 0)) = w5 at h5 ⊢
    obtain ⟨hb5, h5⟩ := h5
    obtain ⟨f0, f1, f2, f3⟩ := tbox_cells hb5
    refine bodyPost_ret (v := .agg #[.int .i64 k, .int .i64 n, .string s, .slice none 0 0]) (by simp [results, Try.f52, go_sem, f0, f1, f2, f3]) rfl ?_
    obtain ⟨r, e, h6, h7⟩ := h5
    exact ⟨rfl, h7⟩

set_option maxRecDepth 100000 in
set_option maxHeartbeats 8000000 in
theorem open_bare_at (v : Value) (T : Tm) (w : World) (b N : Nat) (hL : ChainAt w b N) (hv : Has w v T) (hs : T.size ≤ 1000000000000) (hwt : T.wrapsT = true) (hkd : (T.strip Nat.max (lvC N) 0).1.kids = []) :
    Calls Try.prog 88 #[.pointer (some ⟨b, 0, none⟩), v] w fun e w' => e = .returned (.tuple #[.agg #[.int .i64 (T.strip Nat.max (lvC N) 0).1.kind, .int .i64 (T.strip Nat.max (lvC N) 0).1.num, .string (T.strip Nat.max (lvC N) 0).1.name, .slice none 0 0], .int .i64 ((T.strip Nat.max (lvC N) 0).2 : Int)]) ∧ Below w.heap.size w w' := by
  obtain ⟨O, hO⟩ : ∃ O, T.strip Nat.max (lvC N) 0 = O := ⟨_, rfl⟩
  rw [hO] at hkd ⊢
  have HO := Lib.hid hO
  clear hO
  obtain ⟨k, n, s, a, len, cap, ks, rfl, e, -⟩ := hv.form
  clear e
  obtain ⟨w1, hw1⟩ : ∃ w1, w1 = (w.alloc (.cells #[.int .i64 k, .int .i64 n, .string s, .slice a len cap] 24)).alloc (.cells #[.int .i64 0, .int .i64 0, .string (ByteArray.mk #[]), .slice none 0 0] 24) := ⟨_, rfl⟩
  have s1 : w1.heap.size = w.heap.size + 2 := by rw [hw1]; simp
  have b1 : Below w.heap.size w w1 := by rw [hw1]; exact ((Below.refl _ w).alloc (Nat.le_refl _) _).alloc (by simp) _
  have x1 : w1.heap[w.heap.size]? = some (.cells #[.int .i64 k, .int .i64 n, .string s, .slice a len cap] 24 (0, 0)) := by rw [hw1]; exact (Below.heap_alloc _ _ _ (by simp)).trans (World.alloc_heap_new _ _)
  have x2 : w1.heap[w.heap.size + 1]? = some (.cells #[.int .i64 0, .int .i64 0, .string (ByteArray.mk #[]), .slice none 0 0] 24 (0, 0)) := by rw [hw1]; simpa using World.alloc_heap_new (w.alloc (.cells #[.int .i64 k, .int .i64 n, .string s, .slice a len cap] 24)) (.cells #[.int .i64 0, .int .i64 0, .string (ByteArray.mk #[]), .slice none 0 0] 24)
  have hL1 := hL.below b1
  have hbot := (ch_bottom hL1).mono (R' := fun e w' => e = .returned (.int .i64 0) ∧ Below w1.heap.size w1 w') (fun e w' h => h.below)
  have hz := zeroTerm
  have hzi := zeroInt
  have hmf : ∀ (fn : Fn) (first cap : Array Value) (w : World), (Instr.makeFunc fn first cap).run Try.prog w = .ok (.func fn first cap) w := fun _ _ _ _ => rfl
  have HH := Lib.hid (And.intro hw1 (And.intro s1 (And.intro b1 (And.intro x1 (And.intro x2 (And.intro hL1 hv))))))
  clear s1 b1 x1 x2 hL1 hv
  subst hw1
  go_enter Try.func88, Try.ntmps88
  go_wp2_with fail
  refine hbot.mono ?_
  clear hbot
  rintro e w2 ⟨rfl, hb12⟩
  obtain ⟨-, s1, b1, x1, x2, hL1, hv⟩ := HH.out
  generalize hW1 : ((w.alloc (.cells #[.int .i64 k, .int .i64 n, .string s, .slice a len cap] 24)).alloc (.cells #[.int .i64 0, .int .i64 0, .string (ByteArray.mk #[]), .slice none 0 0] 24)) = w1 at *
  have b2 : Below w.heap.size w w2 := b1.trans (hb12.mono b1.size)
  obtain ⟨w3, hw3⟩ : ∃ w3, w3 = w2.alloc (.cells #[.int .i64 0] 3) := ⟨_, rfl⟩
  have b23 : Below w2.heap.size w2 w3 := by rw [hw3]; exact (Below.refl _ _).alloc (Nat.le_refl _) _
  have b13 : Below w1.heap.size w1 w3 := hb12.trans (b23.mono hb12.size)
  have b3 : Below w.heap.size w w3 := b2.trans (b23.mono b2.size)
  have l3 : w3.heap[w2.heap.size]? = some (.cells #[.int .i64 0] 3 (0, 0)) := by rw [hw3]; exact World.alloc_heap_new _ _
  have hs2 : w.heap.size + 2 ≤ w2.heap.size := by have := hb12.size; omega
  have s3 : w3.heap.size = w2.heap.size + 1 := by rw [hw3]; simp
  have y1 := tbox_below x1 b13
  have y2 := tbox_below x2 b13
  have hv3 := Has.below hv b3
  have hL3 := hL1.below b13
  have hwr := (wraps_at _ T w3 hv3).mono (R' := fun e w' => e = .returned (.bool T.wrapsT) ∧ Below w3.heap.size w3 w') (fun e w' h => h)
  obtain ⟨z0, z1, z2, z3⟩ := tbox_cells y1
  have HK := Lib.hid (And.intro b3 (And.intro y1 (And.intro y2 (And.intro hv3 (And.intro hL3 (And.intro l3 (And.intro hs2 (And.intro s3 hv))))))))
  clear HH s1 b1 x1 x2 hL1 hv hb12 b2 b23 b13 b3 l3 hs2 y1 y2 hv3 hL3 hW1 s3
  rw [hw3] at hwr z0 z1 z2 z3
  have HW3 := Lib.hid hw3
  clear hw3
  rw [hwt] at hwr
  have hO := Lib.hid HO.out.symm
  go_wp2_with (go_at_call 51; refine hwr.mono ?_; clear hwr; rintro e w4 ⟨rfl, hb34⟩)
  rw [← HW3.out] at hb34
  obtain ⟨b3, y1, y2, hv3, hL3, l3, hs2, s3, hv⟩ := HK.out
  have b4 : Below w.heap.size w w4 := b3.trans (hb34.mono b3.size)
  have HM := Lib.hid (And.intro b4 (And.intro (tbox_below y2 hb34) (And.intro (hL3.below hb34) (And.intro (show w2.heap.size + 1 ≤ w4.heap.size by have := hb34.size; omega) (And.intro hs2 hL)))))
  have HA := Lib.hid (And.intro (tbox_below y1 hb34) (And.intro (IsTm.later b4 (Nat.le_refl _) hv) (And.intro (one_below l3 hb34) hL.pos)))
  clear HK HW3 b3 y1 y2 hv3 hL3 l3 hs2 s3 hv b4 hb34 z0 z1 z2 z3 hL hwt
  go_loopw [] (fun wr => ∃ (k' n' : Int) (s' : ByteArray) (a' : Option Addr) (l' c' : Nat) (T' : Tm) (j : Nat), wr.heap[w.heap.size]? = some (.cells #[.int .i64 k', .int .i64 n', .string s', .slice a' l' c'] 24 (0, 0)) ∧ IsTm w.heap.size wr (.agg #[.int .i64 k', .int .i64 n', .string s', .slice a' l' c']) T' ∧ wr.heap[w2.heap.size]? = some (.cells #[.int .i64 (j : Int)] 3 (0, 0)) ∧ j < N ∧ T'.strip Nat.max (lvC N) j = T.strip Nat.max (lvC N) 0 ∧ But2 w4 w.heap.size w2.heap.size wr ∧ T'.size ≤ T.size)
    (fun wr => Classical.epsilon (fun m : Nat => ∃ (c : Array Value) (T : Tm), wr.heap[w.heap.size]? = some (.cells c 24 (0, 0)) ∧ IsTm w.heap.size wr (.agg c) T ∧ T.size = m))
  case atStart => exact ⟨k, n, s, a, len, cap, T, 0, HA.out.1, HA.out.2.1, HA.out.2.2.1, HA.out.2.2.2, rfl, But2.refl _ _ _, Nat.le_refl _⟩
  case round =>
    obtain ⟨k', n', s', a', l', c', T', j, ht, hT', hlv, hj, hst, hu, hle⟩ := hrel
    obtain ⟨b4, g2, hL4, hs4, hs2, hL⟩ := HM.out
    have hnr : w.heap.size ≤ wr.heap.size := Nat.le_trans b4.size hu.size
    have hLr : ChainAt wr b N := by
      have := hL.lt
      exact hL4.same (hu.same b hL4.lt (by omega) (by omega)) hu.size
    have hwr := (wraps_at _ T' wr (hT'.has hnr)).mono (R' := fun e w' => e = .returned (.bool T'.wrapsT) ∧ Below wr.heap.size wr w') (fun e w' h => h)
    obtain ⟨z0, z1, z2, z3⟩ := tbox_cells ht
    obtain ⟨k0, n0', s0, a0, len0, cap0, ks0, e, rfl, hl0, hk0, hn0, hs0, -⟩ := hT'.form
    simp only [Value.agg.injEq, Array.mk.injEq, List.cons.injEq, Value.int.injEq, Value.string.injEq, Value.slice.injEq, true_and, and_true] at e
    obtain ⟨rfl, rfl, rfl, rfl, rfl, rfl⟩ := e
    subst hl0
    by_cases hw : k' = 4 ∧ ks0.length = 1
    · have ew : (Tm.mk k' n' s' ks0).wrapsT = true := decide_eq_true hw
      rw [ew] at hwr
      obtain ⟨t1, rfl, rfl⟩ := wraps_form (n := n') (s := s') hw
      obtain ⟨b', o, k1, n1, s1, a1, l1, c1, T1, rfl, hbn, e0, e1, e2, e3, hT1, ht1⟩ := IsTm.kid hT' 0 (by simp)
      have eT : T1 = t1 := by simpa using hT1.symm
      subst eT
      simp only [Nat.zero_mul, Nat.add_zero] at e0 e1 e2 e3
      have HR := Lib.hid (And.intro ht (And.intro hT' (And.intro hlv (And.intro hj (And.intro hst (And.intro hu (And.intro hle (And.intro hnr (And.intro hLr (And.intro e0 (And.intro e1 (And.intro e2 (And.intro e3 ht1)))))))))))))
      have HS2 := Lib.hid (And.intro hs2 (And.intro hs4 hbn))
      clear ht hT' hlv hj hst hu hle hnr hLr e0 e1 e2 e3 hT1 ht1 b4 g2 hL4 hs4 hs2 hL ew hw hbn
      go_wp2_with (go_at_call 51; refine hwr.mono ?_; clear hwr; rintro e w5 ⟨rfl, hb5⟩)
      clear z0 z1 z2 z3
      obtain ⟨ht, hT', hlv, hj, hst, hu, hle, hnr, hLr, e0, e1, e2, e3, ht1⟩ := HR.out
      obtain ⟨hs2, hs4, hbn⟩ := HS2.out
      obtain ⟨I, inst, F, n0, hF0, hFb, hFc⟩ := later_family w5
      have hFr : ∀ i, Below wr.heap.size wr (F i) := fun i => hb5.trans ((hFb i).mono hb5.size)
      have K0 := fun i => (tbox_cells (tbox_below ht (hFr i))).1
      have K1 := fun i => (tbox_cells (tbox_below ht (hFr i))).2.1
      have K2 := fun i => (tbox_cells (tbox_below ht (hFr i))).2.2.1
      have K3 := fun i => (tbox_cells (tbox_below ht (hFr i))).2.2.2
      have K5 := fun i => one_cell (one_below hlv (hFr i))
      have K6 := fun i => one_free (one_below hlv (hFr i))
      have C1 := Lib.hid (fun i => calls_fam hFc i (level_at _ 4 n' s' [T1] (F i) b N (hLr.below (hFr i)) (Has.below (hT'.has hnr) (hFr i))))
      have hlt := lvC_lt hLr.pos n'
      have C2 := Lib.hid (fun i => calls_fam hFc i ((ch_join (hLr.below (hFr i)) (x := j) (y := lvC N n') hj hlt).mono fun _ _ h => gets_of_reads h))
      have hJ : max j (lvC N n') < N := by omega
      rw [Tm.strip_wraps, show Nat.max j (lvC N n') = max j (lvC N n') from rfl] at hst
      obtain ⟨j1, hj1⟩ : ∃ j1, max j (lvC N n') = j1 := ⟨_, rfl⟩
      rw [hj1] at C2 hJ hst
      have HN := Lib.hid (And.intro hFr (And.intro hJ hst))
      clear ht hT' hlv hj hst hu hle hnr hLr e0 e1 e2 e3 ht1 hs2 hs4 hb5 hFb hFc hlt hj1 hJ hFr hbn
      refine wp_region_fam_last F n0 6 _ hF0 (by kernel_rfl) (by kernel_rfl) (by kernel_rfl) rfl ?_
      clear hF0
      simp only [List.take_succ_cons, List.take_zero]
      repeat (go_big_quiet_step (first | (go_at_call 70; exact C1.out _) | (go_at_call 61; exact C2.out _)))
      refine wpQuiet_nil ?_
      intro _ hw'
      obtain ⟨nq, hw''⟩ := hw'
      subst hw''
      have k5 := K5 nq
      have k6 := K6 nq
      clear K0 K1 K2 K3 K5 K6 C1 C2
      obtain ⟨ht, hT', hlv, hj, hst', hu, hle, hnr, hLr, e0, e1, e2, e3, ht1⟩ := HR.out
      obtain ⟨hs2, hs4, hbn⟩ := HS2.out
      obtain ⟨hFr, hJ, hst⟩ := HN.out
      have hr := hFr nq
      have hsz : w2.heap.size + 1 ≤ (F nq).heap.size := by have := hr.size; have := hu.size; omega
      have box : ((F nq).setCell ⟨w2.heap.size, 0, none⟩ (.int .i64 (j1 : Int))).heap[w.heap.size]? = _ := (Below.heap_setCell (F nq) ⟨w2.heap.size, 0, none⟩ (.int .i64 (j1 : Int)) w.heap.size (by simp; omega)).trans (tbox_below ht hr)
      have lev := set_block (o := 0) (one_below hlv hr) (.int .i64 (j1 : Int))
      obtain ⟨m0, m1, m2, m3⟩ := tbox_cells box
      have mf : ∀ i, ((F nq).setCell ⟨w2.heap.size, 0, none⟩ (.int .i64 (j1 : Int))).frozen? ⟨w.heap.size, i, none⟩ = false := fun i => by simp only [World.frozen?, box]; simp
      have other : ∀ i v, wr.cell? ⟨b', i, none⟩ = some v → ((F nq).setCell ⟨w2.heap.size, 0, none⟩ (.int .i64 (j1 : Int))).cell? ⟨b', i, none⟩ = some v := fun i v hc =>
        (World.cell?_of_block (a := ⟨b', i, none⟩) (Below.heap_setCell (F nq) ⟨w2.heap.size, 0, none⟩ (.int .i64 (j1 : Int)) b' (by simp; omega))).trans ((hr.cell (p := ⟨b', i, none⟩) (by show b' < _; omega)).trans hc)
      have p0 := other _ _ e0
      have p1 := other _ _ e1
      have p2 := other _ _ e2
      have p3 := other _ _ e3
      have hu' : But2 w4 w.heap.size w2.heap.size ((F nq).setCell ⟨w2.heap.size, 0, none⟩ (.int .i64 (j1 : Int))) := (hu.below hr).set2 0 _
      have hT1 : IsTm w.heap.size ((F nq).setCell ⟨w2.heap.size, 0, none⟩ (.int .i64 (j1 : Int))) (.agg #[.int .i64 k1, .int .i64 n1, .string s1, .slice a1 l1 c1]) T1 :=
        TmIn.carry (fun x hx => (Below.heap_setCell (F nq) ⟨w2.heap.size, 0, none⟩ (.int .i64 (j1 : Int)) x (by have : x < w.heap.size := hx; simp; omega)).trans (hr.block x (by have : x < w.heap.size := hx; omega))) (fun x hx => hx) ht1
      have hsm : T1.size < (Tm.mk 4 n' s' [T1]).size := by rw [Tm.size_mk, Tm.sizes_cons]; omega
      have HZ := Lib.hid (And.intro box (And.intro lev (And.intro hu' (And.intro hT1 (And.intro hJ (And.intro hst (And.intro hsm (And.intro hle (And.intro ht (And.intro hT' (And.intro hs2 hs4)))))))))))
      clear ht hT' hlv hj hst hu hle hnr hLr e0 e1 e2 e3 ht1 hs2 hs4 hr hsz box lev other hu' hT1 hsm hFr hJ HR HS2 HN hst' hbn
      go_wp2_with fail
      obtain ⟨box, lev, hu', hT1, hJ, hst, hsm, hle, ht, hT', hs2, hs4⟩ := HZ.out
      have box' := four_block box (.int .i64 k1) (.int .i64 n1) (.string s1) (.slice a1 l1 c1)
      have oth' : ∀ x, x ≠ w.heap.size → ((((((F nq).setCell ⟨w2.heap.size, 0, none⟩ (.int .i64 (j1 : Int))).setCell ⟨w.heap.size, 0, none⟩ (.int .i64 k1)).setCell ⟨w.heap.size, 1, none⟩ (.int .i64 n1)).setCell ⟨w.heap.size, 2, none⟩ (.string s1)).setCell ⟨w.heap.size, 3, none⟩ (.slice a1 l1 c1)).heap[x]? = _ := fun x hx => by
        rw [Below.heap_setCell _ _ _ _ (by simpa using hx), Below.heap_setCell _ _ _ _ (by simpa using hx), Below.heap_setCell _ _ _ _ (by simpa using hx), Below.heap_setCell _ _ _ _ (by simpa using hx)]
      have hu'' := (((hu'.set1 0 (.int .i64 k1)).set1 1 (.int .i64 n1)).set1 2 (.string s1)).set1 3 (.slice a1 l1 c1)
      have hT1' : IsTm w.heap.size ((((((F nq).setCell ⟨w2.heap.size, 0, none⟩ (.int .i64 (j1 : Int))).setCell ⟨w.heap.size, 0, none⟩ (.int .i64 k1)).setCell ⟨w.heap.size, 1, none⟩ (.int .i64 n1)).setCell ⟨w.heap.size, 2, none⟩ (.string s1)).setCell ⟨w.heap.size, 3, none⟩ (.slice a1 l1 c1)) (.agg #[.int .i64 k1, .int .i64 n1, .string s1, .slice a1 l1 c1]) T1 := TmIn.carry (fun x hx => oth' x (by have : x < w.heap.size := hx; omega)) (fun x hx => hx) hT1
      have lev' := (oth' w2.heap.size (by omega)).trans lev
      generalize ((((((F nq).setCell ⟨w2.heap.size, 0, none⟩ (.int .i64 (j1 : Int))).setCell ⟨w.heap.size, 0, none⟩ (.int .i64 k1)).setCell ⟨w.heap.size, 1, none⟩ (.int .i64 n1)).setCell ⟨w.heap.size, 2, none⟩ (.string s1)).setCell ⟨w.heap.size, 3, none⟩ (.slice a1 l1 c1)) = w6 at box' oth' hu'' hT1' lev' ⊢
      refine ⟨⟨k1, n1, s1, a1, l1, c1, T1, j1, box', hT1', lev', hJ, hst, hu'', by omega⟩, ?_⟩
      rw [meas_eq box' hT1', meas_eq ht hT']
      exact hsm
    · have ew : (Tm.mk k' n' s' ks0).wrapsT = false := decide_eq_false hw
      rw [ew] at hwr
      rw [Tm.strip_else hw] at hst
      have hO2 := hO.out.trans hst.symm
      have HKS := Lib.hid (show ks0 = [] by rw [hO2] at hkd; exact hkd)
      clear hkd
      have HO2 := Lib.hid hO2
      have HR := Lib.hid (And.intro ht (And.intro hT' (And.intro hlv (And.intro hj (And.intro hu (And.intro hle (And.intro hnr (And.intro hs2 (And.intro hs4 (And.intro b4 g2))))))))))
      clear ht hT' hlv hj hst hu hle hnr hLr b4 g2 hL4 hs4 hs2 hL ew hw hO hO2
      go_wp2_with (go_at_call 51; refine hwr.mono ?_; clear hwr; rintro e w5 ⟨rfl, hb5⟩)
      clear z0 z1 z2 z3
      obtain ⟨ht, hT', hlv, hj, hu, hle, hnr, hs2, hs4, b4, g2⟩ := HR.out
      have ht5 := tbox_below ht hb5
      have hl5 := one_below hlv hb5
      have hsr : w2.heap.size + 1 ≤ wr.heap.size := by have := hu.size; omega
      have hs5 : w2.heap.size + 1 ≤ w5.heap.size := by have := hb5.size; omega
      have br : Below w.heap.size w wr := b4.trans (hu.isBelow (Nat.le_refl _) (by omega) b4.size)
      have b5 : Below w.heap.size w w5 := br.trans (hb5.mono br.size)
      have g5 := tbox_below ((hu.same (w.heap.size + 1) (by omega) (by omega) (by omega)).trans g2) hb5
      obtain ⟨q0, q1, q2, q3⟩ := tbox_cells ht5
      have HS : ∀ w', But w5 (w.heap.size + 1) w' → (w'.cell? ⟨w.heap.size, 0, none⟩ = some (.int .i64 k') ∧ w'.cell? ⟨w.heap.size, 1, none⟩ = some (.int .i64 n') ∧ w'.cell? ⟨w.heap.size, 2, none⟩ = some (.string s') ∧ w'.cell? ⟨w.heap.size, 3, none⟩ = some (.slice a' ks0.length c') ∧ w'.cell? ⟨w2.heap.size, 0, none⟩ = some (.int .i64 (j : Int)) ∧ But w5 (w.heap.size + 1) w') := fun w' h =>
        ⟨h.cell q0 (by omega) (by omega), h.cell q1 (by omega) (by omega), h.cell q2 (by omega) (by omega), h.cell q3 (by omega) (by omega), h.cell (one_cell hl5) (by omega) (by omega), h⟩
      have hdr : Below w5.heap.size w5 w5.drew := (Below.refl _ _).drew
      have hjo : i64ok (j : Int) := by have := HA.out.2.2.2; unfold i64ok; have : N ≤ 16 := HM.out.2.2.1.le; omega
      have hkl : ∀ t ∈ ks0, t.size ≤ 1000000000000 := fun t ht => by have := Tm.size_le_sizes ht; rw [Tm.size_mk] at hle; omega
      have hkn : ks0.length ≤ 1000000000000 := by have := Tm.length_le_sizes ks0; rw [Tm.size_mk] at hle; omega
      have hnew : ∀ w6, Below w5.heap.size w5 w6 → Calls Try.prog 52 #[.agg #[.int .i64 k', .int .i64 n', .string s', .slice a' ks0.length c'], .func (.func 96) #[] #[.pointer (some ⟨w2.heap.size, 0, none⟩)]] w6 fun e w7 => e = .returned (.agg #[.int .i64 k', .int .i64 n', .string s', .slice none 0 0]) ∧ w7.cell? ⟨w.heap.size + 1, 0, none⟩ = some (.int .i64 0) ∧ w7.cell? ⟨w.heap.size + 1, 1, none⟩ = some (.int .i64 0) ∧ w7.cell? ⟨w.heap.size + 1, 2, none⟩ = some (.string (ByteArray.mk #[])) ∧ w7.cell? ⟨w.heap.size + 1, 3, none⟩ = some (.slice none 0 0) ∧ (∀ j, w7.frozen? ⟨w.heap.size + 1, j, none⟩ = false) ∧
          w7.heap[w.heap.size + 1]? = some (.cells #[.int .i64 0, .int .i64 0, .string (ByteArray.mk #[]), .slice none 0 0] 24 (0, 0)) ∧ Below w.heap.size w w7 ∧ But w5 (w.heap.size + 1) w7 := fun w6 h56 =>
        (withKids_none w2.heap.size k' n' s' _ w6 (by have hh := ((hT'.has hnr).below hb5).below h56; rw [HKS.out] at hh ⊢; exact hh)).mono fun e w7 h7 => by
          obtain ⟨rfl, hb7⟩ := h7
          have hb7' : Below w5.heap.size w5 w7 := h56.trans (hb7.mono h56.size)
          have y2 := tbox_below g5 hb7'
          obtain ⟨z0, z1, z2, z3⟩ := tbox_cells y2
          exact ⟨rfl, z0, z1, z2, z3, (fun j => by simp [World.frozen?, y2]), y2, b5.trans (hb7'.mono b5.size), But.of hb7'⟩
      have hsr0 : i64ok k' ∧ i64ok n' ∧ s'.size ≤ maxLen := ⟨hk0, hn0, hs0⟩
      have H3 := Lib.hid (And.intro hs5 hs2)
      clear ht hT' hlv hj hu hle hnr hs2 hs4 b4 g2 ht5 hl5 hsr hs5 br b5 g5 q0 q1 q2 q3 hjo hkl hkn HR HA HM hb5
      go_wp2_with fail
      go_region_held3 (fun w' => w'.cell? ⟨w.heap.size, 0, none⟩ = some (.int .i64 k') ∧ w'.cell? ⟨w.heap.size, 1, none⟩ = some (.int .i64 n') ∧ w'.cell? ⟨w.heap.size, 2, none⟩ = some (.string s') ∧ w'.cell? ⟨w.heap.size, 3, none⟩ = some (.slice a' ks0.length c') ∧ w'.cell? ⟨w2.heap.size, 0, none⟩ = some (.int .i64 (j : Int)) ∧ But w5 (w.heap.size + 1) w')
        (first
          | exact HS _ (But.of hdr)
          | exact HS _ hbut
          | exact HS _ ((((hbut.set 0 _).set 1 _).set 2 _).set 3 _))
        (first
          | (go_at_call 52; (with_reducible refine (hnew _ hdr).mono ?_); rintro e w7 ⟨rfl, z0, z1, z2, z3, zf, y2, hB, hbut⟩))
      all_goals
        go_wp2_with fail
        have h5 := boxed_result y2 ((noTs (fun _ => False) w7).term hsr0.1 hsr0.2.1 hsr0.2.2) (fun b hb => hb.elim) hB (Nat.le_succ _)
        generalize ((((w7.setCell ⟨w.heap.size + 1, 0, none⟩ (.int .i64 k')).setCell ⟨w.heap.size + 1, 1, none⟩ (.int .i64 n')).setCell ⟨w.heap.size + 1, 2, none⟩ (.string s')).setCell ⟨w.heap.size + 1, 3, none⟩ (.slice none 0 0)) = w8 at h5 ⊢
        obtain ⟨hb8, h5⟩ := h5
        obtain ⟨f0, f1, f2, f3⟩ := tbox_cells hb8
        refine bodyPost_ret (v := .tuple #[.agg #[.int .i64 k', .int .i64 n', .string s', .slice none 0 0], .int .i64 (j : Int)]) (by simp [results, Try.f88, go_sem, f0, f1, f2, f3]) rfl ?_
        obtain ⟨r, e, h6, h7⟩ := h5
        rw [HO2.out]
        exact ⟨rfl, h7⟩

end Go.Proofs.Ytfjnajngelemkaa
