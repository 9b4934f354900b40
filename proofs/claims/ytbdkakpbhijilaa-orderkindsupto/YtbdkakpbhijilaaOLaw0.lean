/-
  order.Compare; what entries are compared by; small tools of the laws' walks.
-/
import Derived.Test.YtbdkakpbhijilaaOrdD
import Derived.Test.YtbdkakpbhijilaaOrdW
import Derived.Test.YtbdkakpbhijilaaSeal3
import Derived.Test.YtbdkakpbhijilaaSame
import Derived.Test.YtbdkakpbhijilaaChecksM
namespace Go.Proofs.Ytbdkakpbhijilaa
open Go.RowKit Go.Shelf
open Classical
set_option linter.unusedVariables false

theorem below_al {A X : World} {o : Obj} (h : Below A.heap.size A X) : Below A.heap.size A (X.alloc o) := h.alloc h.size o
theorem below_dr {A X : World} (h : Below A.heap.size A X) : Below A.heap.size A X.drew := h.drew
theorem below_tr {A X W : World} (h : Below X.heap.size X W) (k : Below A.heap.size A X) : Below A.heap.size A W := k.trans (h.mono k.size)
theorem same_yes {T U : Tm} (e : T = U) (u v : Value) (w : World) (hu : Has w u T) (hv : Has w v U) (hs : T.size ≤ 1000000000000) : Calls Try.prog 18 #[u, v] w (Gets w (.bool true)) := by
  have h := same_at T U u v w hu hv hs (by rw [← e]; exact hs)
  rw [decide_eq_true e] at h
  exact h
theorem wrapEq (x : Int) : IntKind.i64.wrap x = wrap64 x := by rw [IntKind.wrap_i64]; simp only [wrap64]
theorem two_at {X W : World} {B : Nat} {k1 n1 k2 n2 : Int} {s1 s2 : ByteArray} {a1 a2 : Option Addr} {l1 c1 l2 c2 : Nat} {T1 T2 : Tm} (e : X.heap.size = B) (h1 : Has X (.agg #[.int .i64 k1, .int .i64 n1, .string s1, .slice a1 l1 c1]) T1) (h2 : Has X (.agg #[.int .i64 k2, .int .i64 n2, .string s2, .slice a2 l2 c2]) T2)
    (k : Below (X.alloc (.cells #[.int .i64 k1, .int .i64 n1, .string s1, .slice a1 l1 c1, .int .i64 k2, .int .i64 n2, .string s2, .slice a2 l2 c2] 24)).heap.size (X.alloc (.cells #[.int .i64 k1, .int .i64 n1, .string s1, .slice a1 l1 c1, .int .i64 k2, .int .i64 n2, .string s2, .slice a2 l2 c2] 24)) W) :
    HasTs W (.slice (some ⟨B, 0, none⟩) 2 2) [T1, T2] := by
  subst e
  exact HasTs.below (two_terms h1 h2) k
def pairF (A B : Tm) : Tm := .mk 3 0 (ByteArray.mk #[102]) [A, B]
theorem pairF_size (A B : Tm) : (pairF A B).size = A.size + B.size + 1 := by rw [pairF, Tm.size_mk, Tm.sizes_cons, Tm.sizes_cons, Tm.sizes_nil]; omega
theorem pairF_at (v : Value) (A B : Tm) (w : World) (hv : HasTs w v [A, B]) (hs : A.size + B.size ≤ 1000000000) : Calls Try.prog 27 #[.string (ByteArray.mk #[102]), v] w (NewTm w (pairF A B)) :=
  make_at _ v [A, B] w (by unfold maxLen; decide) hv (by rw [Tm.sizes_cons, Tm.sizes_cons, Tm.sizes_nil]; omega)
theorem pairF_er (A B : Tm) : (pairF A B).er = pairF A.er B.er := by
  unfold pairF
  rw [Tm.er_else (fun e => absurd e.1 (by decide))]
  rfl
theorem put_er (A : Tm) (l : Int) : (putT A l).er = A.er := Tm.er_wraps l _ A
theorem put_size (A : Tm) (l : Int) : (putT A l).size = A.size + 1 := by rw [putT, Tm.size_mk, Tm.sizes_cons, Tm.sizes_nil]; omega

set_option maxRecDepth 100000 in
theorem ofew_at (v : Value) (T : Tm) (w : World) (hv : Has w v T) (hs : T.size ≤ 1000000000000) :
    Calls Try.prog 11 #[v] w (Gets w (.bool (decide (T.size ≤ 500)))) := by
  obtain ⟨k, n, s, a, len, cap, ks, rfl, e, -⟩ := hv.form
  clear e
  have hb : Below w.heap.size w (w.alloc (.cells #[.int .i64 k, .int .i64 n, .string s, .slice a len cap] 24)) := (Below.refl _ w).alloc (Nat.le_refl _) _
  have h := (rsize_at T _ _ (Has.below hv hb) hs).mono (R' := Gets w (.int .i64 (T.size : Int))) (fun e w2 h => ⟨h.1, hb.trans (h.2.mono hb.size)⟩)
  clear hv hb
  go_enter Try.func11, Try.ntmps11
  go_wp2_with (go_at_call 30; refine h.mono ?_; clear h; rintro e w2 ⟨rfl, hB⟩)
  go_ret
  refine ⟨congrArg (fun b => Ending.returned (Value.bool b)) (?_ : decide ((T.size : Int) ≤ 500) = decide (T.size ≤ 500)), hB⟩
  rw [decide_eq_decide]
  omega

set_option maxRecDepth 100000 in
set_option maxHeartbeats 2000000 in
theorem compare_at (u v : Value) (A B : Tm) (w : World) (hu : Has w u A) (hv : Has w v B) (hs : A.size ≤ 1000000000000) (ht : B.size ≤ 1000000000000) :
    Calls Try.prog 12 #[u, v] w (Gets w (.int .i64 (A.er.cmp B.er))) := by
  obtain ⟨k1, n1, s1, a1, l1, c1, ks1, rfl, e', -⟩ := hu.form
  obtain ⟨k2, n2, s2, a2, l2, c2, ks2, rfl, e'', -⟩ := hv.form
  clear e' e''
  obtain ⟨cv, hcv⟩ : ∃ c, A.er.cmp B.er = c := ⟨_, rfl⟩
  have hc : ∀ (u v : Value) (w' : World), Has w' u A.er → Has w' v B.er → Calls Try.prog 31 #[u, v] w' (Gets w' (.int .i64 cv)) := fun u v w' h g => by
    rw [← hcv]; exact erased_at u v _ _ w' h g (Nat.le_trans A.er_size hs) (Nat.le_trans B.er_size ht)
  rw [hcv]
  have Hs := Lib.hid (And.intro hs ht)
  clear hcv hs ht
  have HB1 := Lib.hid (show Below w.heap.size w ((w.alloc (.cells #[.int .i64 k1, .int .i64 n1, .string s1, .slice a1 l1 c1] 24)).alloc (.cells #[.int .i64 k2, .int .i64 n2, .string s2, .slice a2 l2 c2] 24)) from (((Below.refl _ w).alloc (Nat.le_refl _) _).alloc (by simp) _))
  have HX2 := Lib.hid (show ((w.alloc (.cells #[.int .i64 k1, .int .i64 n1, .string s1, .slice a1 l1 c1] 24)).alloc (.cells #[.int .i64 k2, .int .i64 n2, .string s2, .slice a2 l2 c2] 24)).heap[w.heap.size]? = some (.cells #[.int .i64 k1, .int .i64 n1, .string s1, .slice a1 l1 c1] 24 (0, 0)) from ((Below.heap_alloc _ _ _ (by simp)).trans (by simpa using World.alloc_heap_new w (.cells #[.int .i64 k1, .int .i64 n1, .string s1, .slice a1 l1 c1] 24))))
  have HT3 := Lib.hid (Has.below hu HB1.out)
  obtain ⟨p4_0, p4_1, p4_2, p4_3⟩ := tbox_cells HX2.out
  have HX5 := Lib.hid (show ((w.alloc (.cells #[.int .i64 k1, .int .i64 n1, .string s1, .slice a1 l1 c1] 24)).alloc (.cells #[.int .i64 k2, .int .i64 n2, .string s2, .slice a2 l2 c2] 24)).heap[w.heap.size + 1]? = some (.cells #[.int .i64 k2, .int .i64 n2, .string s2, .slice a2 l2 c2] 24 (0, 0)) from (by simpa using World.alloc_heap_new (w.alloc (.cells #[.int .i64 k1, .int .i64 n1, .string s1, .slice a1 l1 c1] 24)) (.cells #[.int .i64 k2, .int .i64 n2, .string s2, .slice a2 l2 c2] 24)))
  have HT6 := Lib.hid (Has.below hv HB1.out)
  obtain ⟨p7_0, p7_1, p7_2, p7_3⟩ := tbox_cells HX5.out
  clear hu hv
  obtain ⟨wz, hwz0⟩ : ∃ wz, wz = ((w.alloc (.cells #[.int .i64 k1, .int .i64 n1, .string s1, .slice a1 l1 c1] 24)).alloc (.cells #[.int .i64 k2, .int .i64 n2, .string s2, .slice a2 l2 c2] 24)) := ⟨_, rfl⟩
  have hwz := Lib.hid hwz0
  clear hwz0
  have y0 : wz.heap[w.heap.size]? = some (.cells #[.int .i64 k1, .int .i64 n1, .string s1, .slice a1 l1 c1] 24 (0, 0)) := by rw [hwz.out]; exact HX2.out
  have lt0 := (Array.getElem?_eq_some_iff.1 y0).1
  obtain ⟨g0_0, g0_1, g0_2, g0_3⟩ := tbox_cells y0
  have y1 : wz.heap[w.heap.size + 1]? = some (.cells #[.int .i64 k2, .int .i64 n2, .string s2, .slice a2 l2 c2] 24 (0, 0)) := by rw [hwz.out]; exact HX5.out
  have lt1 := (Array.getElem?_eq_some_iff.1 y1).1
  obtain ⟨g1_0, g1_1, g1_2, g1_3⟩ := tbox_cells y1
  have z1 : Has wz (.agg #[.int .i64 k1, .int .i64 n1, .string s1, .slice a1 l1 c1]) A := by rw [hwz.out]; exact HT3.out
  have z2 : Has wz (.agg #[.int .i64 k2, .int .i64 n2, .string s2, .slice a2 l2 c2]) B := by rw [hwz.out]; exact HT6.out
  have HZ := Lib.hid (show Below w.heap.size w wz by rw [hwz.out]; exact HB1.out)
  have HS : ∀ w', Below wz.heap.size wz w' → (w'.cell? ⟨w.heap.size, 0, none⟩ = some (.int .i64 k1) ∧ w'.cell? ⟨w.heap.size, 1, none⟩ = some (.int .i64 n1) ∧ w'.cell? ⟨w.heap.size, 2, none⟩ = some (.string s1) ∧ w'.cell? ⟨w.heap.size, 3, none⟩ = some (.slice a1 l1 c1) ∧ w'.cell? ⟨w.heap.size + 1, 0, none⟩ = some (.int .i64 k2) ∧ w'.cell? ⟨w.heap.size + 1, 1, none⟩ = some (.int .i64 n2) ∧ w'.cell? ⟨w.heap.size + 1, 2, none⟩ = some (.string s2) ∧ w'.cell? ⟨w.heap.size + 1, 3, none⟩ = some (.slice a2 l2 c2) ∧ Below wz.heap.size wz w') := fun w' hb =>
    ⟨(hb.cell (p := ⟨_, _, none⟩) lt0).trans g0_0, (hb.cell (p := ⟨_, _, none⟩) lt0).trans g0_1, (hb.cell (p := ⟨_, _, none⟩) lt0).trans g0_2, (hb.cell (p := ⟨_, _, none⟩) lt0).trans g0_3, (hb.cell (p := ⟨_, _, none⟩) lt1).trans g1_0, (hb.cell (p := ⟨_, _, none⟩) lt1).trans g1_1, (hb.cell (p := ⟨_, _, none⟩) lt1).trans g1_2, (hb.cell (p := ⟨_, _, none⟩) lt1).trans g1_3, hb⟩
  clear y0 lt0 g0_0 g0_1 g0_2 g0_3 y1 lt1 g1_0 g1_1 g1_2 g1_3
  clear p4_0 p4_1 p4_2 p4_3
  clear p7_0 p7_1 p7_2 p7_3
  go_enter Try.func12, Try.ntmps12
  go_wp2_with fail
  rw [← hwz.out]
  go_region_held3 (fun w' => w'.cell? ⟨w.heap.size, 0, none⟩ = some (.int .i64 k1) ∧ w'.cell? ⟨w.heap.size, 1, none⟩ = some (.int .i64 n1) ∧ w'.cell? ⟨w.heap.size, 2, none⟩ = some (.string s1) ∧ w'.cell? ⟨w.heap.size, 3, none⟩ = some (.slice a1 l1 c1) ∧ w'.cell? ⟨w.heap.size + 1, 0, none⟩ = some (.int .i64 k2) ∧ w'.cell? ⟨w.heap.size + 1, 1, none⟩ = some (.int .i64 n2) ∧ w'.cell? ⟨w.heap.size + 1, 2, none⟩ = some (.string s2) ∧ w'.cell? ⟨w.heap.size + 1, 3, none⟩ = some (.slice a2 l2 c2) ∧ Below wz.heap.size wz w')
    (exact HS _ (by (repeat (first | with_reducible exact Below.refl _ _ | with_reducible apply below_al | with_reducible apply below_dr | ((with_reducible apply below_tr); (with_reducible assumption))))))
    (first
          | (go_at_call 31; (with_reducible refine Calls.mono (hc _ _ _ ?_ ?_) ?_); ((with_reducible refine Has.below h3 ?_); (repeat (first | with_reducible exact Below.refl _ _ | with_reducible apply below_al | with_reducible apply below_dr | ((with_reducible apply below_tr); (with_reducible assumption))))); ((with_reducible refine Has.below h4 ?_); (repeat (first | with_reducible exact Below.refl _ _ | with_reducible apply below_al | with_reducible apply below_dr | ((with_reducible apply below_tr); (with_reducible assumption))))); rintro r w5 ⟨rfl, b5⟩)
          | (go_at_call 19; (with_reducible refine Calls.mono (erase_at _ B _ ?_ Hs.out.2) ?_); ((with_reducible refine Has.below z2 ?_); (repeat (first | with_reducible exact Below.refl _ _ | with_reducible apply below_al | with_reducible apply below_dr | ((with_reducible apply below_tr); (with_reducible assumption))))); intro r w4 h4; obtain ⟨k4, n4, s4, a4, l4, c4, rfl, h4, b4⟩ := h4.has)
          | (go_at_call 19; (with_reducible refine Calls.mono (erase_at _ A _ ?_ Hs.out.1) ?_); ((with_reducible refine Has.below z1 ?_); (repeat (first | with_reducible exact Below.refl _ _ | with_reducible apply below_al | with_reducible apply below_dr | ((with_reducible apply below_tr); (with_reducible assumption))))); intro r w3 h3; obtain ⟨k3, n3, s3, a3, l3, c3, rfl, h3, b3⟩ := h3.has))
  all_goals
    go_wp2_with fail
    go_ret
    exact ⟨rfl, below_tr (by (repeat (first | with_reducible exact Below.refl _ _ | with_reducible apply below_al | with_reducible apply below_dr | ((with_reducible apply below_tr); (with_reducible assumption))))) HZ.out⟩

/-- Two entries: what is compared is what was erased. -/
abbrev Q8.val (x : Q8) : Value := .agg #[.int .i64 x.p.k, .int .i64 x.p.n, .string x.p.s, .slice x.p.a x.p.l x.p.c, .int .i64 x.r.k, .int .i64 x.r.n, .string x.r.s, .slice x.r.a x.r.l x.r.c]
set_option maxRecDepth 100000 in
set_option maxHeartbeats 2000000 in
theorem entries_at (x y : Q8) (A B : Tm) (w : World) (hu : Has w x.r.val A) (hv : Has w y.r.val B) (hs : A.size ≤ 1000000000000) (ht : B.size ≤ 1000000000000) :
    Calls Try.prog 36 #[x.val, y.val] w (Gets w (.int .i64 (A.cmp B))) := by
  obtain ⟨⟨k1, n1, s1, a1, l1, c1⟩, ⟨k2, n2, s2, a2, l2, c2⟩⟩ := x
  obtain ⟨⟨k3, n3, s3, a3, l3, c3⟩, ⟨k4, n4, s4, a4, l4, c4⟩⟩ := y
  dsimp only [Q8.val]
  have hb : Below w.heap.size w ((w.alloc (.cells #[.int .i64 k1, .int .i64 n1, .string s1, .slice a1 l1 c1, .int .i64 k2, .int .i64 n2, .string s2, .slice a2 l2 c2] 59)).alloc (.cells #[.int .i64 k3, .int .i64 n3, .string s3, .slice a3 l3 c3, .int .i64 k4, .int .i64 n4, .string s4, .slice a4 l4 c4] 59)) := ((Below.refl _ w).alloc (Nat.le_refl _) _).alloc (by simp) _
  have h := erased_at _ _ A B _ (Has.below hu hb) (Has.below hv hb) hs ht
  clear hu hv
  generalize A.cmp B = cv at h ⊢
  go_enter Try.func36, Try.ntmps36
  go_wp2_with (go_at_call 31; (with_reducible refine h.mono ?_); clear h; rintro e w2 ⟨rfl, hB⟩)
  go_ret
  exact ⟨rfl, hb.trans (hB.mono hb.size)⟩
set_option maxRecDepth 100000 in
set_option maxHeartbeats 2000000 in
theorem eqEntries_at (x y : Q8) (A B : Tm) (w : World) (hu : Has w x.r.val A) (hv : Has w y.r.val B) (hs : A.size ≤ 1000000000000) (ht : B.size ≤ 1000000000000) :
    Calls Try.prog 38 #[x.val, y.val] w (Gets w (.bool (decide (A.cmp B = 0)))) := by
  have hb : Below w.heap.size w ((w.alloc (.cells x.cells.toArray 59)).alloc (.cells y.cells.toArray 59)) := ((Below.refl _ w).alloc (Nat.le_refl _) _).alloc (by simp) _
  have h := entries_at x y A B _ (Has.below hu hb) (Has.below hv hb) hs ht
  clear hu hv
  obtain ⟨⟨k1, n1, s1, a1, l1, c1⟩, ⟨k2, n2, s2, a2, l2, c2⟩⟩ := x
  obtain ⟨⟨k3, n3, s3, a3, l3, c3⟩, ⟨k4, n4, s4, a4, l4, c4⟩⟩ := y
  dsimp only [Q8.val, Q8.cells] at h hb ⊢
  generalize A.cmp B = cv at h ⊢
  by_cases hc : cv = 0
  · subst hc
    rw [decide_eq_true rfl]
    go_enter Try.func38, Try.ntmps38
    go_wp2_with (go_at_call 36; (with_reducible refine h.mono ?_); clear h; rintro e w2 ⟨rfl, hB⟩)
    go_ret
    exact ⟨rfl, hb.trans (hB.mono hb.size)⟩
  · rw [decide_eq_false hc]
    have hc' : (cv == 0) = false := by simpa using hc
    go_enter Try.func38, Try.ntmps38
    go_wp2_with (go_at_call 36; (with_reducible refine h.mono ?_); clear h; rintro e w2 ⟨rfl, hB⟩)
    go_ret
    exact ⟨rfl, hb.trans (hB.mono hb.size)⟩
end Go.Proofs.Ytbdkakpbhijilaa
