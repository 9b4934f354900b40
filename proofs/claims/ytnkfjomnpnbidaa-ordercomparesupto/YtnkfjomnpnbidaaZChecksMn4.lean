/-
  What may be: facts on checked terms.
-/
import Derived.Test.YtnkfjomnpnbidaaZRefAn3
import Derived.Test.YtnkfjomnpnbidaaZSamen2
import Derived.Test.YtnkfjomnpnbidaaZOrdDn2
import Derived.Test.YtnkfjomnpnbidaaZSeal2n3
import Derived.Test.YtnkfjomnpnbidaaZSrtG
import Derived.Test.YtnkfjomnpnbidaaZSrtMn3
namespace Go.Proofs.Ytnkfjomnpnbidaa
open Go.RowKit Go.Shelf
set_option linter.unusedVariables false

theorem validL_append (L : Int) (l r : List (Nat × Tm)) : validL L (l ++ r) = (validL L l && validL L r) := by simp [validL]
theorem validL_partss (L : Int) (d e : Nat) : ∀ ks : List Tm, (∀ t ∈ ks, ∀ d e, validL L (t.parts d) = validL L (t.parts e)) → validL L (Tm.partss d ks) = validL L (Tm.partss e ks)
  | [], _ => by simp [Tm.partss_nil]
  | t :: ts, h => by rw [Tm.partss_cons, Tm.partss_cons, validL_append, validL_append, h t (by simp) d e, validL_partss L d e ts fun u hu => h u (by simp [hu])]
theorem validL_parts (L : Int) (T : Tm) : ∀ d e, validL L (T.parts d) = validL L (T.parts e) := by
  induction T using Tm.ind with
  | h k n s ks ih =>
    intro d e
    rw [Tm.parts_mk, Tm.parts_mk]
    show validL L ([(d, Tm.mk k n s ks)] ++ _) = validL L ([(e, Tm.mk k n s ks)] ++ _)
    rw [validL_append, validL_append, validL_partss L (d + 1) (e + 1) ks ih]
    rfl
theorem validL_kids (L : Int) (d : Nat) : ∀ ks : List Tm, validL L (Tm.partss d ks) = ks.all (Tm.valid L)
  | [] => by simp [Tm.partss_nil, validL]
  | t :: ts => by rw [Tm.partss_cons, validL_append, validL_kids L d ts, List.all_cons, validL_parts L t d 1]; rfl
theorem valid_mk (L k n : Int) (s : ByteArray) (ks : List Tm) : (Tm.mk k n s ks).valid L = ((Tm.mk k n s ks).formed L && ks.all (Tm.valid L)) := by
  rw [Tm.valid, Tm.parts_mk]
  show validL L ([(1, Tm.mk k n s ks)] ++ _) = _
  rw [validL_append, validL_kids]
  simp [validL]
theorem groundL_append (l r : List (Nat × Tm)) : groundL (l ++ r) = (groundL l && groundL r) := by simp [groundL]
theorem ground_nums (l : List (Nat × Tm)) : groundL l = decide ((nums l).length = 0) := by
  induction l with
  | nil => rfl
  | cons x l ih =>
    show groundL ([x] ++ l) = decide ((nums ([x] ++ l)).length = 0)
    rw [groundL_append, nums_append, ih, List.length_append]
    unfold groundL nums
    by_cases h : x.2.kind = 1
    · simp [h]
    · simp [h]
theorem foldl_len (xs : List Int) : ((xs.foldl addNew []).length = 0) ↔ xs.length = 0 := by
  constructor
  · intro h
    cases xs with
    | nil => rfl
    | cons x xs =>
      rw [List.foldl_cons, foldl_addNew] at h
      simp [addNew] at h
  · intro h
    rw [List.eq_nil_of_length_eq_zero h]; rfl
theorem ground_vars (T : Tm) : T.ground = decide (T.vars.length = 0) := by
  rw [Tm.ground, ground_nums, Tm.vars, varsL, foldl_addV, decide_eq_decide]
  exact (foldl_len _).symm
theorem ground_seal (n : Int) (s : ByteArray) (T : Tm) : (Tm.mk 4 n s [T]).ground = T.ground := by
  rw [Tm.ground, Tm.ground, ground_nums, ground_nums, Tm.parts_mk, Tm.partss_cons, Tm.partss_nil, List.append_nil]
  show decide ((nums ([(1, Tm.mk 4 n s [T])] ++ _)).length = 0) = _
  rw [nums_append, nums_parts T (1 + 1) 1]
  rfl

theorem check_zero {L : Int} {T : Tm} (h : T.check L = 0) : T.size ≤ 1000 ∧ T.deep ≤ 60 ∧ T.valid L = true := by
  unfold Tm.check at h
  split at h
  · cases h
  · split at h
    · cases h
    · split at h
      · exact ⟨by omega, by omega, by assumption⟩
      · cases h
theorem check_of {L : Int} {T : Tm} (h1 : T.size ≤ 1000) (h2 : T.deep ≤ 60) : T.check L = if T.valid L = true then 0 else 4 := by
  rw [Tm.check, if_neg (by omega), if_neg (by omega)]
theorem deep_le_deeps {t : Tm} : ∀ {ks : List Tm}, t ∈ ks → t.deep ≤ Tm.deeps ks
  | u :: us, h => by
    rw [Tm.deeps_cons]
    rcases List.mem_cons.1 h with rfl | h
    · omega
    · have := deep_le_deeps h; omega
theorem check_kid {L k n : Int} {s : ByteArray} {ks : List Tm} (h : (Tm.mk k n s ks).check L = 0) {t : Tm} (ht : t ∈ ks) : t.check L = 0 := by
  obtain ⟨h1, h2, h3⟩ := check_zero h
  rw [Tm.size_mk] at h1
  rw [Tm.deep_mk] at h2
  have g1 := Tm.size_le_sizes ht
  have g2 := deep_le_deeps ht
  rw [valid_mk] at h3
  simp only [Bool.and_eq_true, List.all_eq_true] at h3
  rw [check_of (by omega) (by omega), if_pos (h3.2 t ht)]

/-- What a seal's check tells. -/
theorem check_seal_big {L n : Int} {T : Tm} (h : 1000 ≤ T.size ∨ 60 ≤ T.deep) : (Tm.mk 4 n (ByteArray.mk #[]) [T]).check L ≠ 0 := by
  intro e
  obtain ⟨h1, h2, _⟩ := check_zero e
  rw [Tm.size_mk, Tm.sizes_cons, Tm.sizes_nil] at h1
  rw [Tm.deep_mk, Tm.deeps_cons, Tm.deeps_nil] at h2
  omega
theorem check_seal {L n : Int} {T : Tm} (h1 : T.size < 1000) (h2 : T.deep < 60) (hv : T.valid L = true) (hn : 0 ≤ n) : (Tm.mk 4 n (ByteArray.mk #[]) [T]).check L = if T.vars.length = 0 ∧ n < L then 0 else 4 := by
  have ht : (ByteArray.mk #[]).toList = [] := empty_toList
  rw [check_of (by rw [Tm.size_mk, Tm.sizes_cons, Tm.sizes_nil]; omega) (by rw [Tm.deep_mk, Tm.deeps_cons, Tm.deeps_nil]; omega), valid_mk, Tm.formed_eq L 4 n _ [T] 1 rfl, ground_seal, ground_vars]
  simp only [List.all_cons, List.all_nil, hv, ht]
  by_cases g1 : T.vars.length = 0 <;> by_cases g2 : n < L <;> simp [g1, g2, hn]
theorem check_pair {L : Int} {T : Tm} (hv : T.valid L = true) : (Tm.mk 3 0 (ByteArray.mk #[102]) [T, T]).check L ≠ 4 := by
  have hs : (ByteArray.mk #[102]).size = 1 := rfl
  have : (Tm.mk 3 0 (ByteArray.mk #[102]) [T, T]).valid L = true := by
    rw [valid_mk, Tm.formed_eq L 3 0 _ [T, T] 2 rfl]
    simp [hv, hs]
  unfold Tm.check
  rw [this]
  split
  · decide
  · split
    · decide
    · decide

theorem seal_term {w : World} {n : Int} {k1 n1 : Int} {s1 : ByteArray} {a1 : Option Addr} {l1 c1 : Nat} {T : Tm} (hn : i64ok n) (h : Has w (.agg #[.int .i64 k1, .int .i64 n1, .string s1, .slice a1 l1 c1]) T) :
    Has (w.alloc (.cells #[.int .i64 k1, .int .i64 n1, .string s1, .slice a1 l1 c1] 24)) (.agg #[.int .i64 4, .int .i64 n, .string (ByteArray.mk #[]), .slice (some ⟨w.heap.size, 0, none⟩) 1 1]) (.mk 4 n (ByteArray.mk #[]) [T]) :=
  (one_term h).term ⟨by decide, by decide⟩ hn (Nat.zero_le _)


end Go.Proofs.Ytnkfjomnpnbidaa

namespace Go.Proofs.Ytnkfjomnpnbidaa
open Go.RowKit Go.Shelf
open Classical
set_option linter.unusedVariables false

theorem below_al {A X : World} {o : Obj} (h : Below A.heap.size A X) : Below A.heap.size A (X.alloc o) := h.alloc h.size o
theorem below_dr {A X : World} (h : Below A.heap.size A X) : Below A.heap.size A X.drew := h.drew
theorem below_tr {A X W : World} (h : Below X.heap.size X W) (k : Below A.heap.size A X) : Below A.heap.size A W := k.trans (h.mono k.size)
theorem same_yes {T U : Tm} (e : T = U) (u v : Value) (w : World) (hu : Has w u T) (hv : Has w v U) (hs : T.size ≤ 1000000000000) : Calls Try.prog 18 #[u, v] w (Gets w (.bool true)) := by
  have h := same_at T U u v w hu hv hs (by rw [← e]; exact hs)
  rw [decide_eq_true e] at h
  exact h
theorem wrapEq (x : Int) : IntKind.i64.wrap x = wrap64 x := by rw [IntKind.wrap_i64]; simp only [wrap64]
theorem two_at {X W : World} {B : Nat} {k1 n1 k2 n2 : Int} {s1 s2 : ByteArray} {a1 a2 : Option Addr} {l1 c1 l2 c2 : Nat} {T1 T2 : Tm} (e : X.heap.size = B) (h1 : Has X (.agg #[.int .i64 k1, .int .i64 n1, .string s1, .slice a1 l1 c1]) T1) (h2 : Has X (.agg #[.int .i64 k2, .int .i64 n2, .string s2, .slice a2 l2 c2]) T2)
    (k : Below (X.alloc (.cells #[.int .i64 k1, .int .i64 n1, .string s1, .slice a1 l1 c1, .int .i64 k2, .int .i64 n2, .string s2, .slice a2 l2 c2] 24)).heap.size (X.alloc (.cells #[.int .i64 k1, .int .i64 n1, .string s1, .slice a1 l1 c1, .int .i64 k2, .int .i64 n2, .string s2, .slice a2 l2 c2] 24)) W) :
    HasTs W (.slice (some ⟨B, 0, none⟩) 2 2) [T1, T2] := by
  subst e
  exact HasTs.below (two_terms h1 h2) k
def pairF (A B : Tm) : Tm := .mk 3 0 (ByteArray.mk #[102]) [A, B]
theorem pairF_size (A B : Tm) : (pairF A B).size = A.size + B.size + 1 := by rw [pairF, Tm.size_mk, Tm.sizes_cons, Tm.sizes_cons, Tm.sizes_nil]; omega
theorem pairF_at (v : Value) (A B : Tm) (w : World) (hv : HasTs w v [A, B]) (hs : A.size + B.size ≤ 1000000000) : Calls Try.prog 27 #[.string (ByteArray.mk #[102]), v] w (NewTm w (pairF A B)) :=
  make_at _ v [A, B] w (by unfold maxLen; decide) hv (by rw [Tm.sizes_cons, Tm.sizes_cons, Tm.sizes_nil]; omega)
theorem pairF_er (A B : Tm) : (pairF A B).er = pairF A.er B.er := by
  unfold pairF
  rw [Tm.er_else (fun e => absurd e.1 (by decide))]
  rfl
theorem put_er (A : Tm) (l : Int) : (putT A l).er = A.er := Tm.er_wraps l _ A
theorem put_size (A : Tm) (l : Int) : (putT A l).size = A.size + 1 := by rw [putT, Tm.size_mk, Tm.sizes_cons, Tm.sizes_nil]; omega

set_option maxRecDepth 100000 in
theorem ofew_at (v : Value) (T : Tm) (w : World) (hv : Has w v T) (hs : T.size ≤ 1000000000000) :
    Calls Try.prog 11 #[v] w (Gets w (.bool (decide (T.size ≤ 500)))) := by
  obtain ⟨k, n, s, a, len, cap, ks, rfl, e, -⟩ := hv.form
  clear e
  have hb : Below w.heap.size w (w.alloc (.cells #[.int .i64 k, .int .i64 n, .string s, .slice a len cap] 24)) := (Below.refl _ w).alloc (Nat.le_refl _) _
  have h := (rsize_at T _ _ (Has.below hv hb) hs).mono (R' := Gets w (.int .i64 (T.size : Int))) (fun e w2 h => ⟨h.1, hb.trans (h.2.mono hb.size)⟩)
  clear hv hb
  go_enter Try.func11, Try.ntmps11
  go_wp2_with (go_at_call 30; refine h.mono ?_; clear h; rintro e w2 ⟨rfl, hB⟩)
  go_ret
  refine ⟨congrArg (fun b => Ending.returned (Value.bool b)) (?_ : decide ((T.size : Int) ≤ 500) = decide (T.size ≤ 500)), hB⟩
  rw [decide_eq_decide]
  omega

set_option maxRecDepth 100000 in
set_option maxHeartbeats 2000000 in
theorem compare_at (u v : Value) (A B : Tm) (w : World) (hu : Has w u A) (hv : Has w v B) (hs : A.size ≤ 1000000000000) (ht : B.size ≤ 1000000000000) :
    Calls Try.prog 12 #[u, v] w (Gets w (.int .i64 (A.er.cmp B.er))) := by
  obtain ⟨k1, n1, s1, a1, l1, c1, ks1, rfl, e', -⟩ := hu.form
  obtain ⟨k2, n2, s2, a2, l2, c2, ks2, rfl, e'', -⟩ := hv.form
  clear e' e''
  obtain ⟨cv, hcv⟩ : ∃ c, A.er.cmp B.er = c := ⟨_, rfl⟩
  have hc : ∀ (u v : Value) (w' : World), Has w' u A.er → Has w' v B.er → Calls Try.prog 31 #[u, v] w' (Gets w' (.int .i64 cv)) := fun u v w' h g => by
    rw [← hcv]; exact erased_at u v _ _ w' h g (Nat.le_trans A.er_size hs) (Nat.le_trans B.er_size ht)
  rw [hcv]
  have Hs := Lib.hid (And.intro hs ht)
  clear hcv hs ht
  have HB1 := Lib.hid (show Below w.heap.size w ((w.alloc (.cells #[.int .i64 k1, .int .i64 n1, .string s1, .slice a1 l1 c1] 24)).alloc (.cells #[.int .i64 k2, .int .i64 n2, .string s2, .slice a2 l2 c2] 24)) from (((Below.refl _ w).alloc (Nat.le_refl _) _).alloc (by simp) _))
  have HX2 := Lib.hid (show ((w.alloc (.cells #[.int .i64 k1, .int .i64 n1, .string s1, .slice a1 l1 c1] 24)).alloc (.cells #[.int .i64 k2, .int .i64 n2, .string s2, .slice a2 l2 c2] 24)).heap[w.heap.size]? = some (.cells #[.int .i64 k1, .int .i64 n1, .string s1, .slice a1 l1 c1] 24 (0, 0)) from ((Below.heap_alloc _ _ _ (by simp)).trans (by simpa using World.alloc_heap_new w (.cells #[.int .i64 k1, .int .i64 n1, .string s1, .slice a1 l1 c1] 24))))
  have HT3 := Lib.hid (Has.below hu HB1.out)
  obtain ⟨p4_0, p4_1, p4_2, p4_3⟩ := tbox_cells HX2.out
  have HX5 := Lib.hid (show ((w.alloc (.cells #[.int .i64 k1, .int .i64 n1, .string s1, .slice a1 l1 c1] 24)).alloc (.cells #[.int .i64 k2, .int .i64 n2, .string s2, .slice a2 l2 c2] 24)).heap[w.heap.size + 1]? = some (.cells #[.int .i64 k2, .int .i64 n2, .string s2, .slice a2 l2 c2] 24 (0, 0)) from (by simpa using World.alloc_heap_new (w.alloc (.cells #[.int .i64 k1, .int .i64 n1, .string s1, .slice a1 l1 c1] 24)) (.cells #[.int .i64 k2, .int .i64 n2, .string s2, .slice a2 l2 c2] 24)))
  have HT6 := Lib.hid (Has.below hv HB1.out)
  obtain ⟨p7_0, p7_1, p7_2, p7_3⟩ := tbox_cells HX5.out
  clear hu hv
  obtain ⟨wz, hwz0⟩ : ∃ wz, wz = ((w.alloc (.cells #[.int .i64 k1, .int .i64 n1, .string s1, .slice a1 l1 c1] 24)).alloc (.cells #[.int .i64 k2, .int .i64 n2, .string s2, .slice a2 l2 c2] 24)) := ⟨_, rfl⟩
  have hwz := Lib.hid hwz0
  clear hwz0
  have y0 : wz.heap[w.heap.size]? = some (.cells #[.int .i64 k1, .int .i64 n1, .string s1, .slice a1 l1 c1] 24 (0, 0)) := by rw [hwz.out]; exact HX2.out
  have lt0 := (Array.getElem?_eq_some_iff.1 y0).1
  obtain ⟨g0_0, g0_1, g0_2, g0_3⟩ := tbox_cells y0
  have y1 : wz.heap[w.heap.size + 1]? = some (.cells #[.int .i64 k2, .int .i64 n2, .string s2, .slice a2 l2 c2] 24 (0, 0)) := by rw [hwz.out]; exact HX5.out
  have lt1 := (Array.getElem?_eq_some_iff.1 y1).1
  obtain ⟨g1_0, g1_1, g1_2, g1_3⟩ := tbox_cells y1
  have z1 : Has wz (.agg #[.int .i64 k1, .int .i64 n1, .string s1, .slice a1 l1 c1]) A := by rw [hwz.out]; exact HT3.out
  have z2 : Has wz (.agg #[.int .i64 k2, .int .i64 n2, .string s2, .slice a2 l2 c2]) B := by rw [hwz.out]; exact HT6.out
  have HZ := Lib.hid (show Below w.heap.size w wz by rw [hwz.out]; exact HB1.out)
  have HS : ∀ w', Below wz.heap.size wz w' → (w'.cell? ⟨w.heap.size, 0, none⟩ = some (.int .i64 k1) ∧ w'.cell? ⟨w.heap.size, 1, none⟩ = some (.int .i64 n1) ∧ w'.cell? ⟨w.heap.size, 2, none⟩ = some (.string s1) ∧ w'.cell? ⟨w.heap.size, 3, none⟩ = some (.slice a1 l1 c1) ∧ w'.cell? ⟨w.heap.size + 1, 0, none⟩ = some (.int .i64 k2) ∧ w'.cell? ⟨w.heap.size + 1, 1, none⟩ = some (.int .i64 n2) ∧ w'.cell? ⟨w.heap.size + 1, 2, none⟩ = some (.string s2) ∧ w'.cell? ⟨w.heap.size + 1, 3, none⟩ = some (.slice a2 l2 c2) ∧ Below wz.heap.size wz w') := fun w' hb =>
    ⟨(hb.cell (p := ⟨_, _, none⟩) lt0).trans g0_0, (hb.cell (p := ⟨_, _, none⟩) lt0).trans g0_1, (hb.cell (p := ⟨_, _, none⟩) lt0).trans g0_2, (hb.cell (p := ⟨_, _, none⟩) lt0).trans g0_3, (hb.cell (p := ⟨_, _, none⟩) lt1).trans g1_0, (hb.cell (p := ⟨_, _, none⟩) lt1).trans g1_1, (hb.cell (p := ⟨_, _, none⟩) lt1).trans g1_2, (hb.cell (p := ⟨_, _, none⟩) lt1).trans g1_3, hb⟩
  clear y0 lt0 g0_0 g0_1 g0_2 g0_3 y1 lt1 g1_0 g1_1 g1_2 g1_3
  clear p4_0 p4_1 p4_2 p4_3
  clear p7_0 p7_1 p7_2 p7_3
  go_enter Try.func12, Try.ntmps12
  go_wp2_with fail
  rw [← hwz.out]
  go_region_held3 (fun w' => w'.cell? ⟨w.heap.size, 0, none⟩ = some (.int .i64 k1) ∧ w'.cell? ⟨w.heap.size, 1, none⟩ = some (.int .i64 n1) ∧ w'.cell? ⟨w.heap.size, 2, none⟩ = some (.string s1) ∧ w'.cell? ⟨w.heap.size, 3, none⟩ = some (.slice a1 l1 c1) ∧ w'.cell? ⟨w.heap.size + 1, 0, none⟩ = some (.int .i64 k2) ∧ w'.cell? ⟨w.heap.size + 1, 1, none⟩ = some (.int .i64 n2) ∧ w'.cell? ⟨w.heap.size + 1, 2, none⟩ = some (.string s2) ∧ w'.cell? ⟨w.heap.size + 1, 3, none⟩ = some (.slice a2 l2 c2) ∧ Below wz.heap.size wz w')
    (exact HS _ (by (repeat (first | with_reducible exact Below.refl _ _ | with_reducible apply below_al | with_reducible apply below_dr | ((with_reducible apply below_tr); (with_reducible assumption))))))
    (first
          | (go_at_call 31; (with_reducible refine Calls.mono (hc _ _ _ ?_ ?_) ?_); ((with_reducible refine Has.below h3 ?_); (repeat (first | with_reducible exact Below.refl _ _ | with_reducible apply below_al | with_reducible apply below_dr | ((with_reducible apply below_tr); (with_reducible assumption))))); ((with_reducible refine Has.below h4 ?_); (repeat (first | with_reducible exact Below.refl _ _ | with_reducible apply below_al | with_reducible apply below_dr | ((with_reducible apply below_tr); (with_reducible assumption))))); rintro r w5 ⟨rfl, b5⟩)
          | (go_at_call 19; (with_reducible refine Calls.mono (erase_at _ B _ ?_ Hs.out.2) ?_); ((with_reducible refine Has.below z2 ?_); (repeat (first | with_reducible exact Below.refl _ _ | with_reducible apply below_al | with_reducible apply below_dr | ((with_reducible apply below_tr); (with_reducible assumption))))); intro r w4 h4; obtain ⟨k4, n4, s4, a4, l4, c4, rfl, h4, b4⟩ := h4.has)
          | (go_at_call 19; (with_reducible refine Calls.mono (erase_at _ A _ ?_ Hs.out.1) ?_); ((with_reducible refine Has.below z1 ?_); (repeat (first | with_reducible exact Below.refl _ _ | with_reducible apply below_al | with_reducible apply below_dr | ((with_reducible apply below_tr); (with_reducible assumption))))); intro r w3 h3; obtain ⟨k3, n3, s3, a3, l3, c3, rfl, h3, b3⟩ := h3.has))
  all_goals
    go_wp2_with fail
    go_ret
    exact ⟨rfl, below_tr (by (repeat (first | with_reducible exact Below.refl _ _ | with_reducible apply below_al | with_reducible apply below_dr | ((with_reducible apply below_tr); (with_reducible assumption))))) HZ.out⟩

/-- Two entries: what is compared is what was erased. -/
abbrev Q8.val (x : Q8) : Value := .agg #[.int .i64 x.p.k, .int .i64 x.p.n, .string x.p.s, .slice x.p.a x.p.l x.p.c, .int .i64 x.r.k, .int .i64 x.r.n, .string x.r.s, .slice x.r.a x.r.l x.r.c]
set_option maxRecDepth 100000 in
set_option maxHeartbeats 2000000 in
theorem entries_at (x y : Q8) (A B : Tm) (w : World) (hu : Has w x.r.val A) (hv : Has w y.r.val B) (hs : A.size ≤ 1000000000000) (ht : B.size ≤ 1000000000000) :
    Calls Try.prog 36 #[x.val, y.val] w (Gets w (.int .i64 (A.cmp B))) := by
  obtain ⟨⟨k1, n1, s1, a1, l1, c1⟩, ⟨k2, n2, s2, a2, l2, c2⟩⟩ := x
  obtain ⟨⟨k3, n3, s3, a3, l3, c3⟩, ⟨k4, n4, s4, a4, l4, c4⟩⟩ := y
  dsimp only [Q8.val]
  have hb : Below w.heap.size w ((w.alloc (.cells #[.int .i64 k1, .int .i64 n1, .string s1, .slice a1 l1 c1, .int .i64 k2, .int .i64 n2, .string s2, .slice a2 l2 c2] 59)).alloc (.cells #[.int .i64 k3, .int .i64 n3, .string s3, .slice a3 l3 c3, .int .i64 k4, .int .i64 n4, .string s4, .slice a4 l4 c4] 59)) := ((Below.refl _ w).alloc (Nat.le_refl _) _).alloc (by simp) _
  have h := erased_at _ _ A B _ (Has.below hu hb) (Has.below hv hb) hs ht
  clear hu hv
  generalize A.cmp B = cv at h ⊢
  go_enter Try.func36, Try.ntmps36
  go_wp2_with (go_at_call 31; (with_reducible refine h.mono ?_); clear h; rintro e w2 ⟨rfl, hB⟩)
  go_ret
  exact ⟨rfl, hb.trans (hB.mono hb.size)⟩
set_option maxRecDepth 100000 in
set_option maxHeartbeats 2000000 in
theorem eqEntries_at (x y : Q8) (A B : Tm) (w : World) (hu : Has w x.r.val A) (hv : Has w y.r.val B) (hs : A.size ≤ 1000000000000) (ht : B.size ≤ 1000000000000) :
    Calls Try.prog 38 #[x.val, y.val] w (Gets w (.bool (decide (A.cmp B = 0)))) := by
  have hb : Below w.heap.size w ((w.alloc (.cells x.cells.toArray 59)).alloc (.cells y.cells.toArray 59)) := ((Below.refl _ w).alloc (Nat.le_refl _) _).alloc (by simp) _
  have h := entries_at x y A B _ (Has.below hu hb) (Has.below hv hb) hs ht
  clear hu hv
  obtain ⟨⟨k1, n1, s1, a1, l1, c1⟩, ⟨k2, n2, s2, a2, l2, c2⟩⟩ := x
  obtain ⟨⟨k3, n3, s3, a3, l3, c3⟩, ⟨k4, n4, s4, a4, l4, c4⟩⟩ := y
  dsimp only [Q8.val, Q8.cells] at h hb ⊢
  generalize A.cmp B = cv at h ⊢
  by_cases hc : cv = 0
  · subst hc
    rw [decide_eq_true rfl]
    go_enter Try.func38, Try.ntmps38
    go_wp2_with (go_at_call 36; (with_reducible refine h.mono ?_); clear h; rintro e w2 ⟨rfl, hB⟩)
    go_ret
    exact ⟨rfl, hb.trans (hB.mono hb.size)⟩
  · rw [decide_eq_false hc]
    have hc' : (cv == 0) = false := by simpa using hc
    go_enter Try.func38, Try.ntmps38
    go_wp2_with (go_at_call 36; (with_reducible refine h.mono ?_); clear h; rintro e w2 ⟨rfl, hB⟩)
    go_ret
    exact ⟨rfl, hb.trans (hB.mono hb.size)⟩
end Go.Proofs.Ytnkfjomnpnbidaa

namespace Go.Proofs.Ytnkfjomnpnbidaa
open Go.Shelf Go.RowKit Go.Lib Go.Sort
set_option linter.unusedVariables false

/-- What the stable sort does, of n elements. -/
def StableSays (P : Program) {α : Type} [Inhabited α] (k : Nat) (enc : α → List Value) (cf : α → α → Int) (tg : α → Nat) (g : Nat) (cb : Array Value) (w0 : World) (blk off cap n : Nat) : Prop :=
  ∀ (d : Array α) (w : World), SWb enc k w0 blk off d w → d.size = n → (∀ p q, p < q → q < n → tg d[p]! < tg d[q]!) →
    Calls P 63 #[.slice (some ⟨blk, off, none⟩) n cap, .int .i64 n, .func (.func g) #[] cb] w fun e w' => e = .returned (.tuple #[]) ∧ ∃ d', SWb enc k w0 blk off d' w' ∧ PermIn 0 n d d' ∧ SortedIn (ltT cf tg) 0 n d'

section
variable {P : Program} {α : Type} [Inhabited α]
set_option maxHeartbeats 4000000 in
set_option maxRecDepth 1000000 in
theorem stable_small (k : Nat) (L : LO P k) (enc : α → List Value) (cf : α → α → Int) (tg : α → Nat) (hT : Tot cf) (g : Nat) (cb : Array Value) (w0 : World) (blk off cap n : Nat) (h20 : n < 20)
    (eg : ∀ args w, (callFunc g args).run P w = .ok (.enter g args) w) (R : RowB enc k w0 blk) (C : CmpB P g cb enc k cf w0 blk off n) : StableSays P k enc cf tg g cb w0 blk off cap n := by
  intro d w S hn ht
  have mixed := L.mixed; have t0 := L.t0; have a0 := L.a0; have z0 := L.z0; have v0 := L.v0; have t3 := L.t3; have a3 := L.a3; have z3 := L.z3; have v3 := L.v3; have t4 := L.t4; have a4 := L.a4; have z4 := L.z4; have v4 := L.v4; have t57 := L.t57; have a57 := L.a57; have z57 := L.z57; have v57 := L.v57; have t61 := L.t61; have a61 := L.a61; have z61 := L.z61; have v61 := L.v61; have aE := L.aE; have zE := L.zE
  have e73 : ∀ args w, (callFunc 73 args).run P w = .ok (.enter 73 args) w := enters_of L.f73 (by kernel_rfl) rfl
  subst hn
  have hc := insertion_at (P := P) k L enc cf g cb w0 blk off cap 0 d.size d w eg R C S (Nat.zero_le _) (Nat.le_refl _) (by omega)
  have hi := inserted hT d 0 d.size (Nat.zero_le _) (Nat.le_refl _) fun p q _ h2 h3 => ht p q h2 h3
  have HI := Lib.hid hi
  have hlz : ¬ (20 : Int) ≤ (d.size : Int) := by omega
  have hlz2 : ¬ (20 : Int) < (d.size : Int) := by omega
  clear S C ht hi
  go_enter L.f63, Try.ntmps63
  go_wp2
  refine wp_loop_rounds 1 ?_
  rw [rounds_succ]
  go_wp2_with (go_at_fn 73; refine hc.mono ?_; clear hc; rintro e w1 ⟨rfl, S1⟩)
  refine wp_loop_rounds 1 ?_
  rw [rounds_succ]
  go_wp2
  go_end0
  exact ⟨rfl, _, S1, HI.out.1, HI.out.2⟩

set_option maxHeartbeats 4000000 in
set_option maxRecDepth 1000000 in
theorem sortStable_at (k : Nat) (L : LO P k) (enc : α → List Value) (cf : α → α → Int) (tg : α → Nat) (g : Nat) (cb : Array Value) (w0 : World) (blk off cap n : Nat) (hS : StableSays P k enc cf tg g cb w0 blk off cap n) (hsz : n < 4611686018427387904)
    (d : Array α) (w : World) (S : SWb enc k w0 blk off d w) (hn : d.size = n) (ht : ∀ p q, p < q → q < n → tg d[p]! < tg d[q]!) :
    Calls P 35 #[.slice (some ⟨blk, off, none⟩) n cap, .func (.func g) #[] cb] w fun e w' => e = .returned (.tuple #[]) ∧ ∃ d', SWb enc k w0 blk off d' w' ∧ PermIn 0 n d d' ∧ SortedIn (ltT cf tg) 0 n d' := by
  have mixed := L.mixed; have t0 := L.t0; have a0 := L.a0; have z0 := L.z0; have v0 := L.v0; have t3 := L.t3; have a3 := L.a3; have z3 := L.z3; have v3 := L.v3; have t57 := L.t57; have a57 := L.a57; have z57 := L.z57; have v57 := L.v57; have t61 := L.t61; have a61 := L.a61; have z61 := L.z61; have v61 := L.v61
  have e63 : ∀ args w, (callFunc 63 args).run P w = .ok (.enter 63 args) w := enters_of L.f63 (by kernel_rfl) rfl
  have hc := hS d w S hn ht
  clear hS S ht
  go_enter L.f35, Try.ntmps35
  go_wp2_with (go_at_fn 63; refine hc.mono ?_; clear hc; rintro e w1 ⟨rfl, d1, S1, h1, h2⟩)
  go_end0
  exact ⟨rfl, d1, S1, h1, h2⟩
end

/-- An entry in memory: its eight cells, the term that was given, what it is erased, how many stood ahead of it. -/
structure Ent (w0 : World) (blk : Nat) where
  x : Q8
  T : Tm
  tag : Nat
  hT : TmIn (fun b => b ≠ blk ∧ b < w0.heap.size) w0 x.p.val T
  hE : TmIn (fun b => b ≠ blk ∧ b < w0.heap.size) w0 x.r.val T.er
  hs : T.size ≤ 1000000000000
def zeroTm : Tm := .mk 0 0 (ByteArray.mk #[]) []
theorem zeroTm_er : zeroTm.er = zeroTm := by unfold zeroTm; rw [Tm.er_else (fun e => absurd e.1 (by decide))]; rfl
theorem zeroTm_in (p : Nat → Prop) (w : World) : TmIn p w (.agg #[.int .i64 0, .int .i64 0, .string (ByteArray.mk #[]), .slice none 0 0]) zeroTm :=
  (noTs p w).term ⟨by decide, by decide⟩ ⟨by decide, by decide⟩ (Nat.zero_le _)
instance (w0 : World) (blk : Nat) : Inhabited (Ent w0 blk) := ⟨⟨⟨⟨0, 0, ByteArray.mk #[], none, 0, 0⟩, ⟨0, 0, ByteArray.mk #[], none, 0, 0⟩⟩, zeroTm, 0, zeroTm_in _ _, by rw [zeroTm_er]; exact zeroTm_in _ _, by unfold zeroTm; rw [Tm.size_mk, Tm.sizes_nil]; omega⟩⟩
def Ent.enc {w0 : World} {blk : Nat} (e : Ent w0 blk) : List Value := e.x.cells
def Ent.cf {w0 : World} {blk : Nat} (e f : Ent w0 blk) : Int := e.T.er.cmp f.T.er
theorem Ent.tot {w0 : World} {blk : Nat} : Tot (Ent.cf (w0 := w0) (blk := blk)) where
  neg x y := Tm.cmp_neg _ _
  v x y z := Tm.cmp_v _ _ _
  rng x y := Tm.cmp_rng _ _
theorem Ent.row {w0 : World} {blk : Nat} (h : blk < w0.heap.size) : RowB (Ent.enc (w0 := w0) (blk := blk)) 8 w0 blk := ⟨fun x => x.x.cells_length, fun x => x.x.cells_one, h⟩
theorem Ent.at {w0 W : World} {blk off : Nat} {d : Array (Ent w0 blk)} (S : SWb Ent.enc 8 w0 blk off d W) {v : Value} {T : Tm} (h : TmIn (fun b => b ≠ blk ∧ b < w0.heap.size) w0 v T) : Has W v T :=
  h.carry (fun b hb => S.keep b hb.2 hb.1) (fun b hb => Nat.lt_of_lt_of_le hb.2 S.size)
theorem Ent.cmp_says {w0 : World} {blk off n : Nat} : CmpB Try.prog 36 #[] (Ent.enc (w0 := w0) (blk := blk)) 8 Ent.cf w0 blk off n := fun W dk S _ x y =>
  entries_at x.x y.x x.T.er y.T.er W (Ent.at S x.hE) (Ent.at S y.hE) (Nat.le_trans (Tm.er_size _) x.hs) (Nat.le_trans (Tm.er_size _) y.hs)
def Ent.ef {w0 : World} {blk : Nat} (e f : Ent w0 blk) : Bool := decide (e.T.er.cmp f.T.er = 0)
theorem Ent.eq_says {w0 : World} {blk off n : Nat} : EqB Try.prog 38 #[] (Ent.enc (w0 := w0) (blk := blk)) 8 Ent.ef w0 blk off n := fun W dk S _ x y =>
  eqEntries_at x.x y.x x.T.er y.T.er W (Ent.at S x.hE) (Ent.at S y.hE) (Nat.le_trans (Tm.er_size _) x.hs) (Nat.le_trans (Tm.er_size _) y.hs)
theorem zeroEntry (w : World) : (zeroValue 59).run Try.prog w = .ok (.agg #[.int .i64 0, .int .i64 0, .string (ByteArray.mk #[]), .slice none 0 0, .int .i64 0, .int .i64 0, .string (ByteArray.mk #[]), .slice none 0 0]) w := by kernel_rfl
end Go.Proofs.Ytnkfjomnpnbidaa

namespace Go.Proofs.Ytnkfjomnpnbidaa
open Go.Shelf Go.RowKit Go.Lib Go.Sort
set_option linter.unusedVariables false

theorem infoEntry : (Try.prog.info? 59).map (fun i => (i.zero, i.size, i.bytes)) = some (some (.agg #[.int .i64 0, .int .i64 0, .string (ByteArray.mk #[]), .slice none 0 0, .int .i64 0, .int .i64 0, .string (ByteArray.mk #[]), .slice none 0 0]), 8, 112) := by kernel_rfl
abbrev zero8 : Array Value := #[.int .i64 0, .int .i64 0, .string (ByteArray.mk #[]), .slice none 0 0, .int .i64 0, .int .i64 0, .string (ByteArray.mk #[]), .slice none 0 0]
theorem make_entries (n : Nat) (h : n ≤ 1000000000000) (w : World) :
    (Instr.makeSlice 57 (.int .i64 (n : Int)) (.int .i64 (n : Int))).run Try.prog w = .ok (.slice (some ⟨w.heap.size, 0, none⟩) n n) (w.alloc (.cells (madeCells #[.int .i64 0, .int .i64 0, .string (ByteArray.mk #[]), .slice none 0 0, .int .i64 0, .int .i64 0, .string (ByteArray.mk #[]), .slice none 0 0] (n * 8)) 59)) := by
  obtain ⟨i, hi, hz, hs, hb⟩ := info_parts infoEntry
  have hr := run_make (P := Try.prog) w 57 59 i _ Try.underlying57 hi hz .i64 .i64 n n (by omega) (Int.le_refl _) (by rw [hb]; omega) (by omega)
  simp only [Int.toNat_natCast, hs] at hr
  exact hr

/-- The row, its first places filled. -/
structure FillE (w W : World) (B c len : Nat) (ks : List Tm) : Prop where
  row : ∃ cur : Array Value, W.heap[B]? = some (.cells cur 59 (0, 0)) ∧ cur.size = len * 8
  ents : ∀ i t, i < c → ks[i]? = some t → ∃ x : Q8, (∀ j u, x.cells[j]? = some u → W.cell? ⟨B, i * 8 + j, none⟩ = some u) ∧ TmIn (fun b => b < w.heap.size) w x.p.val t ∧ TmIn (fun b => B < b ∧ b < W.heap.size) W x.r.val t.er

theorem FillE.spot {w W : World} {B c len : Nat} {ks : List Tm} (h : FillE w W B c len ks) (i : Nat) (hi : i < len) :
    ∃ u0 u1 u2 u3 u4 u5 u6 u7, W.cell? ⟨B, i * 8, none⟩ = some u0 ∧ W.cell? ⟨B, i * 8 + 1, none⟩ = some u1 ∧ W.cell? ⟨B, i * 8 + 2, none⟩ = some u2 ∧ W.cell? ⟨B, i * 8 + 3, none⟩ = some u3 ∧ W.cell? ⟨B, i * 8 + 4, none⟩ = some u4 ∧ W.cell? ⟨B, i * 8 + 5, none⟩ = some u5 ∧ W.cell? ⟨B, i * 8 + 6, none⟩ = some u6 ∧ W.cell? ⟨B, i * 8 + 7, none⟩ = some u7 ∧ ∀ j, W.frozen? ⟨B, j, none⟩ = false := by
  obtain ⟨cur, h1, h2⟩ := h.row
  have e : ∀ j, j < len * 8 → ∃ u, W.cell? ⟨B, j, none⟩ = some u := fun j hj => ⟨cur[j], by simp [World.cell?, h1, Array.getElem?_eq_getElem (show j < cur.size by omega)]⟩
  obtain ⟨u0, e0⟩ := e (i * 8) (by omega)
  obtain ⟨u1, e1⟩ := e (i * 8 + 1) (by omega)
  obtain ⟨u2, e2⟩ := e (i * 8 + 2) (by omega)
  obtain ⟨u3, e3⟩ := e (i * 8 + 3) (by omega)
  obtain ⟨u4, e4⟩ := e (i * 8 + 4) (by omega)
  obtain ⟨u5, e5⟩ := e (i * 8 + 5) (by omega)
  obtain ⟨u6, e6⟩ := e (i * 8 + 6) (by omega)
  obtain ⟨u7, e7⟩ := e (i * 8 + 7) (by omega)
  exact ⟨u0, u1, u2, u3, u4, u5, u6, u7, e0, e1, e2, e3, e4, e5, e6, e7, fun j => by simp [World.frozen?, h1]⟩
theorem FillE.below {w W W' : World} {B c len : Nat} {ks : List Tm} (h : FillE w W B c len ks) (hb : Below W.heap.size W W') : FillE w W' B c len ks := by
  obtain ⟨cur, h1, h2⟩ := h.row
  have hlt : B < W.heap.size := (Array.getElem?_eq_some_iff.1 h1).1
  refine ⟨⟨cur, (hb.block B hlt).trans h1, h2⟩, fun i t hi ht => ?_⟩
  obtain ⟨x, hc, hT, hE⟩ := h.ents i t hi ht
  exact ⟨x, fun j u hj => (hb.cell (p := ⟨B, _, none⟩) hlt).trans (hc j u hj), hT, hE.carry (fun b hp => hb.block b hp.2) (fun b hp => ⟨hp.1, Nat.lt_of_lt_of_le hp.2 hb.size⟩)⟩

theorem FillE.set {w W : World} {B c len : Nat} {ks : List Tm} (h : FillE w W B c len ks) (hc : c < len) {t : Tm} (ht : ks[c]? = some t) (x : Q8) (hT : TmIn (fun b => b < w.heap.size) w x.p.val t) (hE : TmIn (fun b => B < b ∧ b < W.heap.size) W x.r.val t.er) :
    FillE w ((((((((W.setCell ⟨B, c * 8, none⟩ (.int .i64 x.p.k)).setCell ⟨B, c * 8 + 1, none⟩ (.int .i64 x.p.n)).setCell ⟨B, c * 8 + 2, none⟩ (.string x.p.s)).setCell ⟨B, c * 8 + 3, none⟩ (.slice x.p.a x.p.l x.p.c)).setCell ⟨B, c * 8 + 4, none⟩ (.int .i64 x.r.k)).setCell ⟨B, c * 8 + 5, none⟩ (.int .i64 x.r.n)).setCell ⟨B, c * 8 + 6, none⟩ (.string x.r.s)).setCell ⟨B, c * 8 + 7, none⟩ (.slice x.r.a x.r.l x.r.c)) B (c + 1) len ks := by
  obtain ⟨cur, h1, h2⟩ := h.row
  have e1 := set_block (o := c * 8 + 7) (set_block (o := c * 8 + 6) (set_block (o := c * 8 + 5) (set_block (o := c * 8 + 4) (set_block (o := c * 8 + 3) (set_block (o := c * 8 + 2) (set_block (o := c * 8 + 1) (set_block (o := c * 8) h1 (.int .i64 x.p.k)) (.int .i64 x.p.n)) (.string x.p.s)) (.slice x.p.a x.p.l x.p.c)) (.int .i64 x.r.k)) (.int .i64 x.r.n)) (.string x.r.s)) (.slice x.r.a x.r.l x.r.c)
  have eo : ∀ b, b ≠ B → ((((((((W.setCell ⟨B, c * 8, none⟩ (.int .i64 x.p.k)).setCell ⟨B, c * 8 + 1, none⟩ (.int .i64 x.p.n)).setCell ⟨B, c * 8 + 2, none⟩ (.string x.p.s)).setCell ⟨B, c * 8 + 3, none⟩ (.slice x.p.a x.p.l x.p.c)).setCell ⟨B, c * 8 + 4, none⟩ (.int .i64 x.r.k)).setCell ⟨B, c * 8 + 5, none⟩ (.int .i64 x.r.n)).setCell ⟨B, c * 8 + 6, none⟩ (.string x.r.s)).setCell ⟨B, c * 8 + 7, none⟩ (.slice x.r.a x.r.l x.r.c)).heap[b]? = W.heap[b]? := fun b hb => by
    rw [Below.heap_setCell _ _ _ _ hb, Below.heap_setCell _ _ _ _ hb, Below.heap_setCell _ _ _ _ hb, Below.heap_setCell _ _ _ _ hb, Below.heap_setCell _ _ _ _ hb, Below.heap_setCell _ _ _ _ hb, Below.heap_setCell _ _ _ _ hb, Below.heap_setCell _ _ _ _ hb]
  have es : ((((((((W.setCell ⟨B, c * 8, none⟩ (.int .i64 x.p.k)).setCell ⟨B, c * 8 + 1, none⟩ (.int .i64 x.p.n)).setCell ⟨B, c * 8 + 2, none⟩ (.string x.p.s)).setCell ⟨B, c * 8 + 3, none⟩ (.slice x.p.a x.p.l x.p.c)).setCell ⟨B, c * 8 + 4, none⟩ (.int .i64 x.r.k)).setCell ⟨B, c * 8 + 5, none⟩ (.int .i64 x.r.n)).setCell ⟨B, c * 8 + 6, none⟩ (.string x.r.s)).setCell ⟨B, c * 8 + 7, none⟩ (.slice x.r.a x.r.l x.r.c)).heap.size = W.heap.size := by simp
  generalize ((((((((W.setCell ⟨B, c * 8, none⟩ (.int .i64 x.p.k)).setCell ⟨B, c * 8 + 1, none⟩ (.int .i64 x.p.n)).setCell ⟨B, c * 8 + 2, none⟩ (.string x.p.s)).setCell ⟨B, c * 8 + 3, none⟩ (.slice x.p.a x.p.l x.p.c)).setCell ⟨B, c * 8 + 4, none⟩ (.int .i64 x.r.k)).setCell ⟨B, c * 8 + 5, none⟩ (.int .i64 x.r.n)).setCell ⟨B, c * 8 + 6, none⟩ (.string x.r.s)).setCell ⟨B, c * 8 + 7, none⟩ (.slice x.r.a x.r.l x.r.c)) = W' at e1 eo es ⊢
  have hcarry : ∀ {v : Value} {T : Tm}, TmIn (fun b => B < b ∧ b < W.heap.size) W v T → TmIn (fun b => B < b ∧ b < W'.heap.size) W' v T := fun hh =>
    hh.carry (fun b hb => eo b (by omega)) (fun b hb => ⟨hb.1, by rw [es]; exact hb.2⟩)
  have cell' : ∀ j, W'.cell? ⟨B, j, none⟩ = ((((((((cur.setIfInBounds (c * 8) (.int .i64 x.p.k)).setIfInBounds (c * 8 + 1) (.int .i64 x.p.n)).setIfInBounds (c * 8 + 2) (.string x.p.s)).setIfInBounds (c * 8 + 3) (.slice x.p.a x.p.l x.p.c)).setIfInBounds (c * 8 + 4) (.int .i64 x.r.k)).setIfInBounds (c * 8 + 5) (.int .i64 x.r.n)).setIfInBounds (c * 8 + 6) (.string x.r.s)).setIfInBounds (c * 8 + 7) (.slice x.r.a x.r.l x.r.c))[j]? := fun j => by simp [World.cell?, e1]
  have cell0 : ∀ j, W.cell? ⟨B, j, none⟩ = cur[j]? := fun j => by simp [World.cell?, h1]
  refine ⟨⟨_, e1, by simp [h2]⟩, fun i u hi hu => ?_⟩
  by_cases hic : i = c
  · subst hic
    rw [ht] at hu
    cases hu
    refine ⟨x, fun j u hu => ?_, hT, hcarry hE⟩
    have hj8 : j < 8 := by have := (List.getElem?_eq_some_iff.1 hu).1; rw [Q8.cells_length] at this; exact this
    rcases (by omega : j = 0 ∨ j = 1 ∨ j = 2 ∨ j = 3 ∨ j = 4 ∨ j = 5 ∨ j = 6 ∨ j = 7) with rfl | rfl | rfl | rfl | rfl | rfl | rfl | rfl
    · cases hu; rw [Nat.add_zero, cell', Array.getElem?_setIfInBounds_ne (by omega), Array.getElem?_setIfInBounds_ne (by omega), Array.getElem?_setIfInBounds_ne (by omega), Array.getElem?_setIfInBounds_ne (by omega), Array.getElem?_setIfInBounds_ne (by omega), Array.getElem?_setIfInBounds_ne (by omega), Array.getElem?_setIfInBounds_ne (by omega), Array.getElem?_setIfInBounds_self_of_lt (by omega)]
    · cases hu; rw [cell', Array.getElem?_setIfInBounds_ne (by omega), Array.getElem?_setIfInBounds_ne (by omega), Array.getElem?_setIfInBounds_ne (by omega), Array.getElem?_setIfInBounds_ne (by omega), Array.getElem?_setIfInBounds_ne (by omega), Array.getElem?_setIfInBounds_ne (by omega), Array.getElem?_setIfInBounds_self_of_lt (by simp; omega)]
    · cases hu; rw [cell', Array.getElem?_setIfInBounds_ne (by omega), Array.getElem?_setIfInBounds_ne (by omega), Array.getElem?_setIfInBounds_ne (by omega), Array.getElem?_setIfInBounds_ne (by omega), Array.getElem?_setIfInBounds_ne (by omega), Array.getElem?_setIfInBounds_self_of_lt (by simp; omega)]
    · cases hu; rw [cell', Array.getElem?_setIfInBounds_ne (by omega), Array.getElem?_setIfInBounds_ne (by omega), Array.getElem?_setIfInBounds_ne (by omega), Array.getElem?_setIfInBounds_ne (by omega), Array.getElem?_setIfInBounds_self_of_lt (by simp; omega)]
    · cases hu; rw [cell', Array.getElem?_setIfInBounds_ne (by omega), Array.getElem?_setIfInBounds_ne (by omega), Array.getElem?_setIfInBounds_ne (by omega), Array.getElem?_setIfInBounds_self_of_lt (by simp; omega)]
    · cases hu; rw [cell', Array.getElem?_setIfInBounds_ne (by omega), Array.getElem?_setIfInBounds_ne (by omega), Array.getElem?_setIfInBounds_self_of_lt (by simp; omega)]
    · cases hu; rw [cell', Array.getElem?_setIfInBounds_ne (by omega), Array.getElem?_setIfInBounds_self_of_lt (by simp; omega)]
    · cases hu; rw [cell', Array.getElem?_setIfInBounds_self_of_lt (by simp; omega)]
  · obtain ⟨y, hc', hT', hE'⟩ := h.ents i u (by omega) hu
    have other : ∀ j, j < c * 8 → W'.cell? ⟨B, j, none⟩ = W.cell? ⟨B, j, none⟩ := fun j hj => by
      rw [cell', cell0, Array.getElem?_setIfInBounds_ne (by omega), Array.getElem?_setIfInBounds_ne (by omega), Array.getElem?_setIfInBounds_ne (by omega), Array.getElem?_setIfInBounds_ne (by omega), Array.getElem?_setIfInBounds_ne (by omega), Array.getElem?_setIfInBounds_ne (by omega), Array.getElem?_setIfInBounds_ne (by omega), Array.getElem?_setIfInBounds_ne (by omega)]
    refine ⟨y, fun j u hj => ?_, hT', hcarry hE'⟩
    have hj8 : j < 8 := by have := (List.getElem?_eq_some_iff.1 hj).1; rw [Q8.cells_length] at this; exact this
    rw [other _ (by omega)]; exact hc' j u hj
end Go.Proofs.Ytnkfjomnpnbidaa
