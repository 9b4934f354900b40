/-
  What the laws of layer 4 have in common: torcherelaw04.few, the document's examples.
-/
import Derived.Test.YtllggpmmcamkmaaSeal4
import Derived.Test.YtllggpmmcamkmaaSeal6
import Derived.Test.YtllggpmmcamkmaaChain
import Derived.Test.YtllggpmmcamkmaaSame
import Derived.Test.YtllggpmmcamkmaaChecksM
namespace Go.Proofs.Ytllggpmmcamkmaa
open Go.RowKit Go.Shelf
open Classical
set_option linter.unusedVariables false

theorem below_al {A X : World} {o : Obj} (h : Below A.heap.size A X) : Below A.heap.size A (X.alloc o) := h.alloc h.size o
theorem below_dr {A X : World} (h : Below A.heap.size A X) : Below A.heap.size A X.drew := h.drew
theorem below_tr {A X W : World} (h : Below X.heap.size X W) (k : Below A.heap.size A X) : Below A.heap.size A W := k.trans (h.mono k.size)

theorem NewOpen.has {w w' : World} {T : Tm} {m : Nat} {e : Ending} (h : NewOpen w T m e w') : ∃ k n s a len cap, e = .returned (.tuple #[.agg #[.int .i64 k, .int .i64 n, .string s, .slice a len cap], .int .i64 (m : Int)]) ∧ Has w' (.agg #[.int .i64 k, .int .i64 n, .string s, .slice a len cap]) T ∧ Below w.heap.size w w' := by
  obtain ⟨r, rfl, hr, hb⟩ := h
  obtain ⟨k, n, s, a, len, cap, ks, rfl, -⟩ := hr.form
  exact ⟨k, n, s, a, len, cap, rfl, hr.carry (fun _ _ => rfl) (fun b hb => hb.2), hb⟩

theorem same_yes {T U : Tm} (e : T = U) (u v : Value) (w : World) (hu : Has w u T) (hv : Has w v U) (hs : T.size ≤ 1000000000000) : Calls Try.prog 21 #[u, v] w (Gets w (.bool true)) := by
  subst e
  have := same_at T T u v w hu hv hs hs
  rwa [decide_eq_true rfl] at this

set_option maxRecDepth 100000 in
theorem sfew_at (v : Value) (T : Tm) (w : World) (hv : Has w v T) (hs : T.size ≤ 1000000000000) :
    Calls Try.prog 27 #[v] w (Gets w (.bool (decide (T.size ≤ 2000)))) := by
  obtain ⟨k, n, s, a, len, cap, ks, rfl, e, -⟩ := hv.form
  clear e
  have hb : Below w.heap.size w (w.alloc (.cells #[.int .i64 k, .int .i64 n, .string s, .slice a len cap] 24)) := (Below.refl _ w).alloc (Nat.le_refl _) _
  have h := (rsize_at T _ _ (Has.below hv hb) hs).mono (R' := Gets w (.int .i64 (T.size : Int))) (fun e w2 h => ⟨h.1, hb.trans (h.2.mono hb.size)⟩)
  clear hv hb
  go_enter Try.func27, Try.ntmps27
  go_wp2_with (go_at_call 15; refine h.mono ?_; clear h; rintro e w2 ⟨rfl, hB⟩)
  go_ret
  refine ⟨congrArg (fun b => Ending.returned (Value.bool b)) ?_, hB⟩
  rw [Bool.eq_iff_iff]
  simp
  omega

def exA : Tm := .mk 3 0 (ByteArray.mk #[97]) []
def exP (l : Int) : Tm := putT exA l
def exV (l : Int) : Tm := .mk 3 0 (ByteArray.mk #[102]) [exP l]
def exU : Tm := .mk 3 0 (ByteArray.mk #[102]) [exA]
def exQ : Tm := putT exU 1
theorem exV_join : (exV 2).jC 4 0 = 2 := by decide
theorem exV_er : (exV 2).er = exU := by
  unfold exV exU exP
  rw [Tm.er_else (fun e => absurd e.1 (by decide)), List.map_cons, List.map_nil, putT, Tm.er_wraps, exA, Tm.er_else (fun e => absurd e.1 (by decide)), List.map_nil]
theorem exQ_open : exQ.openC 4 = (exV 1, 1) := by
  unfold exQ
  have := open_put (N := 4) (x := 1) (by decide) exU
  rw [show ((1 : Nat) : Int) = 1 from rfl] at this
  rw [this]
  unfold exU
  rw [Tm.strip_else (fun e => absurd e.1 (by decide))]
  rfl
theorem exA_at (w : World) : Calls Try.prog 47 #[.string (ByteArray.mk #[97])] w (NewTm w exA) := atom_at _ w (by unfold maxLen; decide)
theorem exP_at (v : Value) (l : Int) (w : World) (hl : i64ok l) (hv : Has w v exA) : Calls Try.prog 38 #[v, .int .i64 l] w (NewTm w (exP l)) := put_at v exA l w hl hv (by decide)
theorem exQ_at (v : Value) (w : World) (hv : Has w v exU) : Calls Try.prog 38 #[v, .int .i64 1] w (NewTm w exQ) := put_at v exU 1 w ⟨by decide, by decide⟩ hv (by decide)
theorem exV_size (l : Int) : (exV l).size ≤ 1000 := by unfold exV exP; rw [Tm.size_mk, Tm.sizes_cons, Tm.sizes_nil, putT, Tm.size_mk, Tm.sizes_cons, Tm.sizes_nil]; decide
theorem exV_at (v : Value) (l : Int) (w : World) (hv : HasTs w v [exP l]) : Calls Try.prog 39 #[.string (ByteArray.mk #[102]), v] w (NewTm w (exV l)) :=
  make_at _ v [exP l] w (by unfold maxLen; decide) hv (by have := exV_size l; unfold exV at this; rw [Tm.size_mk] at this; omega)
theorem exU_at (v : Value) (w : World) (hv : HasTs w v [exA]) : Calls Try.prog 39 #[.string (ByteArray.mk #[102]), v] w (NewTm w exU) := make_at _ v [exA] w (by unfold maxLen; decide) hv (by decide)
theorem exO_at (v : Value) (w : World) (b : Nat) (hL : ChainAt w b 4) (hv : Has w v exQ) : Calls Try.prog 29 #[.pointer (some ⟨b, 0, none⟩), v] w (NewOpen w (exV 1) 1) := by
  have := open_at v exQ w b 4 hL hv (by decide)
  rwa [exQ_open] at this
theorem exJ_at (v : Value) (w : World) (b : Nat) (hL : ChainAt w b 4) (hv : Has w v (exV 2)) : Calls Try.prog 31 #[.pointer (some ⟨b, 0, none⟩), v] w (Gets w (.int .i64 2)) := by
  have := sjoin_at v (exV 2) w b 4 hL hv (by decide)
  rwa [exV_join] at this
theorem exE_at (v : Value) (w : World) (hv : Has w v (exV 2)) : Calls Try.prog 30 #[v] w (NewTm w exU) := by
  have := erase_at v (exV 2) w hv (by decide)
  rwa [exV_er] at this
theorem exS_at (u v : Value) (w : World) (hu : Has w u (exV 1)) (hv : Has w v (exV 1)) : Calls Try.prog 21 #[u, v] w (Gets w (.bool true)) := same_yes rfl u v w hu hv (by decide)
theorem exR_at (u v : Value) (w : World) (hu : Has w u exU) (hv : Has w v exU) : Calls Try.prog 21 #[u, v] w (Gets w (.bool true)) := same_yes rfl u v w hu hv (by decide)

set_option maxRecDepth 100000 in
set_option maxHeartbeats 8000000 in
theorem sshown_at (w : World) : Calls Try.prog 25 #[] w (Gets w (.bool true)) := by
  have hch := (chain_at 3 w (by decide)).mono (R' := fun e w' => ∃ b, e = .returned (.pointer (some ⟨b, 0, none⟩)) ∧ ChainAt w' b 4 ∧ Below w.heap.size w w') (fun _ _ h => h)
  rw [show (((3 : Nat) : Int) + 1) = 4 from rfl] at hch
  have i1 := Lib.hid (show i64ok 1 from ⟨by decide, by decide⟩)
  have i2 := Lib.hid (show i64ok 2 from ⟨by decide, by decide⟩)
  go_enter Try.func25, Try.ntmps25
  go_wp2_with (first
      | (go_at_call 29; (with_reducible refine Calls.mono (exO_at _ w7 lb ?_ ?_) ?_); ((with_reducible refine ChainAt.below hL1 ?_); (repeat (first | with_reducible exact Below.refl _ _ | with_reducible apply below_al | with_reducible apply below_dr | ((with_reducible apply below_tr); (with_reducible assumption))))); ((with_reducible refine Has.below h7 ?_); (repeat (first | with_reducible exact Below.refl _ _ | with_reducible apply below_al | with_reducible apply below_dr | ((with_reducible apply below_tr); (with_reducible assumption))))); intro r w8 h8; obtain ⟨k8, n8, s8, a8, l8, c8, rfl, h8, b8⟩ := h8.has)
      | (go_at_call 38; (with_reducible refine Calls.mono (exQ_at _ w6 ?_) ?_); ((with_reducible refine Has.below h6 ?_); (repeat (first | with_reducible exact Below.refl _ _ | with_reducible apply below_al | with_reducible apply below_dr | ((with_reducible apply below_tr); (with_reducible assumption))))); intro r w7 h7; obtain ⟨k7, n7, s7, a7, l7, c7, rfl, h7, b7⟩ := h7.has)
      | (go_at_call 39; (with_reducible refine Calls.mono (exU_at _ _ ?_) ?_); (with_reducible exact one_term h5); intro r w6 h6; obtain ⟨k6, n6, s6, a6, l6, c6, rfl, h6, b6⟩ := h6.has)
      | (go_at_call 47; (with_reducible refine Calls.mono (exA_at (w4.alloc (.cells #[.int .i64 k4, .int .i64 n4, .string s4, .slice a4 l4 c4] 24))) ?_); intro r w5 h5; obtain ⟨k5, n5, s5, a5, l5, c5, rfl, h5, b5⟩ := h5.has)
      | (go_at_call 39; (with_reducible refine Calls.mono (exV_at _ 2 _ ?_) ?_); (with_reducible exact one_term h3); intro r w4 h4; obtain ⟨k4, n4, s4, a4, l4, c4, rfl, h4, b4⟩ := h4.has)
      | (go_at_call 38; (with_reducible refine Calls.mono (exP_at _ 2 w2 i2.out ?_) ?_); ((with_reducible refine Has.below h2 ?_); (repeat (first | with_reducible exact Below.refl _ _ | with_reducible apply below_al | with_reducible apply below_dr | ((with_reducible apply below_tr); (with_reducible assumption))))); intro r w3 h3; obtain ⟨k3, n3, s3, a3, l3, c3, rfl, h3, b3⟩ := h3.has)
      | (go_at_call 47; (with_reducible refine Calls.mono (exA_at w1) ?_); intro r w2 h2; obtain ⟨k2, n2, s2, a2, l2, c2, rfl, h2, b2⟩ := h2.has)
      | (go_at_call 26; (with_reducible refine hch.mono ?_); rintro e w1 ⟨lb, rfl, hL1, b1⟩))
  obtain ⟨w9, hw9⟩ : ∃ w9, w9 = w8.alloc (.cells #[.int .i64 k8, .int .i64 n8, .string s8, .slice a8 l8 c8] 24) := ⟨_, rfl⟩
  rw [← hw9]
  have b9 : Below w8.heap.size w8 w9 := by rw [hw9]; exact (Below.refl _ _).alloc (Nat.le_refl _) _
  have x3 : w9.heap[w8.heap.size]? = some (.cells #[.int .i64 k8, .int .i64 n8, .string s8, .slice a8 l8 c8] 24 (0, 0)) := by rw [hw9]; exact World.alloc_heap_new _ _
  have h49 : Has w9 (.agg #[.int .i64 k4, .int .i64 n4, .string s4, .slice a4 l4 c4]) (exV 2) := by (with_reducible refine Has.below h4 ?_); (repeat (first | with_reducible exact Below.refl _ _ | with_reducible apply below_al | with_reducible apply below_dr | ((with_reducible apply below_tr); (with_reducible assumption))))
  have h89 : Has w9 (.agg #[.int .i64 k8, .int .i64 n8, .string s8, .slice a8 l8 c8]) (exV 1) := by (with_reducible refine Has.below h8 ?_); (repeat (first | with_reducible exact Below.refl _ _ | with_reducible apply below_al | with_reducible apply below_dr | ((with_reducible apply below_tr); (with_reducible assumption))))
  have hL9 : ChainAt w9 lb 4 := by (refine ChainAt.below hL1 ?_; (repeat (first | with_reducible exact Below.refl _ _ | with_reducible apply below_al | with_reducible apply below_dr | ((with_reducible apply below_tr); (with_reducible assumption)))))
  have HBW := Lib.hid (show Below w.heap.size w w9 by (repeat (first | with_reducible exact Below.refl _ _ | with_reducible apply below_al | with_reducible apply below_dr | ((with_reducible apply below_tr); (with_reducible assumption)))))
  have x2 : w9.heap[w4.heap.size]? = some (.cells #[.int .i64 k4, .int .i64 n4, .string s4, .slice a4 l4 c4] 24 (0, 0)) := tbox_below (World.alloc_heap_new _ _) (show Below (w4.alloc (.cells #[.int .i64 k4, .int .i64 n4, .string s4, .slice a4 l4 c4] 24)).heap.size (w4.alloc (.cells #[.int .i64 k4, .int .i64 n4, .string s4, .slice a4 l4 c4] 24)) w9 by (repeat (first | with_reducible exact Below.refl _ _ | with_reducible apply below_al | with_reducible apply below_dr | ((with_reducible apply below_tr); (with_reducible assumption)))))
  obtain ⟨g0, g1, g2, g3⟩ := tbox_cells x2
  obtain ⟨g4, g5, g6, g7⟩ := tbox_cells x3
  have lt2 := (Array.getElem?_eq_some_iff.1 x2).1
  have lt3 := (Array.getElem?_eq_some_iff.1 x3).1
  obtain ⟨B2, eB2⟩ : ∃ B2, w4.heap.size = B2 := ⟨_, rfl⟩
  obtain ⟨B3, eB3⟩ : ∃ B3, w8.heap.size = B3 := ⟨_, rfl⟩
  simp only [eB2, eB3] at g0 g1 g2 g3 g4 g5 g6 g7 lt2 lt3 ⊢
  have HS : ∀ w', Below w9.heap.size w9 w' → (w'.cell? ⟨B2, 0, none⟩ = some (.int .i64 k4) ∧ w'.cell? ⟨B2, 1, none⟩ = some (.int .i64 n4) ∧ w'.cell? ⟨B2, 2, none⟩ = some (.string s4) ∧ w'.cell? ⟨B2, 3, none⟩ = some (.slice a4 l4 c4) ∧ w'.cell? ⟨B3, 0, none⟩ = some (.int .i64 k8) ∧ w'.cell? ⟨B3, 1, none⟩ = some (.int .i64 n8) ∧ w'.cell? ⟨B3, 2, none⟩ = some (.string s8) ∧ w'.cell? ⟨B3, 3, none⟩ = some (.slice a8 l8 c8) ∧ Below w9.heap.size w9 w') := fun w' hb =>
    ⟨(hb.cell (p := ⟨_, _, none⟩) lt2).trans g0, (hb.cell (p := ⟨_, _, none⟩) lt2).trans g1, (hb.cell (p := ⟨_, _, none⟩) lt2).trans g2, (hb.cell (p := ⟨_, _, none⟩) lt2).trans g3, (hb.cell (p := ⟨_, _, none⟩) lt3).trans g4, (hb.cell (p := ⟨_, _, none⟩) lt3).trans g5, (hb.cell (p := ⟨_, _, none⟩) lt3).trans g6, (hb.cell (p := ⟨_, _, none⟩) lt3).trans g7, hb⟩
  clear b9 x2 x3 h2 h3 h4 h5 h6 h7 h8 b1 b2 b3 b4 b5 b6 b7 b8 hL1 hch eB2 eB3 g0 g1 g2 g3 g4 g5 g6 g7 lt2 lt3 hw9
  go_region_held3 (fun w' => w'.cell? ⟨B2, 0, none⟩ = some (.int .i64 k4) ∧ w'.cell? ⟨B2, 1, none⟩ = some (.int .i64 n4) ∧ w'.cell? ⟨B2, 2, none⟩ = some (.string s4) ∧ w'.cell? ⟨B2, 3, none⟩ = some (.slice a4 l4 c4) ∧ w'.cell? ⟨B3, 0, none⟩ = some (.int .i64 k8) ∧ w'.cell? ⟨B3, 1, none⟩ = some (.int .i64 n8) ∧ w'.cell? ⟨B3, 2, none⟩ = some (.string s8) ∧ w'.cell? ⟨B3, 3, none⟩ = some (.slice a8 l8 c8) ∧ Below w9.heap.size w9 w')
    (exact HS _ (by (repeat (first | with_reducible exact Below.refl _ _ | with_reducible apply below_al | with_reducible apply below_dr | ((with_reducible apply below_tr); (with_reducible assumption))))))
    (first
      | (go_at_call 21; (with_reducible refine Calls.mono (exR_at _ _ _ ?_ ?_) ?_); ((with_reducible refine Has.below h15 ?_); (repeat (first | with_reducible exact Below.refl _ _ | with_reducible apply below_al | with_reducible apply below_dr | ((with_reducible apply below_tr); (with_reducible assumption))))); ((with_reducible refine Has.below h17 ?_); (repeat (first | with_reducible exact Below.refl _ _ | with_reducible apply below_al | with_reducible apply below_dr | ((with_reducible apply below_tr); (with_reducible assumption))))); rintro r w18 ⟨rfl, b18⟩)
      | (go_at_call 39; (with_reducible refine Calls.mono (exU_at _ _ ?_) ?_); (with_reducible exact one_term h16); intro r w17 h17; obtain ⟨k17, n17, s17, a17, l17, c17, rfl, h17, b17⟩ := h17.has)
      | (go_at_call 47; (with_reducible refine Calls.mono (exA_at w15) ?_); intro r w16 h16; obtain ⟨k16, n16, s16, a16, l16, c16, rfl, h16, b16⟩ := h16.has)
      | (go_at_call 30; (with_reducible refine Calls.mono (exE_at _ _ ?_) ?_); ((with_reducible refine Has.below h49 ?_); (repeat (first | with_reducible exact Below.refl _ _ | with_reducible apply below_al | with_reducible apply below_dr | ((with_reducible apply below_tr); (with_reducible assumption))))); intro r w15 h15; obtain ⟨k15, n15, s15, a15, l15, c15, rfl, h15, b15⟩ := h15.has)
      | (go_at_call 21; (with_reducible refine Calls.mono (exS_at _ _ _ ?_ ?_) ?_); ((with_reducible refine Has.below h89 ?_); (repeat (first | with_reducible exact Below.refl _ _ | with_reducible apply below_al | with_reducible apply below_dr | ((with_reducible apply below_tr); (with_reducible assumption))))); ((with_reducible refine Has.below h13 ?_); (repeat (first | with_reducible exact Below.refl _ _ | with_reducible apply below_al | with_reducible apply below_dr | ((with_reducible apply below_tr); (with_reducible assumption))))); rintro r w14 ⟨rfl, b14⟩)
      | (go_at_call 39; (with_reducible refine Calls.mono (exV_at _ 1 _ ?_) ?_); (with_reducible exact one_term h12); intro r w13 h13; obtain ⟨k13, n13, s13, a13, l13, c13, rfl, h13, b13⟩ := h13.has)
      | (go_at_call 38; (with_reducible refine Calls.mono (exP_at _ 1 _ i1.out ?_) ?_); ((with_reducible refine Has.below h11 ?_); (repeat (first | with_reducible exact Below.refl _ _ | with_reducible apply below_al | with_reducible apply below_dr | ((with_reducible apply below_tr); (with_reducible assumption))))); intro r w12 h12; obtain ⟨k12, n12, s12, a12, l12, c12, rfl, h12, b12⟩ := h12.has)
      | (go_at_call 47; (with_reducible refine Calls.mono (exA_at w10) ?_); intro r w11 h11; obtain ⟨k11, n11, s11, a11, l11, c11, rfl, h11, b11⟩ := h11.has)
      | (go_at_call 31; (with_reducible refine Calls.mono (exJ_at _ _ lb ?_ ?_) ?_); ((with_reducible refine ChainAt.below hL9 ?_); (repeat (first | with_reducible exact Below.refl _ _ | with_reducible apply below_al | with_reducible apply below_dr | ((with_reducible apply below_tr); (with_reducible assumption))))); ((with_reducible refine Has.below h49 ?_); (repeat (first | with_reducible exact Below.refl _ _ | with_reducible apply below_al | with_reducible apply below_dr | ((with_reducible apply below_tr); (with_reducible assumption))))); rintro r w10 ⟨rfl, b10⟩))
  go_wp2_with fail
  go_ret
  exact ⟨rfl, below_tr (by (repeat (first | with_reducible exact Below.refl _ _ | with_reducible apply below_al | with_reducible apply below_dr | ((with_reducible apply below_tr); (with_reducible assumption))))) HBW.out⟩

end Go.Proofs.Ytllggpmmcamkmaa
