/-
  The laws' few, low, and the document's example.
-/
import Derived.Test.YtlnggaepmclbkaaZCopBn4
import Derived.Test.YtlnggaepmclbkaaZRefCn2
import Derived.Deep.DeepCutAuto
import Derived.Test.YtlnggaepmclbkaaZStoSn2
namespace Go.Proofs.Ytlnggaepmclbkaa
open Go.RowKit Go.Shelf
set_option linter.unusedVariables false
set_option linter.unusedSimpArgs false

theorem NewTm.has13 {w w' : World} {T : Tm} {e : Ending} (h : NewTm w T e w') : ∃ k n s a len cap, e = .returned (.agg #[.int .i64 k, .int .i64 n, .string s, .slice a len cap]) ∧ TmIn (fun b => w.heap.size ≤ b ∧ b < w'.heap.size) w' (.agg #[.int .i64 k, .int .i64 n, .string s, .slice a len cap]) T ∧ Below w.heap.size w w' := by
  obtain ⟨r, rfl, hT, hB⟩ := h
  obtain ⟨k, n, s, a, len, cap, ks, rfl, -⟩ := hT.form
  exact ⟨k, n, s, a, len, cap, rfl, hT, hB⟩
theorem has_new13 {m : Nat} {w : World} {v : Value} {T : Tm} (h : TmIn (fun b => m ≤ b ∧ b < w.heap.size) w v T) : Has w v T := h.carry (fun _ _ => rfl) (fun _ hc => hc.2)
theorem three_terms {w : World} {k1 n1 k2 n2 k3 n3 : Int} {s1 s2 s3 : ByteArray} {a1 a2 a3 : Option Addr} {l1 c1 l2 c2 l3 c3 : Nat} {T1 T2 T3 : Tm} (h1 : Has w (.agg #[.int .i64 k1, .int .i64 n1, .string s1, .slice a1 l1 c1]) T1) (h2 : Has w (.agg #[.int .i64 k2, .int .i64 n2, .string s2, .slice a2 l2 c2]) T2) (h3 : Has w (.agg #[.int .i64 k3, .int .i64 n3, .string s3, .slice a3 l3 c3]) T3) :
    HasTs (w.alloc (.cells #[.int .i64 k1, .int .i64 n1, .string s1, .slice a1 l1 c1, .int .i64 k2, .int .i64 n2, .string s2, .slice a2 l2 c2, .int .i64 k3, .int .i64 n3, .string s3, .slice a3 l3 c3] 24)) (.slice (some ⟨w.heap.size, 0, none⟩) 3 3) [T1, T2, T3] := by
  have hb : Below w.heap.size w (w.alloc (.cells #[.int .i64 k1, .int .i64 n1, .string s1, .slice a1 l1 c1, .int .i64 k2, .int .i64 n2, .string s2, .slice a2 l2 c2, .int .i64 k3, .int .i64 n3, .string s3, .slice a3 l3 c3] 24)) := (Below.refl _ w).alloc (Nat.le_refl _) _
  refine ⟨some ⟨w.heap.size, 0, none⟩, 3, rfl, by simp, by unfold maxLen; omega, (fun h => by cases h), fun i hi => ?_⟩
  have hi' : i = 0 ∨ i = 1 ∨ i = 2 := by simp at hi; omega
  rcases hi' with rfl | rfl | rfl
  · exact ⟨w.heap.size, 0, k1, n1, s1, a1, l1, c1, rfl, by simp, (World.cell?_alloc_new w _ _ _).trans rfl, (World.cell?_alloc_new w _ _ _).trans rfl, (World.cell?_alloc_new w _ _ _).trans rfl, (World.cell?_alloc_new w _ _ _).trans rfl, Has.below h1 hb⟩
  · exact ⟨w.heap.size, 0, k2, n2, s2, a2, l2, c2, rfl, by simp, (World.cell?_alloc_new w _ _ _).trans rfl, (World.cell?_alloc_new w _ _ _).trans rfl, (World.cell?_alloc_new w _ _ _).trans rfl, (World.cell?_alloc_new w _ _ _).trans rfl, Has.below h2 hb⟩
  · exact ⟨w.heap.size, 0, k3, n3, s3, a3, l3, c3, rfl, by simp, (World.cell?_alloc_new w _ _ _).trans rfl, (World.cell?_alloc_new w _ _ _).trans rfl, (World.cell?_alloc_new w _ _ _).trans rfl, (World.cell?_alloc_new w _ _ _).trans rfl, Has.below h3 hb⟩
set_option maxRecDepth 100000 in
set_option maxHeartbeats 4000000 in
theorem few13_at (v : Value) (T : Tm) (w : World) (hv : Has w v T) (hs : T.size ≤ 1000000000000) :
    Calls Try.prog 9 #[v] w (Gets w (.bool (decide (T.size ≤ 300)))) := by
  obtain ⟨k, n, s, a, len, cap, ks, rfl, e, -⟩ := hv.form
  clear e
  have hb : Below w.heap.size w (w.alloc (.cells #[.int .i64 k, .int .i64 n, .string s, .slice a len cap] 24)) := (Below.refl _ w).alloc (Nat.le_refl _) _
  have h := (rsize_at T _ _ (Has.below hv hb) hs).mono (R' := Gets w (.int .i64 (T.size : Int))) (fun e w2 h => ⟨h.1, hb.trans (h.2.mono hb.size)⟩)
  clear hv hb
  go_enter Try.func9, Try.ntmps9
  go_wp2_with (go_at_call 28; refine h.mono ?_; clear h; rintro e w2 ⟨rfl, hB⟩)
  go_ret
  refine ⟨congrArg (fun b => Ending.returned (Value.bool b)) ?_, hB⟩
  rw [Bool.eq_iff_iff]
  simp
  omega

/-- Are all of a term's variables below 12? -/
def Tm.low (T : Tm) : Prop := ∀ x ∈ T.vars, x < 12
open Classical in
set_option maxRecDepth 100000 in
set_option maxHeartbeats 8000000 in
theorem low13_at (v : Value) (T : Tm) (w : World) (hv : Has w v T) (hs : T.size ≤ 1000000000) : Calls Try.prog 18 #[v] w (Gets w (.bool (decide T.low))) := by
  obtain ⟨k, n, s, a, len, cap, ks, rfl, e, -⟩ := hv.form
  clear e
  obtain ⟨w1, hw1⟩ : ∃ w1, w1 = w.alloc (.cells #[.int .i64 k, .int .i64 n, .string s, .slice a len cap] 24) := ⟨_, rfl⟩
  have hb1 : Below w.heap.size w w1 := by rw [hw1]; exact (Below.refl _ w).alloc (Nat.le_refl _) _
  have hx1 : w1.heap[w.heap.size]? = some (.cells #[.int .i64 k, .int .i64 n, .string s, .slice a len cap] 24 (0, 0)) := by rw [hw1]; exact World.alloc_heap_new _ _
  obtain ⟨x0, x1, x2, x3⟩ := tbox_cells hx1
  have hv1 := Has.below hv hb1
  have hvars := (rvars_at _ T w1 hv1 hs).mono (R' := fun e w' => ∃ r, e = .returned r ∧ IntsAt w' r T.vars ∧ Below w1.heap.size w1 w') fun e w' h => (by obtain ⟨a, c, h1, h2, h3⟩ := h; exact ⟨_, h1, h2, h3⟩)
  have HW := Lib.hid hw1
  have H1 := Lib.hid (And.intro hb1 (And.intro hx1 hv1))
  clear hb1 hx1 hv1 hv hw1
  go_enter Try.func18, Try.ntmps18
  go_upto_region 1 with fail
  rw [← HW.out]
  go_upto_region 2 with (go_at_call 35; refine hvars.mono ?_; clear hvars; rintro e w2 ⟨r, rfl, hI, hb2⟩)
  have hx2 := tbox_below H1.out.2.1 hb2
  have hv2 := Has.below H1.out.2.2 hb2
  obtain ⟨ra, rc, rfl, hc1, hc2, hc3, hx⟩ := id hI
  have H2 := Lib.hid (And.intro (H1.out.1.trans (hb2.mono H1.out.1.size)) (And.intro hx2 hv2))
  obtain ⟨m, hm⟩ : ∃ m, m = T.vars.length := ⟨_, rfl⟩
  have hm63 : (m : Int) ≤ 9223372036854775807 := by unfold maxLen at hc2; omega
  have HI := Lib.hid (And.intro hx hm)
  rw [← hm]
  clear hb2 hx2 hv2 hI hx hc1 hc2 hc3 H1 hm x0 x1 x2 x3
  go_wp2_with fail
  go_loopw [4] (fun i wr => ∃ c : Nat, i = .int .i64 (c : Int) ∧ c ≤ m ∧ Hid (∀ (j : Nat) (x : Int), j < c → T.vars[j]? = some x → x < 12) ∧ wr = w2) (fun i _ => m - (intOf i).toNat)
  case atStart => exact ⟨0, rfl, Nat.zero_le _, (fun j x h => absurd h (Nat.not_lt_zero _)), rfl⟩
  case round =>
    obtain ⟨c, rfl, hcl, hall, rfl⟩ := hrel
    by_cases hlt : c < m
    · obtain ⟨hx, hm⟩ := id HI.out
      have hlt' : c < T.vars.length := by omega
      obtain ⟨b, o, rfl, hb, hcell⟩ := hx c hlt'
      obtain ⟨x, hxe⟩ : ∃ x, T.vars[c] = x := ⟨_, rfl⟩
      rw [hxe] at hcell
      have hget : T.vars[c]? = some x := by rw [List.getElem?_eq_getElem hlt', hxe]
      have hci : (c : Int) < (m : Int) := by omega
      have hc0 : (0 : Int) ≤ (c : Int) := by omega
      have hw1 : IntKind.i64.wrap ((c : Int) + 1) = (c : Int) + 1 := by rw [IntKind.wrap_i64]; omega
      have HGE := Lib.hid (And.intro hget hlt')
      clear hx hm hlt' hxe hget hb
      by_cases hx12 : x < 12
      · have hnot : ¬ (x ≥ 12) := by omega
        have hd12 : decide (x ≥ 12) = false := decide_eq_false hnot
        have HX12 := Lib.hid hx12
        clear hx12
        go_wp2_with fail
        refine ⟨⟨c + 1, by simp, hlt, fun j y hj hy => ?_, by first | rfl | trivial⟩, by simp [intOf]; omega⟩
        rcases Nat.lt_succ_iff_lt_or_eq.1 hj with h | rfl
        · exact hall.out j y h hy
        · rw [HGE.out.1] at hy; cases hy; exact HX12.out
      · have hyes : x ≥ 12 := by omega
        have hd12 : decide (x ≥ 12) = true := decide_eq_true hyes
        have hno : decide T.low = false := decide_eq_false (fun h => hx12 (h x (List.mem_of_getElem? HGE.out.1)))
        have HNO := Lib.hid hno
        clear hx12 hno
        go_wp2_with fail
        go_ret
        exact ⟨by rw [HNO.out]; rfl, H2.out.1⟩
    · have hcm : c = m := by omega
      subst hcm
      have hall' : T.low := fun x hx => by
        obtain ⟨j, hj⟩ := List.getElem?_of_mem hx
        exact hall.out j x (by rw [HI.out.2]; exact (List.getElem?_eq_some_iff.1 hj).1) hj
      have HL := Lib.hid (decide_eq_true hall')
      have hnlt : ¬ ((c : Int) < (c : Int)) := by omega
      clear hall hall' hlt hcl
      go_wp2_with fail
      go_ret
      exact ⟨by rw [HL.out]; rfl, H2.out.1⟩

def d0 : Tm := .mk 1 0 (ByteArray.mk #[]) []
def d1 : Tm := .mk 1 1 (ByteArray.mk #[]) []
def d3 : Tm := .mk 1 3 (ByteArray.mk #[]) []
def d7 : Tm := .mk 1 7 (ByteArray.mk #[]) []
def dF : Tm := .mk 3 0 (ByteArray.mk #[102]) [d7, d3, d7]
def dN : Tm := .mk 3 0 (ByteArray.mk #[102]) [d0, d1, d0]
theorem dF_vars : dF.vars = [7, 3] := by decide
theorem dF_norm : dF.norm = dN := by rfl
set_option maxRecDepth 100000 in
set_option maxHeartbeats 16000000 in
theorem shown13_at (w : World) : Calls Try.prog 8 #[] w (Gets w (.bool true)) := by
  go_enter Try.func8, Try.ntmps8
  go_wp2_with fail
  refine (let_at 7 w ⟨by decide, by decide⟩).mono ?_
  intro e w1 h1
  obtain ⟨k1, n1, s1, a1, l1, c1, rfl, hT1, hB1⟩ := h1.has
  clear h1
  go_wp2_with fail
  refine (let_at 3 w1 ⟨by decide, by decide⟩).mono ?_
  intro e w2 h2
  obtain ⟨k2, n2, s2, a2, l2, c2, rfl, hT2, hB2⟩ := h2.has
  replace hT1 := Has.below hT1 hB2
  replace hB2 := hB1.trans (hB2.mono hB1.size)
  clear h2 hB1
  go_wp2_with fail
  refine (let_at 7 w2 ⟨by decide, by decide⟩).mono ?_
  intro e w3 h3
  obtain ⟨k3, n3, s3, a3, l3, c3, rfl, hT3, hB3⟩ := h3.has
  have HA := Lib.hid (And.intro (hB2.trans (hB3.mono hB2.size)) (And.intro (Has.below hT1 hB3) (And.intro (Has.below hT2 hB3) hT3)))
  clear h3 hT1 hT2 hT3 hB2 hB3
  go_wp2_with fail
  refine (make_at (ByteArray.mk #[102]) _ [d7, d3, d7] _ (by unfold maxLen; decide) (three_terms HA.out.2.1 HA.out.2.2.1 HA.out.2.2.2) (by decide)).mono ?_
  intro e w4 h4
  obtain ⟨k4, n4, s4, a4, l4, c4, rfl, hT4, hB4⟩ := h4.has
  have hB4' := (HA.out.1.alloc HA.out.1.size (.cells #[.int .i64 k1, .int .i64 n1, .string s1, .slice a1 l1 c1, .int .i64 k2, .int .i64 n2, .string s2, .slice a2 l2 c2, .int .i64 k3, .int .i64 n3, .string s3, .slice a3 l3 c3] 24))
  have H4 := Lib.hid (And.intro (hB4'.trans (hB4.mono hB4'.size)) (show Has w4 _ dF from hT4))
  clear h4 hT4 hB4 hB4' HA
  go_wp2_with fail
  refine (cnorm_at _ dF w4 H4.out.2 (by decide)).mono ?_
  rw [dF_norm, dF_vars]
  intro e w7 h7
  obtain ⟨k7, n7, s7, a7, l7, c7, rfl, hT7, hB7⟩ := h7
  obtain ⟨wX, hwX⟩ : ∃ wX, wX = w7.alloc (.cells #[.int .i64 k7, .int .i64 n7, .string s7, .slice a7 l7 c7] 24) := ⟨_, rfl⟩
  have hBX : Below w7.heap.size w7 wX := by rw [hwX]; exact (Below.refl _ _).alloc (Nat.le_refl _) _
  have hbX : wX.heap[w7.heap.size]? = some (.cells #[.int .i64 k7, .int .i64 n7, .string s7, .slice a7 l7 c7] 24 (0, 0)) := by rw [hwX]; exact World.alloc_heap_new _ _
  have hB7X := hB7.trans (hBX.mono hB7.size)
  have hTX : Has wX (.agg #[.int .i64 k7, .int .i64 n7, .string s7, .slice a7 l7 c7]) dN := hT7.carry (fun b hb => hBX.block b hb.2) fun b hb => Nat.lt_of_lt_of_le hb.2 hBX.size
  have HX := Lib.hid (And.intro (H4.out.1.trans (hB7X.mono H4.out.1.size)) (And.intro hbX hTX))
  have HWX := Lib.hid hwX
  clear hT7 hB7 hwX hBX hbX hB7X hTX H4
  go_upto_region 2 with fail
  rw [← HWX.out]
  clear HWX
  have HS : ∀ w' : World, Below wX.heap.size wX w' → (w'.cell? ⟨w7.heap.size, 0, none⟩ = some (.int .i64 k7) ∧ w'.cell? ⟨w7.heap.size, 1, none⟩ = some (.int .i64 n7) ∧ w'.cell? ⟨w7.heap.size, 2, none⟩ = some (.string s7) ∧ w'.cell? ⟨w7.heap.size, 3, none⟩ = some (.slice a7 l7 c7)) := fun w' hb => tbox_cells (tbox_below HX.out.2.1 hb)
  refine wp_region_last (S := (fun w' : World => w'.cell? ⟨w7.heap.size, 0, none⟩ = some (.int .i64 k7) ∧ w'.cell? ⟨w7.heap.size, 1, none⟩ = some (.int .i64 n7) ∧ w'.cell? ⟨w7.heap.size, 2, none⟩ = some (.string s7) ∧ w'.cell? ⟨w7.heap.size, 3, none⟩ = some (.slice a7 l7 c7))) 11 rfl (by kernel_rfl) (HS _ (Below.refl _ _).drew) fun hHeld => ?_
  simp only [List.take_succ_cons, List.take_zero]
  have hE0 : Below wX.heap.size wX wX.drew := (Below.refl _ _).drew
  refine wpAnyH_take (i := 0) (v := ?_) rfl (by kernel_rfl) (by kernel_rfl) (by kernel_rfl) (fun _ _ _ h => h) (Or.inl ⟨by kernel_rfl, ?_⟩) hHeld ?_
  rotate_left
  · intro w0 hSw
    (try dsimp only at hSw)
    go_simp
    try (with_reducible rfl)
  try simp only [Act.put, List.setIfInBounds_toArray, List.set_cons_zero, List.set_cons_succ]
  refine wpAnyH_take (i := 1) (v := ?_) rfl (by kernel_rfl) (by kernel_rfl) (by kernel_rfl) (fun _ _ _ h => h) (Or.inl ⟨by kernel_rfl, ?_⟩) hHeld ?_
  rotate_left
  · intro w0 hSw
    (try dsimp only at hSw)
    go_simp
    try (with_reducible rfl)
  try simp only [Act.put, List.setIfInBounds_toArray, List.set_cons_zero, List.set_cons_succ]
  refine wpAnyH_take (i := 2) (v := ?_) rfl (by kernel_rfl) (by kernel_rfl) (by kernel_rfl) (fun _ _ _ h => h) (Or.inl ⟨by kernel_rfl, ?_⟩) hHeld ?_
  rotate_left
  · intro w0 hSw
    (try dsimp only at hSw)
    go_simp
    try (with_reducible rfl)
  try simp only [Act.put, List.setIfInBounds_toArray, List.set_cons_zero, List.set_cons_succ]
  refine wpAnyH_take (i := 3) (v := ?_) rfl (by kernel_rfl) (by kernel_rfl) (by kernel_rfl) (fun _ _ _ h => h) (Or.inl ⟨by kernel_rfl, ?_⟩) hHeld ?_
  rotate_left
  · intro w0 hSw
    (try dsimp only at hSw)
    go_simp
    try (with_reducible rfl)
  try simp only [Act.put, List.setIfInBounds_toArray, List.set_cons_zero, List.set_cons_succ]
  generalize wX.drew = wD at hHeld hE0 ⊢
  refine wpAnyH_ready (rs := [4]) (by kernel_rfl) (by simp) ?_
  refine AllReadyH.cons rfl (fun K hK => ?_) AllReadyH.nil
  go_simp
  refine (let_at 0 wD ⟨by decide, by decide⟩).mono ?_
  intro e W2 hh_
  obtain ⟨kx, nx, sx, ax, lx, cx, rfl, hNx, hb2⟩ := hh_.has13
  have hTx := has_new13 hNx
  go_wp2_with fail
  have hE2 : Below wX.heap.size wX W2 := hE0.trans (hb2.mono hE0.size)
  refine hK.out _ _ (HS _ hE2) (fun hh3 => ?_)
  clear hK K
  try simp only [Act.put, List.setIfInBounds_toArray, List.set_cons_zero, List.set_cons_succ]
  refine wpAnyH_ready (rs := [5]) (by kernel_rfl) (by simp) ?_
  refine AllReadyH.cons rfl (fun K hK => ?_) AllReadyH.nil
  go_simp
  refine (let_at 1 W2 ⟨by decide, by decide⟩).mono ?_
  intro e W4 hh_
  obtain ⟨ky, ny, sy, ay, ly, cy, rfl, hNy, hb4⟩ := hh_.has13
  have hTy := has_new13 hNy
  go_wp2_with fail
  have hE4 : Below wX.heap.size wX W4 := hE2.trans (hb4.mono hE2.size)
  have hTx := Has.below hTx hb4
  refine hK.out _ _ (HS _ hE4) (fun hh5 => ?_)
  clear hK K
  try simp only [Act.put, List.setIfInBounds_toArray, List.set_cons_zero, List.set_cons_succ]
  refine wpAnyH_ready (rs := [6]) (by kernel_rfl) (by simp) ?_
  refine AllReadyH.cons rfl (fun K hK => ?_) AllReadyH.nil
  go_simp
  refine (let_at 0 W4 ⟨by decide, by decide⟩).mono ?_
  intro e W6 hh_
  obtain ⟨kz, nz, sz, az, lz, cz, rfl, hNz, hb6⟩ := hh_.has13
  have hTz := has_new13 hNz
  go_wp2_with fail
  have hE6 : Below wX.heap.size wX W6 := hE4.trans (hb6.mono hE4.size)
  have hTx := Has.below hTx hb6
  have hTy := Has.below hTy hb6
  refine hK.out _ _ (HS _ hE6) (fun hh7 => ?_)
  clear hK K
  try simp only [Act.put, List.setIfInBounds_toArray, List.set_cons_zero, List.set_cons_succ]
  refine wpAnyH_ready (rs := [7]) (by kernel_rfl) (by simp) ?_
  refine AllReadyH.cons rfl (fun K hK => ?_) AllReadyH.nil
  go_simp
  skip
  obtain ⟨W8, hW8⟩ : ∃ W_, W_ = World.alloc W6 (.cells #[.int .i64 kx, .int .i64 nx, .string sx, .slice ax lx cx, .int .i64 ky, .int .i64 ny, .string sy, .slice ay ly cy, .int .i64 kz, .int .i64 nz, .string sz, .slice az lz cz] 24) := ⟨_, rfl⟩
  have hb8 : Below W6.heap.size W6 W8 := by rw [hW8]; exact (Below.refl _ _).alloc (Nat.le_refl _) _
  have hE8 : Below wX.heap.size wX W8 := hE6.trans (hb8.mono hE6.size)
  have hTs := three_terms hTx hTy hTz
  rw [← hW8] at hTs
  have hTx := Has.below hTx hb8
  have hTy := Has.below hTy hb8
  have hTz := Has.below hTz hb8
  rw [← hW8]
  clear hW8
  refine hK.out _ _ (HS _ hE8) (fun hh9 => ?_)
  clear hK K
  try simp only [Act.put, List.setIfInBounds_toArray, List.set_cons_zero, List.set_cons_succ]
  refine wpAnyH_ready (rs := [8]) (by kernel_rfl) (by simp) ?_
  refine AllReadyH.cons rfl (fun K hK => ?_) AllReadyH.nil
  go_simp
  refine (make_at (ByteArray.mk #[102]) _ [d0, d1, d0] W8 (by unfold maxLen; decide) hTs (by decide)).mono ?_
  intro e W10 hh_
  obtain ⟨ku, nu, su, au, lu, cu, rfl, hNu, hb10⟩ := hh_.has13
  have hTu := has_new13 hNu
  go_wp2_with fail
  have hE10 : Below wX.heap.size wX W10 := hE8.trans (hb10.mono hE8.size)
  refine hK.out _ _ (HS _ hE10) (fun hh11 => ?_)
  clear hK K
  try simp only [Act.put, List.setIfInBounds_toArray, List.set_cons_zero, List.set_cons_succ]
  refine wpAnyH_ready (rs := [9]) (by kernel_rfl) (by simp) ?_
  refine AllReadyH.cons rfl (fun K hK => ?_) AllReadyH.nil
  go_simp
  refine (same_at dN dN _ _ W10 (Has.below HX.out.2.2 hE10) hTu (by decide) (by decide)).mono ?_
  rintro e wS ⟨he, hbS⟩
  obtain rfl : e = .returned (.bool true) := he.trans (by simp)
  clear he
  go_wp2_with fail
  have hES : Below wX.heap.size wX wS := hE10.trans (hbS.mono hE10.size)
  refine hK.out _ _ (HS _ hES) (fun hh12 => ?_)
  clear hK K
  try simp only [Act.put, List.setIfInBounds_toArray, List.set_cons_zero, List.set_cons_succ]
  refine wpAnyH_take (i := 10) (v := ?_) rfl (by kernel_rfl) (by kernel_rfl) (by kernel_rfl) (fun _ _ _ h => h) (Or.inl ⟨by kernel_rfl, ?_⟩) hh12 ?_
  rotate_left
  · intro w0 hSw
    (try dsimp only at hSw)
    go_simp
    try (with_reducible rfl)
  try simp only [Act.put, List.setIfInBounds_toArray, List.set_cons_zero, List.set_cons_succ]
  refine wpAnyH_done (by kernel_rfl) ?_ _
  refine last_of_list rfl ?_
  go_wp2_with fail
  go_ret
  exact ⟨rfl, HX.out.1.trans (hES.mono HX.out.1.size)⟩
end Go.Proofs.Ytlnggaepmclbkaa

namespace Go.Proofs.Ytlnggaepmclbkaa
open Go.RowKit Go.Shelf
set_option linter.unusedVariables false
set_option linter.unusedSimpArgs false

theorem fresh_len13 (σ : St) (n : Nat) : (σ.fresh n).vs.length = σ.vs.length + n := by
  show (σ.vs ++ List.replicate n none).length = _
  rw [List.length_append, List.length_replicate]
theorem fresh_zero (σ : St) : σ.fresh 0 = σ := by
  show St.mk (σ.vs ++ []) σ.tr = σ
  rw [List.append_nil]

/-- Of twelve variables the first c are bound to N. -/
structure Bnd (σ : St) (N : Tm) (c : Nat) : Prop where
  len : σ.vs.length = 12
  low : ∀ x, x < c → σ.vs[x]? = some (some N)
  high : ∀ x, c ≤ x → x < 12 → σ.vs[x]? = some none
theorem Bnd.start (N : Tm) : Bnd ((St.mk [] []).fresh 12) N 0 :=
  ⟨by rfl, fun x h => absurd h (Nat.not_lt_zero _), fun x _ h => by
    show ([] ++ List.replicate 12 (none : Option Tm))[x]? = some none
    rw [List.nil_append, List.getElem?_replicate, if_pos h]⟩
theorem Bnd.next {σ : St} {N : Tm} {c : Nat} (h : Bnd σ N c) (hc : c < 12) : Bnd (σ.bind c N) N (c + 1) := by
  refine ⟨by show (σ.vs.set c (some N)).length = _; rw [List.length_set, h.len], fun x hx => ?_, fun x hx hx2 => ?_⟩
  · show (σ.vs.set c (some N))[x]? = _
    rw [List.getElem?_set]
    by_cases e : c = x
    · rw [if_pos e, if_pos (by rw [h.len]; exact hc)]
    · rw [if_neg e]; exact h.low x (by omega)
  · show (σ.vs.set c (some N))[x]? = _
    rw [List.getElem?_set, if_neg (by omega)]
    exact h.high x (by omega) hx2

/-- A number. -/
def numN (n : Int) : Tm := .mk 2 n (ByteArray.mk #[]) []
theorem numN_met (σ : St) (v n : Int) : ¬ Met σ v (numN n) := by
  rintro ⟨m, h⟩
  cases h with
  | var _ h1 _ => cases h1
  | bound h _ => have := (St.val_some h).1; cases this
  | kid _ _ hU g => cases hU
theorem numN_size (n : Int) : (numN n).size = 1 := by rw [numN, Tm.size_mk, Tm.sizes_nil]
theorem var_fin {σ : St} {n : Int} (hb : Bnd σ (numN n) 12) {x : Int} (h0 : 0 ≤ x) (h1 : x < 12) (s : ByteArray) (ks : List Tm) : σ.fin (.mk 1 x s ks) = numN n := by
  have hv : σ.val (.mk 1 x s ks) = some (numN n) := by
    obtain ⟨m, rfl⟩ : ∃ m : Nat, x = (m : Int) := ⟨x.toNat, by omega⟩
    show (if (1 : Int) = 1 then σ.look (m : Int) else none) = _
    rw [if_pos rfl, St.look_nat, hb.low m (by omega)]; rfl
  exact (EndsN.step hv (.stop (St.val_ne (show (2 : Int) ≠ 1 by decide)))).fin
theorem occ_low {T : Tm} (h : T.low) : ∀ x, Occ x T → x < 12 := fun x hx => h x ((mem_vars x T).2 hx)
theorem fill_num {σ : St} {n : Int} (hb : Bnd σ (numN n) 12) : ∀ f left (T : Tm), T.valid 16 = true → (∀ x, Occ x T → x < 12) → T.deep ≤ f → T.size ≤ left → ∃ U, σ.fill f left T = .ok U (left - T.size) ∧ ∀ x, ¬ Occ x U
  | 0, left, T, _, _, hd, _ => by have := T.deep_pos; omega
  | f + 1, left, T, hv, hl, hd, hs => by
    obtain ⟨k, m, s, ks⟩ := T
    rw [valid_mk, Bool.and_eq_true] at hv
    obtain ⟨hf, hk⟩ := hv
    rw [Tm.size_mk] at hs ⊢
    rw [Tm.deep_mk] at hd
    rw [St.fill, if_neg (by omega)]
    by_cases h1 : k = 1
    · subst h1
      have hks : ks = [] ∧ 0 ≤ m := by
        simp [Tm.formed, Tm.kind, Tm.kids, Tm.num] at hf
        exact ⟨hf.2, of_decide_eq_true hf.1.1.1⟩
      obtain ⟨rfl, hm0⟩ := hks
      rw [var_fin hb hm0 (hl m (.here rfl)) s []]
      refine ⟨numN n, ?_, ?_⟩
      · show (match fillL (σ.fill f) (left - 1) [] with | .bad e => FR.bad e | .ok us l => .ok (.mk 2 n (ByteArray.mk #[]) us) l) = _
        rw [fillL_nil, Tm.sizes_nil]; rfl
      · intro x hx
        cases hx with
        | kid ht _ => cases ht
    · have hne : σ.val (.mk k m s ks) = none := St.val_ne h1
      rw [St.fin_free hne]
      have key : ∀ ks : List Tm, (∀ t ∈ ks, t.valid 16 = true) → (∀ t ∈ ks, ∀ x, Occ x t → x < 12) → Tm.deeps ks ≤ f → Tm.sizes ks ≤ left - 1 → ∃ us, fillL (σ.fill f) (left - 1) ks = .ok us (left - 1 - Tm.sizes ks) ∧ ∀ u ∈ us, ∀ x, ¬ Occ x u := by
        intro ks
        induction ks using snoc_ind with
        | h0 => intro _ _ _ _; exact ⟨[], by rw [fillL_nil, Tm.sizes_nil]; rfl, fun u hu => by cases hu⟩
        | h1 ks t ih =>
          intro h1 h2 h3 h4
          have hd1 : Tm.deeps ks ≤ f := deeps_le_of fun u hu => Nat.le_trans (deep_le_deeps10 (List.mem_append_left _ hu)) h3
          have hd2 : t.deep ≤ f := Nat.le_trans (deep_le_deeps10 (List.mem_append_right _ (by simp))) h3
          rw [Tm.sizes_append, Tm.sizes_cons, Tm.sizes_nil] at h4 ⊢
          obtain ⟨us, e1, e2⟩ := ih (fun u hu => h1 u (List.mem_append_left _ hu)) (fun u hu => h2 u (List.mem_append_left _ hu)) hd1 (by omega)
          obtain ⟨u, e3, e4⟩ := fill_num hb f (left - 1 - Tm.sizes ks) t (h1 t (by simp)) (h2 t (by simp)) hd2 (by omega)
          refine ⟨us ++ [u], ?_, fun z hz => ?_⟩
          · rw [fillL_snoc, e1]
            simp only
            rw [e3]
            simp only [FR.next]
            congr 1
            omega
          · rcases List.mem_append.1 hz with hz | hz
            · exact e2 z hz
            · rw [List.mem_singleton.1 hz]; exact e4
      obtain ⟨us, e1, e2⟩ := key ks (fun t ht => List.all_eq_true.1 hk t ht) (fun t ht x hx => hl x (.kid ht hx)) (by omega) (by omega)
      refine ⟨.mk k m s us, ?_, ?_⟩
      · show (match fillL (σ.fill f) (left - 1) ks with | .bad e => FR.bad e | .ok us l => .ok (.mk k m s us) l) = _
        rw [e1]
        simp only
        congr 1
        omega
      · intro x hx
        cases hx with
        | here _ => exact h1 rfl
        | kid ht h' => exact e2 _ ht x h'
theorem check_facts {T : Tm} (h : T.check 16 = 0) : T.size ≤ 1000 ∧ T.deep ≤ 60 ∧ T.valid 16 = true := by
  unfold Tm.check at h
  split at h
  · cases h
  · split at h
    · cases h
    · split at h
      · exact ⟨by omega, by omega, by assumption⟩
      · cases h
/-- All is bound to the number: full there is a term without variables. -/
theorem full_num {σ : St} {n : Int} (hb : Bnd σ (numN n) 12) {T : Tm} (hc : T.check 16 = 0) (hl : T.low) : ∃ U lf, σ.fill 60 1000 T = .ok U lf ∧ U.size ≤ 1000 ∧ U.vars = [] := by
  obtain ⟨h1, h2, h3⟩ := check_facts hc
  obtain ⟨U, e, ho⟩ := fill_num hb 60 1000 T h3 (occ_low hl) h2 h1
  refine ⟨U, _, e, by have := fill_size σ 60 1000 T U _ e; omega, ?_⟩
  cases hv : U.vars with
  | nil => rfl
  | cons x r => exact absurd ((mem_vars x U).1 (by rw [hv]; simp)) (ho x)
/-- What Full answers of a term that can be full. -/
theorem full_ok13 {n₀ : Nat} {w : World} {b : Nat} {V L : Value} {σ : St} (h : StAt (Oth w b V L) n₀ w b V L σ) (v : Value) (T : Tm) (hv : Has w v T) {U : Tm} {lf : Nat} (hf : σ.fill 60 1000 T = .ok U lf) :
    Calls Try.prog 21 #[.pointer (some ⟨b, 0, none⟩), v] w fun e w' => ∃ k n s a l c, e = .returned (.tuple #[.agg #[.int .i64 k, .int .i64 n, .string s, .slice a l c], .int .i64 0]) ∧
      TmIn (Oth w' b V L) w' (.agg #[.int .i64 k, .int .i64 n, .string s, .slice a l c]) U ∧ Below w.heap.size w w' := by
  have hcall := full_any h v T hv
  rw [hf] at hcall
  refine hcall.mono ?_
  rintro e w' ⟨k, n, s, a, l, c, he, hT, hB⟩
  exact ⟨k, n, s, a, l, c, he, hT.carry (fun _ _ => rfl) fun c hc => h.fresh hc, hB⟩
/-- What Full answers of another. -/
theorem full_bad13 {n₀ : Nat} {w : World} {b : Nat} {V L : Value} {σ : St} (h : StAt (Oth w b V L) n₀ w b V L σ) (v : Value) (T : Tm) (hv : Has w v T) {x : Int} (hf : σ.fill 60 1000 T = .bad x) :
    Calls Try.prog 21 #[.pointer (some ⟨b, 0, none⟩), v] w fun e w' => ∃ k n s a l c, e = .returned (.tuple #[.agg #[.int .i64 k, .int .i64 n, .string s, .slice a l c], .int .i64 x]) ∧
      TmIn (Oth w' b V L) w' (.agg #[.int .i64 k, .int .i64 n, .string s, .slice a l c]) (.mk 0 0 (ByteArray.mk #[]) []) ∧ Below w.heap.size w w' := by
  have hcall := full_any h v T hv
  rw [hf] at hcall
  refine hcall.mono ?_
  rintro e w' ⟨k, n, s, a, l, c, he, hT, hB⟩
  exact ⟨k, n, s, a, l, c, he, hT.carry (fun _ _ => rfl) fun c hc => h.fresh hc, hB⟩
end Go.Proofs.Ytlnggaepmclbkaa
