/-
  The walk of Scan: all tokens of a text.
-/
import Derived.Test.YtfencolokfghfaaGreatDoorTokF
import Derived.Test.YtfencolokfghfaaGreatDoorTokM
import Derived.Lib.ItoaLen
namespace Go.Proofs.YtfencolokfghfaaGreatDoor
open Go.RowKit Go.Lib
set_option linter.unusedVariables false

/-- An error of Scan's. -/
def faultV (x : ByteArray) (c : Int) : Value := .iface 80 (.agg #[.string x, .iface 27 (.int .i64 c)])
/-- What Scan answers. -/
def ScanPost (w : World) (r : ScanR) (e : Ending) (w' : World) : Prop :=
  Below w.heap.size w w' ∧ match r with
  | .ok ts => ∃ v, e = .returned (.tuple #[v, .int .i64 0, .nilIface]) ∧ OwnTk w' w.heap.size v ts
  | .bad p c => ∃ x, e = .returned (.tuple #[.slice none 0 0, .int .i64 p, .iface 80 (.agg #[.string x, .iface 27 (.int .i64 c)])])
def full (l : List UInt8) : ScanR := if 4096 < l.length then .bad 0 3 else scan false l

theorem OwnTk.base {w : World} {m m' : Nat} {v : Value} {l : List Tok} (h : OwnTk w m v l) (hm : m' ≤ m) : OwnTk w m' v l := by
  obtain ⟨hl, ⟨h0, h1⟩ | ⟨g, cap, cur, h0, hg, r⟩⟩ := h
  · exact ⟨hl, Or.inl ⟨h0, h1⟩⟩
  · exact ⟨hl, Or.inr ⟨g, cap, cur, h0, Nat.le_trans hm hg, r⟩⟩
theorem set_keep {w w' : World} {B : Nat} (h : Below w.heap.size w w') (hB : w.heap.size ≤ B) (v0 v1 v2 v3 v4 : Value) : Below w.heap.size w (((((w'.setCell ⟨B, 0, none⟩ v0).setCell ⟨B, 1, none⟩ v1).setCell ⟨B, 2, none⟩ v2).setCell ⟨B, 3, none⟩ v3).setCell ⟨B, 4, none⟩ v4) :=
  ((((h.setCell (p := ⟨B, 0, none⟩) hB v0).setCell (p := ⟨B, 1, none⟩) hB v1).setCell (p := ⟨B, 2, none⟩) hB v2).setCell (p := ⟨B, 3, none⟩) hB v3).setCell (p := ⟨B, 4, none⟩) hB v4
theorem limR_bad {t : Tok} {n : Nat} {c : Int} (h : limR t n = .bad c) : c = 3 := by
  unfold limR at h
  split at h
  · cases h; rfl
  · cases h
theorem quoF_bad : ∀ {f : Nat} {acc l : List UInt8} {a : Nat} {c : Int}, quoF f acc l a = .bad c → c = 2 ∨ c = 3 ∨ c = 4
  | 0, _, _, _, _, h => by cases h; simp
  | f + 1, acc, l, a, c, h => by
    unfold quoF at h
    split at h
    · cases h; simp
    · split at h
      · have := limR_bad h; omega
      · split at h
        · cases h; simp
        · exact quoF_bad h
theorem fstR_bad {l : List UInt8} {c : Int} (h : fstR l = .bad c) : c = 2 ∨ c = 3 ∨ c = 4 := by
  cases l with
  | nil => cases h; simp
  | cons a r =>
    have hw : ∀ {k : Int} {l : List UInt8}, wrt k l = .bad c → c = 2 ∨ c = 3 ∨ c = 4 := fun h => by have := limR_bad h; omega
    unfold fstR at h
    simp only at h
    split at h
    · exact hw h
    · split at h
      · exact hw h
      · split at h
        · unfold numR at h
          split at h
          · cases h; simp
          · split at h
            · split at h
              · cases h; simp
              · cases h
            · cases h; simp
        · split at h
          · exact quoF_bad h
          · split at h
            · exact hw h
            · split at h
              · exact hw h
              · split at h
                · exact hw h
                · split at h
                  · exact hw h
                  · cases h; simp
theorem lit_tok (w : World) (t : Tok) {B : Nat} (hB : B = w.heap.size) (z : Nat × Nat) : ∀ j u, (flatT [t])[j]? = some u → (w.alloc (.cells #[.int .i64 t.kind, .string (strV t.s), .int .i64 t.n, .bool t.q, .bool t.tight] 87 z)).cell? ⟨B, j, none⟩ = some u := by
  subst hB
  intro j u h
  rw [cells_at (alloc_new _ _), ← h]
  simp [flatT]
theorem cutp {P G : Prop} (h : P) (k : P → G) : G := k h
theorem below_al {A X : World} {o : Obj} (h : Below A.heap.size A X) : Below A.heap.size A (X.alloc o) := h.alloc h.size o
theorem below_dr {A X : World} (h : Below A.heap.size A X) : Below A.heap.size A X.drew := h.drew
theorem below_tr {A X W : World} (h : Below X.heap.size X W) (k : Below A.heap.size A X) : Below A.heap.size A W := k.trans (h.mono k.size)
theorem below_sc {A X Y : World} {o : Nat} {v : Value} (k : Below A.heap.size A Y) (h : Below A.heap.size A X) : Below A.heap.size A (X.setCell ⟨Y.heap.size, o, none⟩ v) := h.setCell (p := ⟨Y.heap.size, o, none⟩) k.size v
theorem blk_below {X Y : World} {o : Obj} {ob : Obj} (h : (X.alloc o).heap[X.heap.size]? = some ob) (k : Below (X.alloc o).heap.size (X.alloc o) Y) : Y.heap[X.heap.size]? = some ob := (k.block X.heap.size (by simp)).trans h
theorem itoa_at (w : World) (L : Laid w) (n : Int) (h0 : 0 ≤ n) (h1 : n ≤ 1000000000000000000) :
    Calls Tryz.prog 39 #[.int .i64 n] w fun e w' => ∃ x, e = .returned (.string x) ∧ x.size ≤ 21 ∧ Below w.heap.size w w' :=
  (Tryz.strconv_Itoa n (by omega) (by omega) w L.tab).mono fun e w' ⟨he, k, os, hw⟩ => ⟨_, he, by
    have e : (ByteArray.mk (Lib.itoa n).toArray).size = (Lib.itoa n).length := strV_size _
    rw [e]; exact Lib.itoa_length_le n (by omega) (by omega), hw ▸ below_grow w k os⟩

set_option maxRecDepth 100000 in
set_option maxHeartbeats 4000000 in
theorem scan_big (s : ByteArray) (w : World) (L : Laid w) (hm : s.size ≤ 1000000000000000) (hb : 4096 < s.size) :
    Calls Tryz.prog 26 #[.string s] w (ScanPost w (.bad 0 3)) := by
  have hi : (4096 : Int) < (s.size : Int) := by omega
  have hx := itoa_at w L (s.size : Int) (by omega) (by omega)
  go_enter Tryz.func26, Tryz.ntmps26
  go_wp2_with (go_at_call 39; refine hx.mono ?_; rintro e w4 ⟨x, rfl, hx5, hb4⟩)
  exact bodyPost_ret (v := .tuple #[.slice none 0 0, .int .i64 0, .iface 80 (.agg #[.string (x ++ { data := #[32, 98, 121, 116, 101, 115] }), .iface 27 (.int .i64 3)])]) (by simp [results, Tryz.f26, go_sem]) rfl ⟨hb4, _, rfl⟩

set_option maxRecDepth 100000 in
set_option maxHeartbeats 4000000 in
theorem scan_small (s : ByteArray) (l : List UInt8) (hs : s.data.toList = l) (w : World) (L : Laid w) (hm : s.size ≤ 4096) :
    Calls Tryz.prog 26 #[.string s] w (ScanPost w (scan false l)) := by
  obtain ⟨hl1, hl2⟩ := len_le hs
  have hi : decide ((4096 : Int) < (s.size : Int)) = false := by simp; omega
  have hk := byteKinds_at w
  have hsk0 := fun W => skip_at W s l hs (by omega) 0 (Nat.zero_le _)
  go_enter Tryz.func26, Tryz.ntmps26
  go_wp2_with (first | (go_at_call 40; refine hk.mono ?_; rintro e w1 ⟨k, rfl, K, hb1⟩; obtain ⟨g0, g1, g2, g3, g4, g5, g6, b0, b1, b2, b3, b4, b5, b6⟩ := k; unfold fcells; dsimp only) | (go_at_call 41; refine (hsk0 _).mono ?_; rintro e w2 ⟨rfl, hw2⟩))
  have y2 : w2.heap[w1.heap.size]? = some (.cells #[.func (.func g0) #[] b0, .func (.func g1) #[] b1, .func (.func g2) #[] b2, .func (.func g3) #[] b3, .func (.func g4) #[] b4, .func (.func g5) #[] b5, .func (.func g6) #[] b6] 83 (0, 0)) := by rw [hw2]; exact alloc_new _ _
  have hb12 : Below w1.heap.size w1 w2 := by rw [hw2]; exact bel_al (Below.refl _ _) _
  have hs2 : w1.heap.size + 1 ≤ w2.heap.size := by rw [hw2]; simp
  have hb2 := bel hb1 hb12
  have K2 := K.later hb12
  have L2 := L.later hb2
  rw [← hw2]
  clear hw2 hk hsk0 K hb12 L
  go_loopw [5, 7, 8] (fun x ei ai wr => ∃ (E : Nat) (ts : List Tok), ei = .int .i64 E ∧ ai = .int .i64 (E + skp false (l.drop E) : Nat) ∧ E ≤ s.size ∧ ts.length ≤ E ∧ OwnTk wr w2.heap.size x ts ∧ scan false l = (scan (decide (0 < ts.length)) (l.drop E)).after ts E ∧ Below w2.heap.size w2 wr) (fun _ _ ai _ => s.size - (intOf ai).toNat)
  case atStart => exact ⟨0, [], rfl, by simp, Nat.zero_le _, Nat.le_refl _, OwnTk.nil _ _, by simp [after_nil], Below.refl _ _⟩
  case round =>
    obtain ⟨E, ts, rfl, rfl, hE, htl, hown, hsc, hbr⟩ := hrel
    have hskle := skp_le false (l.drop E)
    rw [List.length_drop] at hskle
    have y := (hbr.block w1.heap.size (by omega)).trans y2
    have Kr := K2.later hbr
    have Lr := L2.later hbr
    have hbw := bel hb2 hbr
    generalize hA : E + skp false (l.drop E) = A at *
    have hEA : E ≤ A := by omega
    have hA0 : (0 : Int) ≤ (A : Int) := by omega
    by_cases hlt : A < s.size
    · have hA1 : (A : Int) ≤ (s.size : Int) := by omega
      have hdA : (l.drop E).drop (skp false (l.drop E)) = l.drop A := by rw [List.drop_drop, hA]
      have hne : l.drop A ≠ [] := by
        intro e; have := congrArg List.length e; simp at this; omega
      have hxd := ext_drop hs A
      have hxs : (s.extract A s.size).size ≤ 1000000 ∧ 0 < (s.extract A s.size).size := by rw [len_of hxd, List.length_drop]; omega
      have hF := fun (W : World) (hW : Below wr.heap.size wr W) => first_at w.heap.size ⟨g0, g1, g2, g3, g4, g5, g6, b0, b1, b2, b3, b4, b5, b6⟩ (s.extract A s.size) (l.drop A) hxd W (Lr.later hW) hxs.1 hxs.2 (Kr.later hW)
      unfold fcells at hF
      dsimp only at hF
      cases hf : fstR (l.drop A) with
      | bad c =>
        have hsb : scan false l = .bad A c := by
          rw [hsc, scan_bad _ (by rw [hdA]; exact hne) (by rw [hdA]; exact hf)]
          show ScanR.bad (E + skp false (l.drop E)) c = _
          rw [hA]
        rw [hf] at hF
        unfold resV at hF
        dsimp only at hF
        have HS : ∀ w', Below wr.heap.size wr w' → (fun w' => w'.cell? ⟨w1.heap.size, 0, none⟩ = some (.func (.func g0) #[] b0) ∧ w'.cell? ⟨w1.heap.size, 1, none⟩ = some (.func (.func g1) #[] b1) ∧ w'.cell? ⟨w1.heap.size, 2, none⟩ = some (.func (.func g2) #[] b2) ∧ w'.cell? ⟨w1.heap.size, 3, none⟩ = some (.func (.func g3) #[] b3) ∧ w'.cell? ⟨w1.heap.size, 4, none⟩ = some (.func (.func g4) #[] b4) ∧ w'.cell? ⟨w1.heap.size, 5, none⟩ = some (.func (.func g5) #[] b5) ∧ w'.cell? ⟨w1.heap.size, 6, none⟩ = some (.func (.func g6) #[] b6) ∧ Below wr.heap.size wr w') w' := fun w' hb => by
          have z := (hb.block w1.heap.size (by have := hbr.size; omega)).trans y
          obtain ⟨p0, p1, p2, p3, p4, p5, p6, -⟩ := box7 z
          exact ⟨p0, p1, p2, p3, p4, p5, p6, hb⟩
        have d1 : ∀ W, Below wr.heap.size wr W → Calls Tryz.prog 42 #[.string (s.extract A s.size), .agg #[.func (.func g0) #[] b0, .func (.func g1) #[] b1, .func (.func g2) #[] b2, .func (.func g3) #[] b3, .func (.func g4) #[] b4, .func (.func g5) #[] b5, .func (.func g6) #[] b6]] W fun e w' => e = .returned (.tuple #[.agg #[.int .i64 0, .string ⟨#[]⟩, .int .i64 0, .bool false, .bool false], .int .i64 0, .int .i64 c]) ∧ Below W.heap.size W w' := fun W hW => hF W hW
        have hI := fun W hW => itoa_at W (Lr.later hW) (A : Int) (by omega) (by omega)
        have hc0 : (c != 0) = true := by rcases fstR_bad hf with rfl | rfl | rfl <;> rfl
        have HB := Lib.hid hsb
        have HW := Lib.hid hbw
        clear hF hsb hsc hown hf hne hdA hxd hxs Kr Lr K2 L2 hb2 hbw hb1
        go_wp2_with fail
        go_region_held3 (fun w' => w'.cell? ⟨w1.heap.size, 0, none⟩ = some (.func (.func g0) #[] b0) ∧ w'.cell? ⟨w1.heap.size, 1, none⟩ = some (.func (.func g1) #[] b1) ∧ w'.cell? ⟨w1.heap.size, 2, none⟩ = some (.func (.func g2) #[] b2) ∧ w'.cell? ⟨w1.heap.size, 3, none⟩ = some (.func (.func g3) #[] b3) ∧ w'.cell? ⟨w1.heap.size, 4, none⟩ = some (.func (.func g4) #[] b4) ∧ w'.cell? ⟨w1.heap.size, 5, none⟩ = some (.func (.func g5) #[] b5) ∧ w'.cell? ⟨w1.heap.size, 6, none⟩ = some (.func (.func g6) #[] b6) ∧ Below wr.heap.size wr w')
          (exact HS _ (by (repeat (first | with_reducible exact Below.refl _ _ | with_reducible apply below_al | with_reducible apply below_sc | with_reducible apply below_dr | ((with_reducible apply below_tr); (with_reducible assumption))))))
          (first
            | (go_at_call 42; (with_reducible refine Calls.mono (d1 _ ?_) ?_); (repeat (first | with_reducible exact Below.refl _ _ | with_reducible apply below_al | with_reducible apply below_dr | ((with_reducible apply below_tr); (with_reducible assumption)))); rintro r w4 ⟨rfl, hb4⟩; (try (refine cutp (P := w4.heap[wr.heap.size]? = some (.cells #[.int .i64 0, .string ⟨#[]⟩, .int .i64 0, .bool false, .bool false] 87 (0, 0))) ?_ ?_; (refine blk_below (alloc_new wr (.cells #[.int .i64 0, .string ⟨#[]⟩, .int .i64 0, .bool false, .bool false] 87)) ?_; (repeat (first | with_reducible exact Below.refl _ _ | with_reducible apply below_al | with_reducible apply below_dr | ((with_reducible apply below_tr); (with_reducible assumption))))); intro y4; obtain ⟨x0, x1, x2, x3, x4, xf⟩ := box5 y4))))
        all_goals
          have hb5 : Below wr.heap.size wr w4 := by (repeat (first | with_reducible exact Below.refl _ _ | with_reducible apply below_al | with_reducible apply below_dr | ((with_reducible apply below_tr); (with_reducible assumption))))
          first
            | (obtain ⟨Wf, hW, hx, -, hBf⟩ := set5 y4 (.int .i64 0) (.string ⟨#[]⟩) (.int .i64 0) (.bool false) (.bool false) hb5 (Nat.le_refl _); rw [← hW]; clear hW y4 x0 x1 x2 x3 x4 xf hb4 hb5; obtain ⟨BB, hBB⟩ : ∃ BB, BB = wr.heap.size := ⟨_, rfl⟩; rw [← hBB] at hx ⊢; have hge : wr.heap.size ≤ BB := (by omega); clear hBB)
            | (have hx := alloc_new w4 (.cells #[.int .i64 0, .string ⟨#[]⟩, .int .i64 0, .bool false, .bool false] 87); have hBf := bel_al hb5 (.cells #[.int .i64 0, .string ⟨#[]⟩, .int .i64 0, .bool false, .bool false] 87); have hge := hb5.size; generalize w4.alloc (.cells #[.int .i64 0, .string ⟨#[]⟩, .int .i64 0, .bool false, .bool false] 87) = Wf at hx hBf ⊢; generalize w4.heap.size = BB at hx hge ⊢; clear hb4 hb5)
        all_goals
          go_wp2_with (go_at_call 39; refine (hI Wf hBf).mono ?_; rintro e w6 ⟨x6, rfl, hx6, hb6⟩)
          exact bodyPost_ret (v := .tuple #[.slice none 0 0, .int .i64 A, .iface 80 (.agg #[.string ({ data := #[97, 116, 32, 98, 121, 116, 101, 32] } ++ x6), .iface 27 (.int .i64 c)])]) (by simp [results, Tryz.f26, go_sem]) rfl ⟨bel (bel HW.out hBf) hb6, by rw [HB.out]; exact ⟨_, rfl⟩⟩
      | tok t n =>
        have hO := fstR_ok hf
        have hn1 := hO.pos
        have hn2 := hO.le
        rw [List.length_drop] at hn2
        have hst : scan false l = (scan (decide (0 < (ts ++ [({ t with tight := decide (skp false (l.drop E) = 0) && decide (0 < ts.length) } : Tok)]).length)) (l.drop (A + n))).after (ts ++ [({ t with tight := decide (skp false (l.drop E) = 0) && decide (0 < ts.length) } : Tok)]) (A + n) := by
          rw [hsc, scan_tok _ (by rw [hdA]; exact hf), after_after, List.drop_drop]
          have e1 : E + (skp false (l.drop E) + n) = A + n := by omega
          rw [e1]
          have e2 : decide (0 < (ts ++ [({ t with tight := decide (skp false (l.drop E) = 0) && decide (0 < ts.length) } : Tok)]).length) = true := by simp
          rw [e2]
        rw [hf] at hF
        unfold resV at hF
        dsimp only at hF
        have HS : ∀ w', Below wr.heap.size wr w' → (fun w' => w'.cell? ⟨w1.heap.size, 0, none⟩ = some (.func (.func g0) #[] b0) ∧ w'.cell? ⟨w1.heap.size, 1, none⟩ = some (.func (.func g1) #[] b1) ∧ w'.cell? ⟨w1.heap.size, 2, none⟩ = some (.func (.func g2) #[] b2) ∧ w'.cell? ⟨w1.heap.size, 3, none⟩ = some (.func (.func g3) #[] b3) ∧ w'.cell? ⟨w1.heap.size, 4, none⟩ = some (.func (.func g4) #[] b4) ∧ w'.cell? ⟨w1.heap.size, 5, none⟩ = some (.func (.func g5) #[] b5) ∧ w'.cell? ⟨w1.heap.size, 6, none⟩ = some (.func (.func g6) #[] b6) ∧ Below wr.heap.size wr w') w' := fun w' hb => by
          have z := (hb.block w1.heap.size (by have := hbr.size; omega)).trans y
          obtain ⟨p0, p1, p2, p3, p4, p5, p6, -⟩ := box7 z
          exact ⟨p0, p1, p2, p3, p4, p5, p6, hb⟩
        have d1 : ∀ W, Below wr.heap.size wr W → Calls Tryz.prog 42 #[.string (s.extract A s.size), .agg #[.func (.func g0) #[] b0, .func (.func g1) #[] b1, .func (.func g2) #[] b2, .func (.func g3) #[] b3, .func (.func g4) #[] b4, .func (.func g5) #[] b5, .func (.func g6) #[] b6]] W fun e w' => e = .returned (.tuple #[.agg #[.int .i64 t.kind, .string (strV t.s), .int .i64 t.n, .bool t.q, .bool t.tight], .int .i64 n, .int .i64 0]) ∧ Below W.heap.size W w' := fun W hW => hF W hW
        have hsk : ∀ W, Calls Tryz.prog 41 #[.string s, .int .i64 ((A : Int) + (n : Int))] W fun e w' => e = .returned (.int .i64 (A + n + skp false (l.drop (A + n)) : Nat)) ∧ w' = W := fun W => by
          have h := skip_at W s l hs (by omega) (A + n) (by omega)
          rw [Int.natCast_add] at h
          exact h
        have hlt0 : decide ((0 : Int) < (ts.length : Int)) = decide (0 < ts.length) := by rw [decide_eq_decide]; omega
        have hAE : ((A : Int) == (E : Int)) = decide (skp false (l.drop E) = 0) := by
          rw [Bool.eq_iff_iff]; simp; omega
        obtain ⟨a5, c5, rfl⟩ := hown.form
        have HO := Lib.hid hown
        have HT := Lib.hid hst
        generalize hbt : decide (0 < ts.length) = bt at *
        generalize hbz : decide (skp false (l.drop E) = 0) = bz at *
        clear hF hsc hown hst hf hne hdA hxd hxs Kr Lr K2 L2 hb2 hbw hb1 hO
        go_wp2_with fail
        go_region_held3 (fun w' => w'.cell? ⟨w1.heap.size, 0, none⟩ = some (.func (.func g0) #[] b0) ∧ w'.cell? ⟨w1.heap.size, 1, none⟩ = some (.func (.func g1) #[] b1) ∧ w'.cell? ⟨w1.heap.size, 2, none⟩ = some (.func (.func g2) #[] b2) ∧ w'.cell? ⟨w1.heap.size, 3, none⟩ = some (.func (.func g3) #[] b3) ∧ w'.cell? ⟨w1.heap.size, 4, none⟩ = some (.func (.func g4) #[] b4) ∧ w'.cell? ⟨w1.heap.size, 5, none⟩ = some (.func (.func g5) #[] b5) ∧ w'.cell? ⟨w1.heap.size, 6, none⟩ = some (.func (.func g6) #[] b6) ∧ Below wr.heap.size wr w')
          (exact HS _ (by (repeat (first | with_reducible exact Below.refl _ _ | with_reducible apply below_al | with_reducible apply below_sc | with_reducible apply below_dr | ((with_reducible apply below_tr); (with_reducible assumption))))))
          (first
            | (go_at_call 42; (with_reducible refine Calls.mono (d1 _ ?_) ?_); (repeat (first | with_reducible exact Below.refl _ _ | with_reducible apply below_al | with_reducible apply below_dr | ((with_reducible apply below_tr); (with_reducible assumption)))); rintro r w4 ⟨rfl, hb4⟩; (try (refine cutp (P := w4.heap[wr.heap.size]? = some (.cells #[.int .i64 0, .string ⟨#[]⟩, .int .i64 0, .bool false, .bool false] 87 (0, 0))) ?_ ?_; (refine blk_below (alloc_new wr (.cells #[.int .i64 0, .string ⟨#[]⟩, .int .i64 0, .bool false, .bool false] 87)) ?_; (repeat (first | with_reducible exact Below.refl _ _ | with_reducible apply below_al | with_reducible apply below_dr | ((with_reducible apply below_tr); (with_reducible assumption))))); intro y4; obtain ⟨x0, x1, x2, x3, x4, xf⟩ := box5 y4))))
        all_goals
          have hb5 : Below wr.heap.size wr w4 := by (repeat (first | with_reducible exact Below.refl _ _ | with_reducible apply below_al | with_reducible apply below_dr | ((with_reducible apply below_tr); (with_reducible assumption))))
          first
            | (obtain ⟨Wf, hW, hx, -, hBf⟩ := set5 y4 (.int .i64 t.kind) (.string (strV t.s)) (.int .i64 t.n) (.bool t.q) (.bool t.tight) hb5 (Nat.le_refl _); rw [← hW]; clear hW y4 x0 x1 x2 x3 x4 xf hb4 hb5; obtain ⟨BB, hBB⟩ : ∃ BB, BB = wr.heap.size := ⟨_, rfl⟩; rw [← hBB] at hx ⊢; have hge : wr.heap.size ≤ BB := (by omega); clear hBB)
            | (have hx := alloc_new w4 (.cells #[.int .i64 t.kind, .string (strV t.s), .int .i64 t.n, .bool t.q, .bool t.tight] 87); have hBf := bel_al hb5 (.cells #[.int .i64 t.kind, .string (strV t.s), .int .i64 t.n, .bool t.q, .bool t.tight] 87); have hge := hb5.size; generalize w4.alloc (.cells #[.int .i64 t.kind, .string (strV t.s), .int .i64 t.n, .bool t.q, .bool t.tight] 87) = Wf at hx hBf ⊢; generalize w4.heap.size = BB at hx hge ⊢; clear hb4 hb5)
        all_goals
          obtain ⟨f0, f1, f2, f3, f4, ff⟩ := box5 hx
          have hB5 := fun b => hBf.setCell (p := ⟨BB, 4, none⟩) hge (.bool b)
          have g4 := fun b => World.cell?_setCell_same Wf ⟨BB, 4, none⟩ (.bool b) f4
          have HW5 := Lib.hid (fun b => HO.out.below (hB5 b))
          have HB5 := Lib.hid hB5
          have HD := Lib.hid (And.intro hs (And.intro hbr (And.intro hn2 (And.intro htl (And.intro hl1 hl2)))))
          clear hBf hge HS d1 hB5 hx hs hbr hl1 hl2 htl y y2 hskle hi hA hs2 HO hn2
          cases bz
          · cases bt
            · clear hbz
              go_wp2_with (first | (at_builtin; refine wpList_append_toks rfl _ _ rfl w2.heap.size _ ts rfl ((HW5.out false).alloc _) Wf.heap.size 1 1 [({ t with tight := false } : Tok)] rfl rfl ?c1 ?c2 ?c3 ?_))
              case c1 => exact lit_tok _ _ (by simp) _
              case c2 => have := HD.out; simp; omega
              case c3 => exact Nat.le_trans (bel HD.out.2.1 (HB5.out false)).size (by simp)
              · intro v' w6 hown6 hgrow
                have HO6 := Lib.hid hown6
                have HB6 := Lib.hid ((bel_al (bel HD.out.2.1 (HB5.out false)) (.cells #[.int .i64 t.kind, .string (strV t.s), .int .i64 t.n, .bool t.q, .bool false] 87)).grown hgrow (Nat.le_trans (bel HD.out.2.1 (HB5.out false)).size (by simp)) (OwnTk.lt (HW5.out false)))
                clear hown6 hgrow f0 f1 f2 f3 f4 ff g4 HW5 HB5 hlt0 hAE
                have hAn : A + n ≤ 4096 := by have h1 := HD.out.2.2.1; have h2 := HD.out.2.2.2.2.2; omega
                have hAi : (A : Int) + (n : Int) ≤ 4096 := by omega
                go_wp2_with (go_at_call 41; refine (hsk _).mono ?_; rintro e w7 ⟨rfl, hw7⟩; have hw7 := hw7.symm; subst hw7)
                go_roundw
                case rel => exact ⟨A + n, ts ++ [({ t with tight := false } : Tok)], by go_num, by go_num, by have h1 := HD.out.2.2.1; have h2 := HD.out.2.2.2.2.2; omega, by have h1 := HD.out.2.2.2.1; simp; omega, HO6.out, HT.out, HB6.out⟩
                case measure => simp [intOf]; omega
            · clear hbz
              go_wp2_with (first | (at_builtin; refine wpList_append_toks rfl _ _ rfl w2.heap.size _ ts rfl ((HW5.out false).alloc _) Wf.heap.size 1 1 [({ t with tight := false } : Tok)] rfl rfl ?c1 ?c2 ?c3 ?_))
              case c1 => exact lit_tok _ _ (by simp) _
              case c2 => have := HD.out; simp; omega
              case c3 => exact Nat.le_trans (bel HD.out.2.1 (HB5.out false)).size (by simp)
              · intro v' w6 hown6 hgrow
                have HO6 := Lib.hid hown6
                have HB6 := Lib.hid ((bel_al (bel HD.out.2.1 (HB5.out false)) (.cells #[.int .i64 t.kind, .string (strV t.s), .int .i64 t.n, .bool t.q, .bool false] 87)).grown hgrow (Nat.le_trans (bel HD.out.2.1 (HB5.out false)).size (by simp)) (OwnTk.lt (HW5.out false)))
                clear hown6 hgrow f0 f1 f2 f3 f4 ff g4 HW5 HB5 hlt0 hAE
                have hAn : A + n ≤ 4096 := by have h1 := HD.out.2.2.1; have h2 := HD.out.2.2.2.2.2; omega
                have hAi : (A : Int) + (n : Int) ≤ 4096 := by omega
                go_wp2_with (go_at_call 41; refine (hsk _).mono ?_; rintro e w7 ⟨rfl, hw7⟩; have hw7 := hw7.symm; subst hw7)
                go_roundw
                case rel => exact ⟨A + n, ts ++ [({ t with tight := false } : Tok)], by go_num, by go_num, by have h1 := HD.out.2.2.1; have h2 := HD.out.2.2.2.2.2; omega, by have h1 := HD.out.2.2.2.1; simp; omega, HO6.out, HT.out, HB6.out⟩
                case measure => simp [intOf]; omega
          · cases bt
            · clear hbz
              go_wp2_with (first | (at_builtin; refine wpList_append_toks rfl _ _ rfl w2.heap.size _ ts rfl ((HW5.out false).alloc _) Wf.heap.size 1 1 [({ t with tight := false } : Tok)] rfl rfl ?c1 ?c2 ?c3 ?_))
              case c1 => exact lit_tok _ _ (by simp) _
              case c2 => have := HD.out; simp; omega
              case c3 => exact Nat.le_trans (bel HD.out.2.1 (HB5.out false)).size (by simp)
              · intro v' w6 hown6 hgrow
                have HO6 := Lib.hid hown6
                have HB6 := Lib.hid ((bel_al (bel HD.out.2.1 (HB5.out false)) (.cells #[.int .i64 t.kind, .string (strV t.s), .int .i64 t.n, .bool t.q, .bool false] 87)).grown hgrow (Nat.le_trans (bel HD.out.2.1 (HB5.out false)).size (by simp)) (OwnTk.lt (HW5.out false)))
                clear hown6 hgrow f0 f1 f2 f3 f4 ff g4 HW5 HB5 hlt0 hAE
                have hAn : A + n ≤ 4096 := by have h1 := HD.out.2.2.1; have h2 := HD.out.2.2.2.2.2; omega
                have hAi : (A : Int) + (n : Int) ≤ 4096 := by omega
                go_wp2_with (go_at_call 41; refine (hsk _).mono ?_; rintro e w7 ⟨rfl, hw7⟩; have hw7 := hw7.symm; subst hw7)
                go_roundw
                case rel => exact ⟨A + n, ts ++ [({ t with tight := false } : Tok)], by go_num, by go_num, by have h1 := HD.out.2.2.1; have h2 := HD.out.2.2.2.2.2; omega, by have h1 := HD.out.2.2.2.1; simp; omega, HO6.out, HT.out, HB6.out⟩
                case measure => simp [intOf]; omega
            · clear hbz
              go_wp2_with (first | (at_builtin; refine wpList_append_toks rfl _ _ rfl w2.heap.size _ ts rfl ((HW5.out true).alloc _) Wf.heap.size 1 1 [({ t with tight := true } : Tok)] rfl rfl ?c1 ?c2 ?c3 ?_))
              case c1 => exact lit_tok _ _ (by simp) _
              case c2 => have := HD.out; simp; omega
              case c3 => exact Nat.le_trans (bel HD.out.2.1 (HB5.out true)).size (by simp)
              · intro v' w6 hown6 hgrow
                have HO6 := Lib.hid hown6
                have HB6 := Lib.hid ((bel_al (bel HD.out.2.1 (HB5.out true)) (.cells #[.int .i64 t.kind, .string (strV t.s), .int .i64 t.n, .bool t.q, .bool true] 87)).grown hgrow (Nat.le_trans (bel HD.out.2.1 (HB5.out true)).size (by simp)) (OwnTk.lt (HW5.out true)))
                clear hown6 hgrow f0 f1 f2 f3 f4 ff g4 HW5 HB5 hlt0 hAE
                have hAn : A + n ≤ 4096 := by have h1 := HD.out.2.2.1; have h2 := HD.out.2.2.2.2.2; omega
                have hAi : (A : Int) + (n : Int) ≤ 4096 := by omega
                go_wp2_with (go_at_call 41; refine (hsk _).mono ?_; rintro e w7 ⟨rfl, hw7⟩; have hw7 := hw7.symm; subst hw7)
                go_roundw
                case rel => exact ⟨A + n, ts ++ [({ t with tight := true } : Tok)], by go_num, by go_num, by have h1 := HD.out.2.2.1; have h2 := HD.out.2.2.2.2.2; omega, by have h1 := HD.out.2.2.2.1; simp; omega, HO6.out, HT.out, HB6.out⟩
                case measure => simp [intOf]; omega
    · have hdA : (l.drop E).drop (skp false (l.drop E)) = [] := by rw [List.drop_drop, hA]; exact List.drop_of_length_le (by omega)
      have hok : scan false l = .ok ts := by
        rw [hsc, scan_nil _ hdA]; simp [ScanR.after]
      have HK := Lib.hid hok
      have HO := Lib.hid hown
      obtain ⟨a5, c5, rfl⟩ := hown.form
      clear hown hok hsc
      go_wp2_with fail
      exact bodyPost_ret (v := .tuple #[.slice a5 ts.length c5, .int .i64 0, .nilIface]) (by simp [results, Tryz.f26, go_sem]) rfl ⟨hbw, by rw [HK.out]; exact ⟨_, rfl, HO.out.base (by have := hb2.size; omega)⟩⟩

/-- SCAN: every text. -/
theorem scan_at (s : ByteArray) (l : List UInt8) (hs : s.data.toList = l) (w : World) (L : Laid w) (hm : s.size ≤ 1000000000000000) :
    Calls Tryz.prog 26 #[.string s] w (ScanPost w (full l)) := by
  have hl := len_of hs
  unfold full
  by_cases h : 4096 < l.length
  · rw [if_pos h]; exact scan_big s w L hm (by omega)
  · rw [if_neg h]; exact scan_small s l hs w L (by omega)
end Go.Proofs.YtfencolokfghfaaGreatDoor
