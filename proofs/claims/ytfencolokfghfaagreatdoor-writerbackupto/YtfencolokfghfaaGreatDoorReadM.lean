/-
  bracketed: what is in parentheses, or a list.
-/
import Derived.Test.YtfencolokfghfaaGreatDoorReadI
namespace Go.Proofs.YtfencolokfghfaaGreatDoor
open Go.RowKit Go.Maps
set_option linter.unusedVariables false
set_option linter.unusedSectionVars false

section
variable (c : Cx) (hc : c.Ok) {W : World} {na : Option Addr} {nc i d : Nat} {ns : Nms} (h : PAt c W na nc i d ns) {r : Rdr} (hr : RAt c d r) (h7 : Reads7 c.L r)
include hc h hr h7
set_option maxRecDepth 100000 in
set_option maxHeartbeats 4000000 in
theorem brack_at : Calls Tryz.prog 103 #[.pointer (some ⟨c.b, 0, none⟩)] W (OPost c W na d (brackG c.L r i ns)) := by
  obtain ⟨W1, hW1⟩ : ∃ W1, W1 = W.alloc (.cells #[.int .i64 0, .int .i64 0, .string (ByteArray.mk #[]), .slice none 0 0] 24) := ⟨_, rfl⟩
  obtain ⟨h1, s1, x1, f1⟩ := h.fresh hc #[.int .i64 0, .int .i64 0, .string (ByteArray.mk #[]), .slice none 0 0] 24
  rw [← hW1] at h1 s1 x1 f1
  have hw1 : W1.heap.size = W.heap.size + 1 := by rw [hW1]; simp
  have hz := zeroTerm
  unfold brackG
  cases hp : isP (ahd c.L i) [40] with
  | true =>
    rw [if_pos rfl]
    have ht := take_yes c hc h1 (ByteArray.mk #[40]) [40] rfl hp
    have hter := fun W' (h' : PAt c W' na nc (i + 1) d ns) => hr W' na nc (i + 1) ns 1200 h' (Nat.le_refl _)
    cases hu : r 1200 (i + 1) ns with
    | bad i' code =>
      rw [hu] at hter
      unfold OPost at hter
      dsimp only [Out.bind]
      go_enter Tryz.func103, Tryz.ntmps103
      go_wp2_with (first
        | (rw [← hW1]; go_at_call 121; refine ht.mono ?_; rintro e W2 ⟨rfl, h2, f2⟩)
        | (go_at_call 66; refine (hter _ h2).mono ?_; rintro e W3 ⟨he, hK⟩; unfold faultE at he; subst he))
      exact ⟨rfl, rfl, (f1.trans f2).kpt hK⟩
    | ok T i3 ns3 =>
      rw [hu] at hter
      unfold OPost at hter
      dsimp only [Out.bind]
      unfold needG
      cases hq : isP (ahd c.L i3) [41] with
      | false =>
        rw [if_neg (by decide)]
        have hne := fun W' na' nc' (h' : PAt c W' na' nc' i3 d ns3) => need_no c hc h' (ByteArray.mk #[41]) [41] rfl hq
        go_enter Tryz.func103, Tryz.ntmps103
        go_wp2_with (first
          | (rw [← hW1]; go_at_call 121; refine ht.mono ?_; rintro e W2 ⟨rfl, h2, f2⟩)
          | (go_at_call 66; refine (hter _ h2).mono ?_; rintro e W3 ⟨na3, nc3, k, n, s, a, l, cp, rfl, h3, f3, hT3⟩; obtain ⟨h4, s4, x4, f4⟩ := h3.fresh hc #[.int .i64 k, .int .i64 n, .string s, .slice a l cp] 24)
          | (go_at_call 122; refine (hne _ _ _ h4).mono ?_; rintro e W5 ⟨he, hK⟩; unfold faultE at he; subst he))
        exact ⟨rfl, rfl, (f1.trans (f2.trans (f3.trans f4))).kpt hK⟩
      | true =>
        rw [if_pos rfl]
        have hne := fun W' na' nc' (h' : PAt c W' na' nc' i3 d ns3) => need_yes c hc h' (ByteArray.mk #[41]) [41] rfl hq
        go_enter Tryz.func103, Tryz.ntmps103
        go_wp2_with (first
          | (rw [← hW1]; go_at_call 121; refine ht.mono ?_; rintro e W2 ⟨rfl, h2, f2⟩)
          | (go_at_call 66; refine (hter _ h2).mono ?_; rintro e W3 ⟨na3, nc3, k, n, s, a, l, cp, rfl, h3, f3, hT3⟩; obtain ⟨h4, s4, x4, f4⟩ := h3.fresh hc #[.int .i64 k, .int .i64 n, .string s, .slice a l cp] 24)
          | (go_at_call 122; refine (hne _ _ _ h4).mono ?_; rintro e W5 ⟨rfl, h5, f5⟩; have fall := f2.trans (f3.trans (f4.trans f5)); obtain ⟨s9, x9, z0, z1, z2, z3, zf⟩ := fall.box s1 x1; obtain ⟨s8, x8, q0, q1, q2, q3, qf⟩ := f5.box s4 x4))
        obtain ⟨Z, hZ, hzb, hP, hF, hkp, hsz⟩ := h5.box4 hc h (f1.trans fall) (Nat.le_refl _) s9 x9 (.int .i64 k) (.int .i64 n) (.string s) (.slice a l cp)
        obtain ⟨y0, y1, y2, y3⟩ := tbox_cells hzb
        rw [← hZ]
        refine bodyPost_ret (v := .agg #[.int .i64 k, .int .i64 n, .string s, .slice a l cp]) (by simp [results, Tryz.f103, go_sem, y0, y1, y2, y3]) rfl ?_
        have hs2 := f2.size
        refine ⟨na3, nc3, k, n, s, a, l, cp, rfl, hP, hF, hT3.carry (fun j hj => (hkp j (by have := hj.2; omega)).trans ((f4.trans f5).keep j hj.1).1) (fun j hj => ?_)⟩
        have h91 := ((f4.trans f5).keep j hj.1).2
        have h92 := hj.2
        exact ⟨⟨by rw [hsz]; exact h91.1, h91.2⟩, by omega⟩
  | false =>
    rw [if_neg (by decide)]
    have ht := take_no c hc h1 (ByteArray.mk #[40]) [40] rfl hp
    cases hb : isP (ahd c.L i) [91] with
    | false =>
      rw [if_neg (by decide)]
      have hne := fun W' (h' : PAt c W' na nc i d ns) => need_no c hc h' (ByteArray.mk #[91]) [91] rfl hb
      go_enter Tryz.func103, Tryz.ntmps103
      go_wp2_with (first
        | (rw [← hW1]; go_at_call 121; refine ht.mono ?_; rintro e W2 ⟨rfl, h2, f2⟩)
        | (go_at_call 122; refine (hne _ h2).mono ?_; rintro e W5 ⟨he, hK⟩; unfold faultE at he; subst he))
      exact ⟨rfl, rfl, (f1.trans f2).kpt hK⟩
    | true =>
      rw [if_pos rfl]
      have hne := fun W' (h' : PAt c W' na nc i d ns) => need_yes c hc h' (ByteArray.mk #[91]) [91] rfl hb
      have hli := fun W' (h' : PAt c W' na nc (i + 1) d ns) => list_at c hc h' hr h7
      cases hu : listG c.L r (i + 1) ns with
      | bad i' code =>
        rw [hu] at hli
        unfold OPost at hli
        go_enter Tryz.func103, Tryz.ntmps103
        go_wp2_with (first
          | (rw [← hW1]; go_at_call 121; refine ht.mono ?_; rintro e W2 ⟨rfl, h2, f2⟩)
          | (go_at_call 122; refine (hne _ h2).mono ?_; rintro e W5 ⟨rfl, h5, f5⟩)
          | (go_at_call 123; refine (hli _ h5).mono ?_; rintro e W6 ⟨he, hK⟩; unfold faultE at he; subst he))
        exact ⟨rfl, rfl, (f1.trans (f2.trans f5)).kpt hK⟩
      | ok T i3 ns3 =>
        rw [hu] at hli
        unfold OPost at hli
        go_enter Tryz.func103, Tryz.ntmps103
        go_wp2_with (first
          | (rw [← hW1]; go_at_call 121; refine ht.mono ?_; rintro e W2 ⟨rfl, h2, f2⟩)
          | (go_at_call 122; refine (hne _ h2).mono ?_; rintro e W5 ⟨rfl, h5, f5⟩)
          | (go_at_call 123; refine (hli _ h5).mono ?_; rintro e W6 ⟨na6, nc6, k, n, s, a, l, cp, rfl, h6, f6, hT6⟩; have fall := f2.trans (f5.trans f6); obtain ⟨s9, x9, z0, z1, z2, z3, zf⟩ := fall.box s1 x1))
        obtain ⟨Z, hZ, hzb, hP, hF, hkp, hsz⟩ := h6.box4 hc h (f1.trans fall) (Nat.le_refl _) s9 x9 (.int .i64 k) (.int .i64 n) (.string s) (.slice a l cp)
        obtain ⟨y0, y1, y2, y3⟩ := tbox_cells hzb
        rw [← hZ]
        refine bodyPost_ret (v := .agg #[.int .i64 k, .int .i64 n, .string s, .slice a l cp]) (by simp [results, Tryz.f103, go_sem, y0, y1, y2, y3]) rfl ?_
        have e3 := Nat.lt_of_lt_of_le s1.1 (f2.trans f5).size
        exact ⟨na6, nc6, k, n, s, a, l, cp, rfl, hP, hF, tm_box hT6 e3 (Nat.le_of_lt e3) hkp hsz⟩
end
end Go.Proofs.YtfencolokfghfaaGreatDoor
