/-
  term: a term of at most a priority.
-/
import Derived.Test.YtfencolokfghfaaGreatDoorReadN
import Derived.Deep.LoopGhost
import Derived.Deep.RegionHeld3
import Derived.RegionCalls
namespace Go.Proofs.YtfencolokfghfaaGreatDoor
open Go.RowKit Go.Maps
set_option linter.unusedVariables false
set_option linter.unusedSectionVars false
set_option linter.unusedSimpArgs false

theorem infR_le {s : List UInt8} {a b c : Nat} (h : infR s = some (a, b, c)) : c ≤ 1200 := by
  unfold infR at h
  repeat (first | (split at h; (first | (injection h with h; injection h with h1 h2; injection h2 with h2 h3; omega) | skip)) | cases h)
theorem opG_le {L : List Tok} {most pri i own right : Nat} (h : opG L most pri i = some (own, right)) : right ≤ 1200 ∧ i < L.length := by
  unfold opG at h
  split at h
  · rename_i hb
    have hi : i < L.length := by
      rcases hb with hb | hb
      · unfold bare at hb
        simp only [Bool.and_eq_true, decide_eq_true_eq] at hb
        exact ahd_lt (by rw [hb.1]; decide)
      · exact (isP_lt hb).1
    split at h
    · rename_i a b c hin
      split at h
      · injection h with h
        injection h with h1 h2
        subst h2
        exact ⟨infR_le hin, hi⟩
      · cases h
    · cases h
  · cases h
theorem opG_seg {L : List Tok} {most pri i own right : Nat} {ns : Nms} (ho : opG L most pri i = some (own, right)) : Seg L 1 i ns [] (i + 1) ns := by
  unfold opG at ho
  split at ho
  · rename_i hb
    rcases hb with hb | hb
    · unfold bare at hb
      simp only [Bool.and_eq_true, decide_eq_true_eq] at hb
      exact Seg.tok (ahd_lt (by rw [hb.1]; decide)) (par_kind (by rw [hb.1]; decide)) (by rw [hb.1]; decide)
    · exact Seg.punct hb (by decide) (by decide)
  · cases ho
section
variable (c : Cx) (hc : c.Ok) {W : World} {na : Option Addr} {nc i d : Nat} {ns : Nms} (h : PAt c W na nc i d ns)
include hc h
set_option maxRecDepth 100000 in
set_option maxHeartbeats 4000000 in
theorem term_deep (hd : d = 60) (most : Nat) : Calls Tryz.prog 66 #[.pointer (some ⟨c.b, 0, none⟩), .int .i64 most] W fun e W' => e = faultE i 7 ∧ Kp c W na W' := by
  obtain ⟨W1, hW1⟩ : ∃ W1, W1 = W.alloc (.cells #[.int .i64 0, .int .i64 0, .string (ByteArray.mk #[]), .slice none 0 0] 24) := ⟨_, rfl⟩
  obtain ⟨h1, s1, x1, f1⟩ := h.fresh hc #[.int .i64 0, .int .i64 0, .string (ByteArray.mk #[]), .slice none 0 0] 24
  rw [← hW1] at h1 s1 x1 f1
  have hz := zeroTerm
  have hen := enter_bad c hc h1 hd
  go_enter Tryz.func66, Tryz.ntmps66
  go_wp2_with (rw [← hW1]; go_at_call 85; refine hen.mono ?_; rintro e W2 ⟨he, hK⟩; unfold faultE at he; subst he)
  exact ⟨rfl, rfl, f1.kpt hK⟩
set_option maxRecDepth 100000 in
set_option maxHeartbeats 4000000 in
theorem term_bad (hd : d < 60) (most : Nat) {i' : Nat} {code : Int} (hcal : ∀ W', PAt c W' na nc i (d + 1) ns → Calls Tryz.prog 86 #[.pointer (some ⟨c.b, 0, none⟩), .int .i64 most] W' fun e W'' => e = faultE i' code ∧ Kp c W' na W'') : Calls Tryz.prog 66 #[.pointer (some ⟨c.b, 0, none⟩), .int .i64 most] W fun e W' => e = faultE i' code ∧ Kp c W na W' := by
  obtain ⟨W1, hW1⟩ : ∃ W1, W1 = W.alloc (.cells #[.int .i64 0, .int .i64 0, .string (ByteArray.mk #[]), .slice none 0 0] 24) := ⟨_, rfl⟩
  obtain ⟨h1, s1, x1, f1⟩ := h.fresh hc #[.int .i64 0, .int .i64 0, .string (ByteArray.mk #[]), .slice none 0 0] 24
  rw [← hW1] at h1 s1 x1 f1
  have hz := zeroTerm
  have hen := enter_at c hc h1 hd
  go_enter Tryz.func66, Tryz.ntmps66
  go_wp2_with (first
    | (rw [← hW1]; go_at_call 85; refine hen.mono ?_; rintro e W2 ⟨rfl, h2, f2⟩)
    | (go_at_call 86; refine (hcal _ h2).mono ?_; rintro e W3 ⟨he, hK⟩; unfold faultE at he; subst he))
  exact ⟨rfl, rfl, (f1.trans f2).kpt hK⟩
set_option maxRecDepth 100000 in
set_option maxHeartbeats 4000000 in
theorem term_loop (hd : d < 60) (most : Nat) {r : Rdr} (hr : RAt c (d + 1) r) (h7 : Reads7 c.L r) {T0 : Tm} {pri0 i0 : Nat} {ns0 : Nms} (hseg : Seg c.L 0 i ns [T0] i0 ns0) (hcal : ∀ W', PAt c W' na nc i (d + 1) ns → Calls Tryz.prog 86 #[.pointer (some ⟨c.b, 0, none⟩), .int .i64 most] W' (NPost c W' na (d + 1) (.ok (T0, pri0) i0 ns0))) : Calls Tryz.prog 66 #[.pointer (some ⟨c.b, 0, none⟩), .int .i64 most] W (OPost c W na d (loopG c.L c.lv r most (c.L.length + 1 - i0) T0 pri0 i0 ns0)) := by
  obtain ⟨W1, hW1⟩ : ∃ W1, W1 = W.alloc (.cells #[.int .i64 0, .int .i64 0, .string (ByteArray.mk #[]), .slice none 0 0] 24) := ⟨_, rfl⟩
  obtain ⟨h1, s1, x1, f1⟩ := h.fresh hc #[.int .i64 0, .int .i64 0, .string (ByteArray.mk #[]), .slice none 0 0] 24
  rw [← hW1] at h1 s1 x1 f1
  have hw1 : W1.heap.size = W.heap.size + 1 := by rw [hW1]; simp
  have hz := zeroTerm
  have hf1 := field1
  have hen := enter_at c hc h1 hd
  have hlen := hc.len
  have hnot : ∀ (x : Bool) (w : World), (Op.unary .not (.bool x)).run Tryz.prog w = .ok (.bool (!x)) w := fun _ _ => rfl
  go_enter Tryz.func66, Tryz.ntmps66
  go_wp2_with (first
    | (rw [← hW1]; go_at_call 85; refine hen.mono ?_; rintro e W2 ⟨rfl, h2, f2⟩)
    | (go_at_call 86; refine (hcal _ h2).mono ?_; rintro e Wp ⟨nap, ncp, k, n, s, a, l, cp, rfl, hp, fp, hTp⟩; obtain ⟨h4, s4, x4, f4⟩ := hp.fresh hc #[.int .i64 k, .int .i64 n, .string s, .slice a l cp] 24))
  have hs2 := f2.size
  have hsp := fp.size
  have hu : TmIn (fun j => Nw c W1 (Wp.alloc (.cells #[.int .i64 k, .int .i64 n, .string s, .slice a l cp] 24)) nap j ∧ j ≠ Wp.heap.size) (Wp.alloc (.cells #[.int .i64 k, .int .i64 n, .string s, .slice a l cp] 24)) (.agg #[.int .i64 k, .int .i64 n, .string s, .slice a l cp]) T0 :=
    hTp.carry (fun j hj => (f4.keep j hj.1).1) (fun j hj => ⟨⟨(f4.keep j hj.1).2, Nat.le_trans hs2 hj.2⟩, by have := hj.1.1; omega⟩)
  have f12 : Fr c W1 na Wp nap := f2.trans fp
  have hi0 := h4.le
  generalize hX : Wp.alloc (.cells #[.int .i64 k, .int .i64 n, .string s, .slice a l cp] 24) = X at *
  clear hTp hcal hen fp s4 hX
  go_loopg [6] (c.L.length + 1 - i0) (fun g x wr => ∃ T pri na3 nc3 i3 ns3 k n s a l cp, x = .int .i64 (pri : Nat) ∧ PAt c wr na3 nc3 i3 (d + 1) ns3 ∧ Fr c Wp nap wr na3 ∧ wr.heap[Wp.heap.size]? = some (.cells #[.int .i64 k, .int .i64 n, .string s, .slice a l cp] 24 (0, 0)) ∧ TmIn (fun j => Nw c W1 wr na3 j ∧ j ≠ Wp.heap.size) wr (.agg #[.int .i64 k, .int .i64 n, .string s, .slice a l cp]) T ∧ loopG c.L c.lv r most (c.L.length + 1 - i0) T0 pri0 i0 ns0 = loopG c.L c.lv r most g T pri i3 ns3 ∧ c.L.length + 1 ≤ i3 + g ∧ Seg c.L 0 i ns [T] i3 ns3)
  case atStart => exact ⟨T0, pri0, nap, ncp, i0, ns0, k, n, s, a, l, cp, rfl, h4, f4, x4, hu, rfl, by omega, hseg⟩
  case round =>
    obtain ⟨T, pri, na3, nc3, i3, ns3, k3, n3, s3, a3, l3, cp3, rfl, hP3, f3, x3, hT3, hgh, hfu, hsg⟩ := hrel
    clear h4 f4 x4 hu
    have hle3 := hP3.le
    obtain ⟨m, rfl⟩ : ∃ m, gk = m + 1 := ⟨gk - 1, by omega⟩
    have hst3 : c.stays wr na3 Wp.heap.size := hP3.new2 hc x3 (Nat.le_trans h.bel.size (Nat.le_trans (by omega) (Nat.le_trans hs2 hsp)))
    have hop := op_at c hc hP3 most pri
    have hszT := hsg.size
    rw [Tm.sizes_cons, Tm.sizes_nil] at hszT
    have e9 : loopG c.L c.lv r most (m + 1) T pri i3 ns3 = match opG c.L most pri i3 with
      | none => .ok T i3 ns3
      | some (own, right) => (r right (i3 + 1) ns3).bind fun u i' ns => (funG c.lv (ahd c.L i3).s [T, u] i' ns).bind fun v i' ns => loopG c.L c.lv r most m v own i' ns := rfl
    rw [e9] at hgh
    cases ho : opG c.L most pri i3 with
    | none =>
      rw [ho] at hop hgh
      unfold opV at hop
      dsimp only at hgh
      have HG := Lib.hid hgh
      clear hgh e9
      have hle := fun W' (h' : PAt c W' na3 nc3 i3 (d + 1) ns3) => leave_at c hc h' (by omega)
      simp only [Nat.add_sub_cancel] at hle
      go_wp2_with (first
        | (go_at_call 87; refine hop.mono ?_; rintro e W5 ⟨rfl, hb5⟩; have h5 := hP3.later hc hb5)
        | (go_at_call 89; refine (hle _ h5).mono ?_; rintro e W6 ⟨rfl, h6, f6⟩; have f56 := (Fr.below (c := c) (na := na3) hb5).trans f6; obtain ⟨s7, x7, q0, q1, q2, q3, qf⟩ := f56.box hst3 x3; have fall := f12.trans (f3.trans f56); obtain ⟨s9, x9, z0, z1, z2, z3, zf⟩ := fall.box s1 x1))
      obtain ⟨Z, hZ, hzb, hP, hF, hkp, hsz⟩ := h6.box4 hc h (f1.trans fall) (Nat.le_refl _) s9 x9 (.int .i64 k3) (.int .i64 n3) (.string s3) (.slice a3 l3 cp3)
      obtain ⟨y0, y1, y2, y3⟩ := tbox_cells hzb
      rw [← hZ, HG.out]
      refine bodyPost_ret (v := .agg #[.int .i64 k3, .int .i64 n3, .string s3, .slice a3 l3 cp3]) (by simp [results, Tryz.f66, go_sem, y0, y1, y2, y3]) rfl ?_
      refine ⟨na3, nc3, k3, n3, s3, a3, l3, cp3, rfl, hP, hF, hT3.carry (fun j hj => (hkp j (by have := hj.1.2; omega)).trans (f56.keep j hj.1.1).1) (fun j hj => ?_)⟩
      have h91 := (f56.keep j hj.1.1).2
      have h92 := hj.1.2
      exact ⟨⟨by rw [hsz]; exact h91.1, h91.2⟩, by omega⟩
    | some x =>
      obtain ⟨own, right⟩ := x
      rw [ho] at hop hgh
      unfold opV at hop
      dsimp only at hgh
      have HG := Lib.hid hgh
      clear hgh e9
      obtain ⟨hri, hi3⟩ := opG_le ho
      have hsl : (ahd c.L i3).s.length ≤ 4096 := (hc.tok _ (by unfold ahd; rw [List.getD_eq_getElem?_getD, List.getElem?_eq_getElem hi3]; exact List.getElem_mem hi3)).2
      have hah := fun W' (h' : PAt c W' na3 nc3 i3 (d + 1) ns3) => ahead_at c hc h' 0 (by omega)
      simp only [Nat.add_zero] at hah
      have hii : (i3 : Int) < 4096 := by omega
      have hoseg := opG_seg (ns := ns3) ho
      clear ho
      go_wp2_with (first
        | (go_at_call 87; refine hop.mono ?_; rintro e W5 ⟨rfl, hb5⟩; have h5 := hP3.later hc hb5)
        | (go_at_call 67; refine (hah _ h5).mono ?_; rintro e W6 ⟨rfl, hb6⟩; have h6 := h5.later hc hb6; obtain ⟨b0, b1, b2, b3, b4, b5, bf⟩ := h6.cells; obtain ⟨h7', f7⟩ := step_at c hc h6 hi3))
      have f37 := ((Fr.below (c := c) (na := na3) hb5).trans (Fr.below hb6)).trans f7
      generalize hV : W6.setCell ⟨c.b, 1, none⟩ (.int .i64 ((i3 : Int) + 1)) = V at *
      have hbd : Below V.heap.size V V.drew := (Below.refl _ _).drew
      have h8 := h7'.later hc hbd
      have f38 := f37.trans (Fr.below (c := c) (na := na3) hbd)
      obtain ⟨sB, xB, q0, q1, q2, q3, -⟩ := f38.box hst3 x3
      have hter := hr V.drew na3 nc3 (i3 + 1) ns3 right h8 hri
      have HS : (fun w' : World => w'.cell? ⟨Wp.heap.size, 0, none⟩ = some (.int .i64 k3) ∧ w'.cell? ⟨Wp.heap.size, 1, none⟩ = some (.int .i64 n3) ∧ w'.cell? ⟨Wp.heap.size, 2, none⟩ = some (.string s3) ∧ w'.cell? ⟨Wp.heap.size, 3, none⟩ = some (.slice a3 l3 cp3)) V.drew := ⟨q0, q1, q2, q3⟩
      clear b0 b1 b2 b3 b4 b5 bf hV hop hah
      have fWr := f1.trans (f12.trans (f3.trans f38))
      cases hu : r right (i3 + 1) ns3 with
      | bad i' code =>
        rw [hu] at hter
        have hgo := HG.out
        rw [hu] at hgo
        unfold OPost at hter
        rw [hgo]
        refine wp_region_held_drew (S := fun w' : World => w'.cell? ⟨Wp.heap.size, 0, none⟩ = some (.int .i64 k3) ∧ w'.cell? ⟨Wp.heap.size, 1, none⟩ = some (.int .i64 n3) ∧ w'.cell? ⟨Wp.heap.size, 2, none⟩ = some (.string s3) ∧ w'.cell? ⟨Wp.heap.size, 3, none⟩ = some (.slice a3 l3 cp3)) (by kernel_rfl) HS (fun hHeld => ?_)
        refine wpAnyH_take (i := 0) (v := ?v0) rfl (by kernel_rfl) (by kernel_rfl) (by kernel_rfl) (by exact fun _ _ _ h => h) (Or.inl ⟨by rfl, ?hy0⟩) (by assumption) ?_
        case hy0 => (intro w hSw; (try dsimp only at hSw); obtain ⟨g0, g1, g2, g3⟩ := hSw; go_simp; try with_reducible rfl)
        try simp only [Act.put, List.setIfInBounds_toArray, List.set_cons_zero, List.set_cons_succ]
        refine wpAnyH_take (i := 1) (v := ?v1) rfl (by kernel_rfl) (by kernel_rfl) (by kernel_rfl) (by exact fun _ _ _ h => h) (Or.inl ⟨by rfl, ?hy1⟩) (by assumption) ?_
        case hy1 => (intro w hSw; (try dsimp only at hSw); obtain ⟨g0, g1, g2, g3⟩ := hSw; go_simp; try with_reducible rfl)
        try simp only [Act.put, List.setIfInBounds_toArray, List.set_cons_zero, List.set_cons_succ]
        refine wpAnyH_take (i := 2) (v := ?v2) rfl (by kernel_rfl) (by kernel_rfl) (by kernel_rfl) (by exact fun _ _ _ h => h) (Or.inl ⟨by rfl, ?hy2⟩) (by assumption) ?_
        case hy2 => (intro w hSw; (try dsimp only at hSw); obtain ⟨g0, g1, g2, g3⟩ := hSw; go_simp; try with_reducible rfl)
        try simp only [Act.put, List.setIfInBounds_toArray, List.set_cons_zero, List.set_cons_succ]
        refine wpAnyH_take (i := 3) (v := ?v3) rfl (by kernel_rfl) (by kernel_rfl) (by kernel_rfl) (by exact fun _ _ _ h => h) (Or.inl ⟨by rfl, ?hy3⟩) (by assumption) ?_
        case hy3 => (intro w hSw; (try dsimp only at hSw); obtain ⟨g0, g1, g2, g3⟩ := hSw; go_simp; try with_reducible rfl)
        try simp only [Act.put, List.setIfInBounds_toArray, List.set_cons_zero, List.set_cons_succ]
        refine wpAnyH_take (i := 4) (v := ?v4) rfl (by kernel_rfl) (by kernel_rfl) (by kernel_rfl) (by exact fun _ _ _ h => h) (Or.inl ⟨by rfl, ?hy4⟩) (by assumption) ?_
        case hy4 => (intro w hSw; (try dsimp only at hSw); obtain ⟨g0, g1, g2, g3⟩ := hSw; go_simp; try with_reducible rfl)
        try simp only [Act.put, List.setIfInBounds_toArray, List.set_cons_zero, List.set_cons_succ]
        refine wpAnyH_take (i := 8) (v := ?v8) rfl (by kernel_rfl) (by kernel_rfl) (by kernel_rfl) (by exact fun _ _ _ h => h) (Or.inl ⟨by rfl, ?hy8⟩) (by assumption) ?_
        case hy8 => (intro w hSw; (try dsimp only at hSw); obtain ⟨g0, g1, g2, g3⟩ := hSw; go_simp; try with_reducible rfl)
        try simp only [Act.put, List.setIfInBounds_toArray, List.set_cons_zero, List.set_cons_succ]
        refine wpAnyH_ready (rs := [5]) (by kernel_rfl) (by simp) ?_
        refine AllReadyH.cons rfl (fun K hK => ?_) ?_
        · go_simp
          refine hter.mono ?_
          rintro e W9 ⟨he, hK9⟩
          unfold faultE at he
          subst he
          exact ⟨rfl, rfl, fWr.kpt hK9⟩
        · exact AllReadyH.nil
      | ok U i9 ns9 =>
        rw [hu] at hter
        have hgo := HG.out
        rw [hu] at hgo
        dsimp only [Out.bind] at hgo
        unfold OPost at hter
        have hsU := h7 _ _ _ _ _ _ hu
        have hszU := hsU.1.size
        have hlU := hsU.1.len
        rw [Tm.sizes_cons, Tm.sizes_nil] at hszU
        have hsz2 : Tm.sizes [T, U] ≤ 1000000 := by rw [Tm.sizes_cons, Tm.sizes_cons, Tm.sizes_nil]; omega
        have hWV : Wp.heap.size < V.heap.size := sB.1
        -- what fun is called with
        have hkids : ∀ (W9 : World) (na9 : Option Addr) (nc9 : Nat) (k9 n9 : Int) (s9 : ByteArray) (a9 : Option Addr) (l9 cp9 : Nat), PAt c W9 na9 nc9 i9 (d + 1) ns9 → Fr c V.drew na3 W9 na9 → TmIn (Nw c V.drew W9 na9) W9 (.agg #[.int .i64 k9, .int .i64 n9, .string s9, .slice a9 l9 cp9]) U →
            (∃ G, G = W9.alloc (.cells #[.int .i64 k3, .int .i64 n3, .string s3, .slice a3 l3 cp3, .int .i64 k9, .int .i64 n9, .string s9, .slice a9 l9 cp9] 24) ∧ PAt c G na9 nc9 i9 (d + 1) ns9 ∧ Fr c V.drew na3 G na9 ∧ W9.heap.size < G.heap.size ∧ Calls Tryz.prog 88 #[.pointer (some ⟨c.b, 0, none⟩), .string (strV (ahd c.L i3).s), .slice (some ⟨W9.heap.size, 0, none⟩) 2 2] G (FOut c G na9 nc9 i9 (d + 1) ns9 (fun j => Nw c W1 G na9 j ∧ j ≠ Wp.heap.size) (funG c.lv (ahd c.L i3).s [T, U] i9 ns9))) := by
          intro W9 na9 nc9 k9 n9 s9 a9 l9 cp9 h9 f9 hT9
          obtain ⟨h10, s10, x10, f10⟩ := h9.fresh hc #[.int .i64 k3, .int .i64 n3, .string s3, .slice a3 l3 cp3, .int .i64 k9, .int .i64 n9, .string s9, .slice a9 l9 cp9] 24
          have hsz9 : V.heap.size ≤ W9.heap.size := f9.size
          have hw1V : W1.heap.size ≤ V.heap.size := Nat.le_of_lt (Nat.lt_of_le_of_lt (Nat.le_trans hs2 hsp) hWV)
          have f310 := f38.trans (f9.trans f10)
          refine ⟨_, rfl, h10, f9.trans f10, by simp, ?_⟩
          refine fun_at c hc h10 (ahd c.L i3).s hsl (fun j hj => hj.1.1) [T, U] _ (two_ts x10 ⟨⟨s10, by omega⟩, by omega⟩ ?_ ?_) hsz2
          · exact hT3.carry (fun j hj => (f310.keep j hj.1.1).1) (fun j hj => ⟨⟨(f310.keep j hj.1.1).2, hj.1.2⟩, hj.2⟩)
          · exact hT9.carry (fun j hj => (f10.keep j hj.1).1) (fun j hj => ⟨⟨(f10.keep j hj.1).2, Nat.le_trans hw1V hj.2⟩, by have h94 : V.heap.size ≤ j := hj.2; omega⟩)
        cases hfu2 : funG c.lv (ahd c.L i3).s [T, U] i9 ns9 with
        | bad i' code =>
          rw [hfu2] at hgo
          simp only [hfu2] at hkids
          unfold FOut at hkids
          dsimp only [Out.bind] at hgo
          rw [hgo]
          refine wp_region_held_drew (S := fun w' : World => w'.cell? ⟨Wp.heap.size, 0, none⟩ = some (.int .i64 k3) ∧ w'.cell? ⟨Wp.heap.size, 1, none⟩ = some (.int .i64 n3) ∧ w'.cell? ⟨Wp.heap.size, 2, none⟩ = some (.string s3) ∧ w'.cell? ⟨Wp.heap.size, 3, none⟩ = some (.slice a3 l3 cp3)) (by kernel_rfl) HS (fun hHeld => ?_)
          refine wpAnyH_take (i := 0) (v := ?v0) rfl (by kernel_rfl) (by kernel_rfl) (by kernel_rfl) (by exact fun _ _ _ h => h) (Or.inl ⟨by rfl, ?hy0⟩) (by assumption) ?_
          case hy0 => (intro w hSw; (try dsimp only at hSw); obtain ⟨g0, g1, g2, g3⟩ := hSw; go_simp; try with_reducible rfl)
          try simp only [Act.put, List.setIfInBounds_toArray, List.set_cons_zero, List.set_cons_succ]
          refine wpAnyH_take (i := 1) (v := ?v1) rfl (by kernel_rfl) (by kernel_rfl) (by kernel_rfl) (by exact fun _ _ _ h => h) (Or.inl ⟨by rfl, ?hy1⟩) (by assumption) ?_
          case hy1 => (intro w hSw; (try dsimp only at hSw); obtain ⟨g0, g1, g2, g3⟩ := hSw; go_simp; try with_reducible rfl)
          try simp only [Act.put, List.setIfInBounds_toArray, List.set_cons_zero, List.set_cons_succ]
          refine wpAnyH_take (i := 2) (v := ?v2) rfl (by kernel_rfl) (by kernel_rfl) (by kernel_rfl) (by exact fun _ _ _ h => h) (Or.inl ⟨by rfl, ?hy2⟩) (by assumption) ?_
          case hy2 => (intro w hSw; (try dsimp only at hSw); obtain ⟨g0, g1, g2, g3⟩ := hSw; go_simp; try with_reducible rfl)
          try simp only [Act.put, List.setIfInBounds_toArray, List.set_cons_zero, List.set_cons_succ]
          refine wpAnyH_take (i := 3) (v := ?v3) rfl (by kernel_rfl) (by kernel_rfl) (by kernel_rfl) (by exact fun _ _ _ h => h) (Or.inl ⟨by rfl, ?hy3⟩) (by assumption) ?_
          case hy3 => (intro w hSw; (try dsimp only at hSw); obtain ⟨g0, g1, g2, g3⟩ := hSw; go_simp; try with_reducible rfl)
          try simp only [Act.put, List.setIfInBounds_toArray, List.set_cons_zero, List.set_cons_succ]
          refine wpAnyH_take (i := 4) (v := ?v4) rfl (by kernel_rfl) (by kernel_rfl) (by kernel_rfl) (by exact fun _ _ _ h => h) (Or.inl ⟨by rfl, ?hy4⟩) (by assumption) ?_
          case hy4 => (intro w hSw; (try dsimp only at hSw); obtain ⟨g0, g1, g2, g3⟩ := hSw; go_simp; try with_reducible rfl)
          try simp only [Act.put, List.setIfInBounds_toArray, List.set_cons_zero, List.set_cons_succ]
          refine wpAnyH_take (i := 8) (v := ?v8) rfl (by kernel_rfl) (by kernel_rfl) (by kernel_rfl) (by exact fun _ _ _ h => h) (Or.inl ⟨by rfl, ?hy8⟩) (by assumption) ?_
          case hy8 => (intro w hSw; (try dsimp only at hSw); obtain ⟨g0, g1, g2, g3⟩ := hSw; go_simp; try with_reducible rfl)
          try simp only [Act.put, List.setIfInBounds_toArray, List.set_cons_zero, List.set_cons_succ]
          refine wpAnyH_ready (rs := [5]) (by kernel_rfl) (by simp) ?_
          refine AllReadyH.cons rfl (fun K hK => ?_) AllReadyH.nil
          go_simp
          refine hter.mono ?_
          rintro e W9 ⟨na9, nc9, k9, n9, s9, a9, l9, cp9, rfl, h9, f9, hT9⟩
          refine hK _ _ ?_ (fun hHeld9 => ?_)
          · obtain ⟨-, -, g0, g1, g2, g3, -⟩ := f9.box sB xB
            exact ⟨g0, g1, g2, g3⟩
          obtain ⟨G, hG, hPG, fG, hGl, hcallG⟩ := hkids W9 na9 nc9 k9 n9 s9 a9 l9 cp9 h9 f9 hT9
          refine wpAnyH_ready (rs := [6]) (by kernel_rfl) (by simp) ?_
          refine AllReadyH.cons rfl (fun K2 hK2 => ?_) AllReadyH.nil
          go_simp
          refine hK2 _ _ ?_ (fun hHeldG => ?_)
          · rw [← hG]
            obtain ⟨-, -, g0, g1, g2, g3, -⟩ := fG.box sB xB
            exact ⟨g0, g1, g2, g3⟩
          refine wpAnyH_ready (rs := [7]) (by kernel_rfl) (by simp) ?_
          refine AllReadyH.cons rfl (fun K3 hK3 => ?_) AllReadyH.nil
          go_simp
          rw [← hG]
          refine hcallG.mono ?_
          rintro e Y ⟨he, hK9⟩
          unfold faultE at he
          subst he
          exact ⟨rfl, rfl, (fWr.trans fG).kpt hK9⟩
        | ok T9 i10 ns10 =>
          obtain ⟨rfl, rfl⟩ := funG_ok hfu2
          rw [hfu2] at hgo
          simp only [hfu2] at hkids
          unfold FOut at hkids
          dsimp only [Out.bind] at hgo
          have HG2 := Lib.hid hgo
          have HK := Lib.hid hkids
          clear hkids hgo HG
          go_region_with (first
            | (go_at_call 66; refine hter.mono ?_; rintro e W9 ⟨na9, nc9, k9, n9, s9, a9, l9, cp9, rfl, h9, f9, hT9⟩; obtain ⟨G, hG, hPG, fG, hGl, hcallG⟩ := HK.out W9 na9 nc9 k9 n9 s9 a9 l9 cp9 h9 f9 hT9; obtain ⟨-, -, g0, g1, g2, g3, -⟩ := f9.box sB xB; obtain ⟨sG, xG, -⟩ := fG.box sB xB)
            | (go_at_call 88; rw [← hG]; refine hcallG.mono ?_; rintro e Y ⟨k5, n5, s5, a5, l5, cp5, rfl, hPY, fY, hTY⟩; obtain ⟨sY, xY, v0, v1, v2, v3, vf⟩ := fY.box sG xG))
          all_goals
            have fpY := f3.trans (f38.trans (fG.trans fY))
            obtain ⟨Z, hZ, hzb, hP, hF, hkp, hsz⟩ := hPY.box4 hc hp fpY (Nat.le_refl _) sY xY (.int .i64 k5) (.int .i64 n5) (.string s5) (.slice a5 l5 cp5)
            rw [← hZ]
            have HP := Lib.hid (And.intro hP (And.intro hF (And.intro hkp (And.intro hsz hzb))))
            clear hP hF hkp hsz hzb v0 v1 v2 v3 vf hZ g0 g1 g2 g3
            go_wp2
            go_roundg m
            case measure => omega
            case rel =>
              obtain ⟨hP, hF, hkp, hsz, hzb⟩ := HP.out
              have hseg9 := Seg.fn (σ := 0) (Seg.weak (τ := 0 + 1) (by simpa using ((hsg.append hoseg).append hsU.1)) (by omega)) hfu2
              refine ⟨T9, own, na9, nc9, _, _, k5, n5, s5, a5, l5, cp5, rfl, hP, hF, hzb, ?_, HG2.out, by have := hsU.2; omega, hseg9⟩
              refine hTY.carry (fun j hj => hkp j ?_) (fun j hj => ?_)
              · rcases hj with hj | hj
                · exact hj.2
                · have := hj.2; have h95 : V.heap.size ≤ W9.heap.size := f9.size; omega
              · rcases hj with hj | hj
                · have h96 := (fY.keep j hj.1.1).2
                  exact ⟨⟨⟨by rw [hsz]; exact h96.1, h96.2⟩, hj.1.2⟩, hj.2⟩
                · have h91 := hj.2
                  have h95 : V.heap.size ≤ W9.heap.size := f9.size
                  exact ⟨⟨⟨by rw [hsz]; exact hj.1.1, hj.1.2⟩, by omega⟩, by omega⟩
end
theorem rd_at (c : Cx) (hc : c.Ok) : ∀ (e d : Nat), d + e = 60 → RAt c d (rd c.L c.lv e)
  | 0, d, hd => fun W na nc i ns most h hm => term_deep c hc h (by omega) most
  | 1, d, hd => fun W na nc i ns most h hm => term_bad c hc h (by omega) most (fun W' h' => prim_deep c hc h' (by omega) most)
  | e + 2, d, hd => fun W na nc i ns most h hm => by
    have hcal := fun W' (h' : PAt c W' na nc i (d + 1) ns) => primary_at c hc h' (by omega) (rd_at c hc e (d + 2) (by omega)) (rd_seg c.L c.lv e) most
    rw [rd]
    cases hu : primG c.L c.lv (rd c.L c.lv e) most i ns with
    | bad i' code => rw [hu] at hcal; exact term_bad c hc h (by omega) most hcal
    | ok tp i1 ns1 =>
      obtain ⟨T, pri⟩ := tp
      rw [hu] at hcal
      exact term_loop c hc h (by omega) most (rd_at c hc (e + 1) (d + 1) (by omega)) (rd_seg c.L c.lv (e + 1)) (prim_seg (rd_seg c.L c.lv e) hu).1 hcal
end Go.Proofs.YtfencolokfghfaaGreatDoor
