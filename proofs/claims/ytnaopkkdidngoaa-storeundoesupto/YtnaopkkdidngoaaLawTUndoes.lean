/-
  The law StoreUndoes, walked.
-/
import Derived.Test.YtnaopkkdidngoaaStoR
import Derived.Deep.DeepCutAuto
namespace Go.Proofs.Ytnaopkkdidngoaa
open Go.RowKit Go.Shelf
set_option linter.unusedVariables false
set_option linter.unusedSimpArgs false

set_option maxRecDepth 100000 in
set_option maxHeartbeats 16000000 in
theorem storeUndoes_at (a1 a2 : Option Addr) (len1 cap1 len2 cap2 : Nat) (t : Value) (T : Tm) (w : World) (hl1 : len1 ≤ 9223372036854775807) (hl2 : len2 ≤ 9223372036854775807) (hD1 : DeedsAt w.heap.size w a1 len1) (hD2 : DeedsAt w.heap.size w a2 len2) (ht : Has w t T) (hs : T.size ≤ 1048576) :
    Calls Try.prog 3 #[.slice a1 len1 cap1, .slice a2 len2 cap2, t] w (Gets w (.bool true)) := by
  obtain ⟨k, n, s, a, len, cap, ks, rfl, e, -⟩ := ht.form
  have hB0 : Below w.heap.size w (w.alloc (.cells #[.int .i64 k, .int .i64 n, .string s, .slice a len cap] 25)) := (Below.refl _ w).alloc (Nat.le_refl _) _
  have hx0 := World.alloc_heap_new w (.cells #[.int .i64 k, .int .i64 n, .string s, .slice a len cap] 25)
  have H0 := Lib.hid (And.intro hB0 (And.intro hx0 (Has.below ht hB0)))
  have HD := Lib.hid (And.intro hD1 hD2)
  clear ht e hB0 hx0 hD1 hD2
  go_enter Try.func3, Try.ntmps3
  go_wp2_with fail
  refine (shown10_at _).mono ?_
  rintro e w1 ⟨rfl, hB1⟩
  have hb1 := tbox_below H0.out.2.1 hB1
  have H1 := Lib.hid (And.intro (H0.out.1.trans (hB1.mono H0.out.1.size)) (And.intro hb1 (Has.below H0.out.2.2 hB1)))
  clear H0 hB1 hb1
  go_wp2_with fail
  refine (new_at10 w1 w1.heap.size (Nat.le_refl _)).mono ?_
  rintro e w2 ⟨rfl, hB2, hlt2, hS2⟩
  have hb2 := tbox_below H1.out.2.1 hB2
  obtain ⟨x0, x1, x2, x3⟩ := tbox_cells hb2
  have HT := Lib.hid (And.intro H1.out.2.1 H1.out.2.2)
  have HW1 := Lib.hid H1.out.1
  have HD' := Lib.hid (And.intro (HD.out.1.below H1.out.1 (Nat.le_refl _)) (HD.out.2.below H1.out.1 (Nat.le_refl _)))
  have H2 := Lib.hid (And.intro hB2 hS2)
  have hT2 := Has.below H1.out.2.2 hB2
  clear hB2 hS2 hlt2 hb2 H1 HD
  go_wp2_with fail
  refine (few10_at _ T w2 hT2 (by omega)).mono ?_
  by_cases hfew : T.size ≤ 300
  case neg =>
    rw [decide_eq_false hfew]
    rintro e w3 ⟨rfl, hB3⟩
    have H3 := Lib.hid (HW1.out.trans ((H2.out.1.trans (hB3.mono H2.out.1.size)).mono HW1.out.size))
    clear hB3 hT2 hfew hs
    go_wp2_with fail
    go_ret
    exact ⟨rfl, H3.out⟩
  rw [decide_eq_true hfew]
  rintro e w3 ⟨rfl, hB3⟩
  have H3 := Lib.hid (And.intro (H2.out.1.trans (hB3.mono H2.out.1.size)) (H2.out.2.step hB3))
  clear hB3 H2 hfew hT2 x0 x1 x2 x3
  go_wp2_with fail
  refine (fresh_at10 H3.out.2 H3.out.1.size 12 (by decide)).mono ?_
  rintro e w4 ⟨rfl, V, hS4, hM4⟩
  have H4 := Lib.hid (And.intro (H3.out.1.trans (Mut.below H3.out.2 hM4 H3.out.1.size)) hS4)
  clear hS4 hM4 H3
  go_wp2_with fail
  go_loopw [9] (fun i wr => ∃ (c : Nat) (σ : St) (L : Value), i = .int .i64 c ∧ c ≤ len1 ∧ Below w1.heap.size w1 wr ∧ Hid (StAt (Oth wr w1.heap.size V L) w1.heap.size wr w1.heap.size V L σ ∧ σ.vs.length = 12)) (fun i _ => len1 - (intOf i).toNat)
  case atStart => exact ⟨0, _, _, rfl, Nat.zero_le _, H4.out.1, H4.out.2, rfl⟩
  case round =>
    obtain ⟨c, σ, L, rfl, hcl, hB, HR⟩ := hrel
    go_upto_region 7 with fail
    go_cut [42] from 35 to 62 (fun v wc => ∃ bb : Bool, v = .bool bb ∧ wc = wr ∧ Hid (bb = true → c < len1 ∧ c < 30))
    case first =>
      by_cases h1 : c < len1
      · have h1i : (c : Int) < (len1 : Int) := by omega
        by_cases h2 : c < 30
        · have h2i : (c : Int) < 30 := by omega
          have HC := Lib.hid (And.intro h1 h2)
          clear h1 h2
          go_wp2_with fail
          go_meet
          case rel => exact ⟨true, rfl, rfl, fun _ => HC.out⟩
        · have h2i : ¬ ((c : Int) < 30) := by omega
          clear h1 h2
          go_wp2_with fail
          go_meet
          case rel => exact ⟨false, rfl, rfl, fun h => by cases h⟩
      · have h1i : ¬ ((c : Int) < (len1 : Int)) := by omega
        clear h1
        go_wp2_with fail
        go_meet
        case rel => exact ⟨false, rfl, rfl, fun h => by cases h⟩
    case rest =>
    obtain ⟨bb, rfl, hwc, HC⟩ := hcut
    replace hwc := hwc.symm
    subst hwc
    cases bb with
    | true =>
      obtain ⟨hlt, h30⟩ := HC.out rfl
      clear HC
      have hlti : (c : Int) < (len1 : Int) := by omega
      obtain ⟨db, do_, dN, dk, dn, ds, da, dl, dc, D, rfl, hdb, hdN, q1, q2, q3, q4, q5, hDT, hDs⟩ := HD'.out.1 c hlt
      have hdb1 : db < w1.heap.size := Nat.lt_of_lt_of_le hdb HW1.out.size
      replace q1 := (hB.cell (p := ⟨db, _, none⟩) hdb1).trans q1
      replace q2 := (hB.cell (p := ⟨db, _, none⟩) hdb1).trans q2
      replace q3 := (hB.cell (p := ⟨db, _, none⟩) hdb1).trans q3
      replace q4 := (hB.cell (p := ⟨db, _, none⟩) hdb1).trans q4
      replace q5 := (hB.cell (p := ⟨db, _, none⟩) hdb1).trans q5
      have hDT' : Has wr (.agg #[.int .i64 dk, .int .i64 dn, .string ds, .slice da dl dc]) D := IsTm.later (hB.mono HW1.out.size) (Nat.le_trans HW1.out.size hB.size) hDT
      have HDT := Lib.hid hDT'
      clear hDT hDT' hdb hdN
      go_wp2_with fail
      refine (few10_at _ D wr HDT.out (by omega)).mono ?_
      by_cases hfw : D.size ≤ 300
      case neg =>
        rw [decide_eq_false hfw]
        rintro e w5 ⟨rfl, hB5⟩
        have H5 := Lib.hid (And.intro (hB.trans (hB5.mono hB.size)) (And.intro (HR.out.1.step hB5) HR.out.2))
        have HK5 := Lib.hid (Mut.of_below (b := w1.heap.size) (V := V) (L := L) hB5)
        clear hB5 hfw q1 q2 q3 q4 q5 hdb1
        go_wp2_with fail
        go_roundw
        case rel => exact ⟨c + 1, σ, L, by simp, by omega, H5.out.1, H5.out.2.1, H5.out.2.2⟩
        case measure => simp [intOf]; omega
      rw [decide_eq_true hfw]
      rintro e w5 ⟨rfl, hB5⟩
      have H5 := Lib.hid (And.intro (hB.trans (hB5.mono hB.size)) (And.intro (HR.out.1.step hB5) (Has.below HDT.out hB5)))
      have HK5 := Lib.hid (Mut.of_below (b := w1.heap.size) (V := V) (L := L) hB5)
      replace q1 := cell_later hB5 q1
      replace q2 := cell_later hB5 q2
      replace q3 := cell_later hB5 q3
      replace q4 := cell_later hB5 q4
      replace q5 := cell_later hB5 q5
      have HS : ∀ w', Below w5.heap.size w5 w' → w'.cell? ⟨db, do_ + c * 6 + 1, none⟩ = some (.int .i64 dN) ∧ w'.cell? ⟨db, do_ + c * 6 + 2, none⟩ = some (.int .i64 dk) ∧ w'.cell? ⟨db, do_ + c * 6 + 3, none⟩ = some (.int .i64 dn) ∧ w'.cell? ⟨db, do_ + c * 6 + 4, none⟩ = some (.string ds) ∧ w'.cell? ⟨db, do_ + c * 6 + 5, none⟩ = some (.slice da dl dc) := fun w' hb => ⟨cell_later hb q1, cell_later hb q2, cell_later hb q3, cell_later hb q4, cell_later hb q5⟩
      have HS6 : ∀ w', Below w1.heap.size w5 w' → w'.cell? ⟨db, do_ + c * 6 + 1, none⟩ = some (.int .i64 dN) ∧ w'.cell? ⟨db, do_ + c * 6 + 2, none⟩ = some (.int .i64 dk) ∧ w'.cell? ⟨db, do_ + c * 6 + 3, none⟩ = some (.int .i64 dn) ∧ w'.cell? ⟨db, do_ + c * 6 + 4, none⟩ = some (.string ds) ∧ w'.cell? ⟨db, do_ + c * 6 + 5, none⟩ = some (.slice da dl dc) := fun w' hb => ⟨(hb.cell (p := ⟨db, _, none⟩) hdb1).trans q1, (hb.cell (p := ⟨db, _, none⟩) hdb1).trans q2, (hb.cell (p := ⟨db, _, none⟩) hdb1).trans q3, (hb.cell (p := ⟨db, _, none⟩) hdb1).trans q4, (hb.cell (p := ⟨db, _, none⟩) hdb1).trans q5⟩
      clear hB5 hB q1 q2 q3 q4 q5 HDT hdb1
      go_upto_region 10 with fail
      refine wp_region_held_drew (S := (fun w' => w'.cell? ⟨db, do_ + c * 6 + 1, none⟩ = some (.int .i64 dN) ∧ w'.cell? ⟨db, do_ + c * 6 + 2, none⟩ = some (.int .i64 dk) ∧ w'.cell? ⟨db, do_ + c * 6 + 3, none⟩ = some (.int .i64 dn) ∧ w'.cell? ⟨db, do_ + c * 6 + 4, none⟩ = some (.string ds) ∧ w'.cell? ⟨db, do_ + c * 6 + 5, none⟩ = some (.slice da dl dc))) (by kernel_rfl) (HS _ (Below.refl _ _).drew) (fun hHeld => ?_)
      refine wpAnyH_take (i := 0) (v := ?_) rfl (by kernel_rfl) (by kernel_rfl) (by kernel_rfl) (fun _ _ _ h => h) (Or.inl ⟨by kernel_rfl, ?_⟩) hHeld ?_
      rotate_left
      · intro w0 hSw
        (try dsimp only at hSw)
        go_simp
        try (with_reducible rfl)
      try simp only [Act.put, List.setIfInBounds_toArray, List.set_cons_zero, List.set_cons_succ]
      refine wpAnyH_take (i := 1) (v := ?_) rfl (by kernel_rfl) (by kernel_rfl) (by kernel_rfl) (fun _ _ _ h => h) (Or.inl ⟨by kernel_rfl, ?_⟩) hHeld ?_
      rotate_left
      · intro w0 hSw
        (try dsimp only at hSw)
        go_simp
        try (with_reducible rfl)
      try simp only [Act.put, List.setIfInBounds_toArray, List.set_cons_zero, List.set_cons_succ]
      refine wpAnyH_take (i := 2) (v := ?_) rfl (by kernel_rfl) (by kernel_rfl) (by kernel_rfl) (fun _ _ _ h => h) (Or.inl ⟨by kernel_rfl, ?_⟩) hHeld ?_
      rotate_left
      · intro w0 hSw
        (try dsimp only at hSw)
        go_simp
        try (with_reducible rfl)
      try simp only [Act.put, List.setIfInBounds_toArray, List.set_cons_zero, List.set_cons_succ]
      refine wpAnyH_take (i := 3) (v := ?_) rfl (by kernel_rfl) (by kernel_rfl) (by kernel_rfl) (fun _ _ _ h => h) (Or.inl ⟨by kernel_rfl, ?_⟩) hHeld ?_
      rotate_left
      · intro w0 hSw
        (try dsimp only at hSw)
        go_simp
        try (with_reducible rfl)
      try simp only [Act.put, List.setIfInBounds_toArray, List.set_cons_zero, List.set_cons_succ]
      refine wpAnyH_take (i := 4) (v := ?_) rfl (by kernel_rfl) (by kernel_rfl) (by kernel_rfl) (fun _ _ _ h => h) (Or.inl ⟨by kernel_rfl, ?_⟩) hHeld ?_
      rotate_left
      · intro w0 hSw
        (try dsimp only at hSw)
        go_simp
        try (with_reducible rfl)
      try simp only [Act.put, List.setIfInBounds_toArray, List.set_cons_zero, List.set_cons_succ]
      refine wpAnyH_take (i := 5) (v := ?_) rfl (by kernel_rfl) (by kernel_rfl) (by kernel_rfl) (fun _ _ _ h => h) (Or.inl ⟨by kernel_rfl, ?_⟩) hHeld ?_
      rotate_left
      · intro w0 hSw
        (try dsimp only at hSw)
        go_simp
        try (with_reducible rfl)
      try simp only [Act.put, List.setIfInBounds_toArray, List.set_cons_zero, List.set_cons_succ]
      refine wpAnyH_take (i := 6) (v := ?_) rfl (by kernel_rfl) (by kernel_rfl) (by kernel_rfl) (fun _ _ _ h => h) (Or.inl ⟨by kernel_rfl, ?_⟩) hHeld ?_
      rotate_left
      · intro w0 hSw
        (try dsimp only at hSw)
        go_simp
        try (with_reducible rfl)
      try simp only [Act.put, List.setIfInBounds_toArray, List.set_cons_zero, List.set_cons_succ]
      refine wpAnyH_take (i := 7) (v := ?_) rfl (by kernel_rfl) (by kernel_rfl) (by kernel_rfl) (fun _ _ _ h => h) (Or.inl ⟨by kernel_rfl, ?_⟩) hHeld ?_
      rotate_left
      · intro w0 hSw
        (try dsimp only at hSw)
        go_simp
        try (with_reducible rfl)
      try simp only [Act.put, List.setIfInBounds_toArray, List.set_cons_zero, List.set_cons_succ]
      refine wpAnyH_take (i := 8) (v := ?_) rfl (by kernel_rfl) (by kernel_rfl) (by kernel_rfl) (fun _ _ _ h => h) (Or.inl ⟨by kernel_rfl, ?_⟩) hHeld ?_
      rotate_left
      · intro w0 hSw
        (try dsimp only at hSw)
        go_simp
        try (with_reducible rfl)
      try simp only [Act.put, List.setIfInBounds_toArray, List.set_cons_zero, List.set_cons_succ]
      refine wpAnyH_take (i := 9) (v := ?_) rfl (by kernel_rfl) (by kernel_rfl) (by kernel_rfl) (fun _ _ _ h => h) (Or.inl ⟨by kernel_rfl, ?_⟩) hHeld ?_
      rotate_left
      · intro w0 hSw
        (try dsimp only at hSw)
        go_simp
        try (with_reducible rfl)
      try simp only [Act.put, List.setIfInBounds_toArray, List.set_cons_zero, List.set_cons_succ]
      refine wpAnyH_take (i := 10) (v := ?_) rfl (by kernel_rfl) (by kernel_rfl) (by kernel_rfl) (fun _ _ _ h => h) (Or.inl ⟨by kernel_rfl, ?_⟩) hHeld ?_
      rotate_left
      · intro w0 hSw
        (try dsimp only at hSw)
        go_simp
        try (with_reducible rfl)
      try simp only [Act.put, List.setIfInBounds_toArray, List.set_cons_zero, List.set_cons_succ]
      refine wpAnyH_ready (rs := [11]) (by kernel_rfl) (by simp) ?_
      refine AllReadyH.cons rfl (fun K hK => ?_) AllReadyH.nil
      go_simp
      have hdr : Below w5.heap.size w5 w5.drew := (Below.refl w5.heap.size w5).drew
      have hSd := H5.out.2.1.step hdr
      have hTd := Has.below H5.out.2.2 hdr
      have hBd := H5.out.1.trans (hdr.mono H5.out.1.size)
      have HMd := Lib.hid (HK5.out.trans (Mut.of_below hdr))
      refine (bind_any hSd hBd.size dN _ D hTd (by omega)).mono ?_
      rintro e w6 ⟨x6, rfl, L6, σ6, hS6, hM6, hb6⟩
      have hS6' := HS6 w6 ((hdr.mono H5.out.1.size).trans (Mut.below hSd hM6 hBd.size))
      have H6 := Lib.hid (And.intro (hBd.trans (Mut.below hSd hM6 hBd.size)) (And.intro hS6 (hb6.len.trans HR.out.2)))
      have HM6 := Lib.hid (And.intro (HMd.out.trans hM6) hb6)
      clear hS6 hM6 hb6 hSd hTd hBd hdr HMd HS HS6
      go_wp2_with fail
      refine hK.out _ _ hS6' (fun hHeld2 => ?_)
      clear hK K hHeld hS6'
      try simp only [Act.put, List.setIfInBounds_toArray, List.set_cons_zero, List.set_cons_succ]
      refine wpAnyH_done (by kernel_rfl) ?_ _
      clear hHeld2
      go_wp2_with fail
      go_roundw
      case rel => exact ⟨c + 1, σ6, L6, by simp, by omega, H6.out.1, H6.out.2.1, H6.out.2.2⟩
      case measure => simp [intOf]; omega
    | false =>
      have HH := Lib.hid (And.intro hB HR.out)
      clear hB HR HC hcl
      go_wp2_with fail
      refine (mark_at HH.out.2.1).mono ?_
      rintro e w5 ⟨rfl, rfl⟩
      have hbt := tbox_below HT.out.1 HH.out.1
      obtain ⟨x0, x1, x2, x3⟩ := tbox_cells hbt
      have hTt := Has.below HT.out.2 HH.out.1
      clear hbt
      go_wp2_with fail
      refine (full_any HH.out.2.1 _ T hTt).mono ?_
      rintro e w6 ⟨kA, nA, sA, aA, lA, cA, rfl, hTA, hB6⟩
      obtain ⟨w7, hw7⟩ : ∃ w7, w7 = w6.alloc (.cells #[.int .i64 kA, .int .i64 nA, .string sA, .slice aA lA cA] 25) := ⟨_, rfl⟩
      have hB57 : Below w5.heap.size w5 w7 := by rw [hw7]; exact hB6.alloc hB6.size _
      have hb7 : w7.heap[w6.heap.size]? = some (.cells #[.int .i64 kA, .int .i64 nA, .string sA, .slice aA lA cA] 25 (0, 0)) := by rw [hw7]; exact World.alloc_heap_new _ _
      have hK7 : Kp w7 w1.heap.size V L w6.heap.size kA nA sA aA lA cA (σ.fill 60 1000 T).tm := by
        refine ⟨hb7, HH.out.2.1.fresh ⟨hB6.size, (Array.getElem?_eq_some_iff.1 hb7).1⟩, ?_⟩
        refine hTA.carry (fun c hc => by rw [hw7]; exact Below.heap_alloc w6 _ c hc.2) fun c hc => HH.out.2.1.fresh ⟨hc.1, by rw [hw7]; simp; have := hc.2; omega⟩
      have H7 := Lib.hid (And.intro (HH.out.1.trans (hB57.mono HH.out.1.size)) (And.intro (HH.out.2.1.step hB57) hK7))
      have HM0 := Lib.hid (And.intro HH.out.2.1.ok.tr_len HH.out.2.2)
      have HW7 := Lib.hid hw7
      clear hw7 hB57 hb7 hK7 hTA hB6 hTt x0 x1 x2 x3 HH
      go_wp2_with fail
      rw [← HW7.out]
      generalize w6.heap.size = B11 at *
      clear HW7
      go_loopw [13, 14] (fun kv i wr => ∃ (c : Nat) (xs : List C4), i = .int .i64 c ∧ c ≤ 12 ∧ Hid (Below w7.heap.size w7 wr ∧ Sofar w7.heap.size wr kv xs ((List.range c).map fun i => σ.fin (vK i)))) (fun _ i _ => 12 - (intOf i).toNat)
      case atStart => exact ⟨0, [], rfl, by omega, Below.refl _ _, Sofar.nil _ _⟩
      case round =>
        obtain ⟨c, xs, rfl, hc, HR⟩ := hrel
        obtain ⟨va, vc, hkv⟩ := HR.out.2.own.form
        subst hkv
        by_cases hlt : c < 12
        · have hlti : (c : Int) < 12 := by omega
          have hxl : xs.length + 1 ≤ 1000000000000 := by have := HR.out.2.len; rw [List.length_map, List.length_range] at this; omega
          go_wp2_with fail
          refine (let_at (c : Int) wr ⟨by omega, by omega⟩).mono ?_
          intro e w8 h8
          obtain ⟨k8, n8, s8, a8, l8, c8, rfl, hT8, hB8⟩ := h8.has
          have H8 := Lib.hid (And.intro (HR.out.1.trans (hB8.mono HR.out.1.size)) (And.intro hB8 (show Has w8 _ (vK c) from hT8)))
          clear h8 hT8 hB8
          go_wp2_with fail
          refine (walk_at (H7.out.2.1.step H8.out.1) _ (vK c) H8.out.2.2 (by have := fin_size H7.out.2.1.ok (vK c); rw [vK_size] at this; omega)).mono ?_
          rintro e w9 ⟨r9, rfl, hT9, hB9⟩
          obtain ⟨k9, n9, s9, a9, l9, c9, ks9, rfl, -⟩ := hT9.form
          obtain ⟨W, hW⟩ : ∃ W, W = w9.alloc (.cells #[.int .i64 k9, .int .i64 n9, .string s9, .slice a9 l9 c9] 25) := ⟨_, rfl⟩
          have hBW : Below wr.heap.size wr W := by rw [hW]; exact (H8.out.2.1.trans (hB9.mono H8.out.2.1.size)).alloc (Nat.le_trans H8.out.2.1.size hB9.size) _
          have hsoW := HR.out.2.later (B := 0) (ButN.of hBW) (by have := (Array.getElem?_eq_some_iff.1 H7.out.2.2.box).1; omega)
          have g9 : W.heap[w9.heap.size]? = some (.cells #[.int .i64 k9, .int .i64 n9, .string s9, .slice a9 l9 c9] 25 (0, 0)) := by rw [hW]; exact World.alloc_heap_new _ _
          have hr9 : ∀ b, some (⟨w9.heap.size, 0, none⟩ : Addr) = some b → ∀ j u, (flat4 [(⟨k9, n9, s9, a9, l9, c9⟩ : C4)])[j]? = some u → W.cell? (b.add j) = some u := by
            intro b e j u hu
            cases e
            rw [addr4]
            have hj : (C4.cells ⟨k9, n9, s9, a9, l9, c9⟩)[j]? = some u := by simpa [flat4] using hu
            simp only [World.cell?, g9]
            simpa [C4.cells] using hj
          have hu9 : TmIn (fun c => w7.heap.size ≤ c ∧ c < W.heap.size ∧ (Value.slice va xs.length vc).ownBlock ≠ some c) W (.agg #[.int .i64 k9, .int .i64 n9, .string s9, .slice a9 l9 c9]) (σ.fin (vK c)) := by
            refine hT9.carry (fun c hc => by rw [hW]; exact Below.heap_alloc w9 _ c hc.2) fun c hc => ⟨?_, by rw [hW]; simp; have := hc.2; omega, fun e => ?_⟩
            · have h1 := HR.out.1.size; have h2 := H8.out.2.1.size; have h3 := hc.1; omega
            · have h1 := (HR.out.2.own.lt c e).2; have h2 := H8.out.2.1.size; have h3 := hc.1; omega
          have HP := Lib.hid (And.intro hsoW (And.intro hr9 (And.intro hu9 (And.intro (HR.out.1.trans (hBW.mono HR.out.1.size)) hxl))))
          rw [hW] at HP
          clear hsoW hr9 hu9 hBW g9 hW hT9 hB9 H8 hxl
          go_wp2_with (at_builtin; refine wpList_pushes rfl _ _ rfl w7.heap.size (.slice va xs.length vc) xs rfl HP.out.1.own (some ⟨w9.heap.size, 0, none⟩) 1 1 [⟨k9, n9, s9, a9, l9, c9⟩] rfl rfl (fun e => by cases e) HP.out.2.1 HP.out.2.2.2.2 HP.out.2.2.2.1.size ?_; intro v' w10 hown10 hg10 hat10)
          go_roundw
          case rel =>
            refine ⟨c + 1, xs ++ [⟨k9, n9, s9, a9, l9, c9⟩], by simp, by omega, HP.out.2.2.2.1.grown hg10 HP.out.2.2.2.1.size (fun k e => (HP.out.1.own.lt k e).1), ?_⟩
            rw [List.range_succ, List.map_append]
            exact HP.out.1.push _ _ hown10 hg10 hat10 HP.out.2.2.1
          case measure => simp [intOf]; omega
        · have hce : c = 12 := by omega
          subst hce
          have hts : TsIn (Oth wr w1.heap.size V L) wr (.slice va xs.length vc) ((List.range 12).map fun i => σ.fin (vK i)) := HR.out.2.ts.carry (fun _ _ => rfl) fun c hc => H7.out.2.1.fresh hc
          have hMr : Mut w7 w1.heap.size V L wr V L := Mut.of_below HR.out.1
          have H9 := Lib.hid (And.intro (H7.out.1.trans (HR.out.1.mono H7.out.1.size)) (And.intro (H7.out.2.1.step HR.out.1) (And.intro (H7.out.2.2.mut hMr) hts)))
          obtain ⟨wasv, hwas⟩ : ∃ wasv, wasv = Value.slice va xs.length vc := ⟨_, rfl⟩
          have h12 : ((12 : Nat) : Int) = 12 := rfl
          rw [h12]
          clear h12
          have hxs12 : xs.length = 12 := by have := HR.out.2.len; rw [List.length_map, List.length_range] at this; exact this
          clear hts hMr HR hlt hc H7
          rw [hxs12] at hwas H9 ⊢
          rw [← hwas] at H9
          have HWAS := Lib.hid hwas
          clear hwas hxs12
          obtain ⟨σ0, hσ0⟩ : ∃ σ0, σ0 = σ := ⟨_, rfl⟩
          rw [← hσ0] at H9 HM0 ⊢
          obtain ⟨L0, hL0⟩ : ∃ L0, L0 = L := ⟨_, rfl⟩
          rw [← hL0] at H9
          clear hσ0 hL0
          go_wp2_with fail
          go_loopw [15] (fun i wr => ∃ (c : Nat) (σ : St) (L : Value), i = .int .i64 c ∧ c ≤ len2 ∧ Below w1.heap.size w1 wr ∧ Hid (StAt (Oth wr w1.heap.size V L) w1.heap.size wr w1.heap.size V L σ ∧ σ.vs.length = 12 ∧ Kp wr w1.heap.size V L B11 kA nA sA aA lA cA (σ0.fill 60 1000 T).tm ∧ TsIn (Oth wr w1.heap.size V L) wr wasv ((List.range 12).map fun i => σ0.fin (vK i)) ∧ Since σ0 σ)) (fun i _ => len2 - (intOf i).toNat)
          case atStart => exact ⟨0, σ0, L0, rfl, Nat.zero_le _, H9.out.1, H9.out.2.1, HM0.out.2, H9.out.2.2.1, H9.out.2.2.2, Since.refl _⟩
          case round =>
            obtain ⟨c, σ, L, rfl, hcl, hB, HR⟩ := hrel
            go_upto_region 19 with fail
            go_cut [89] from 82 to 109 (fun v wc => ∃ bb : Bool, v = .bool bb ∧ wc = wr ∧ Hid (bb = true → c < len2 ∧ c < 30))
            case first =>
              by_cases h1 : c < len2
              · have h1i : (c : Int) < (len2 : Int) := by omega
                by_cases h2 : c < 30
                · have h2i : (c : Int) < 30 := by omega
                  have HC := Lib.hid (And.intro h1 h2)
                  clear h1 h2
                  go_wp2_with fail
                  go_meet
                  case rel => exact ⟨true, rfl, rfl, fun _ => HC.out⟩
                · have h2i : ¬ ((c : Int) < 30) := by omega
                  clear h1 h2
                  go_wp2_with fail
                  go_meet
                  case rel => exact ⟨false, rfl, rfl, fun h => by cases h⟩
              · have h1i : ¬ ((c : Int) < (len2 : Int)) := by omega
                clear h1
                go_wp2_with fail
                go_meet
                case rel => exact ⟨false, rfl, rfl, fun h => by cases h⟩
            case rest =>
            obtain ⟨bb, rfl, hwc, HC⟩ := hcut
            replace hwc := hwc.symm
            subst hwc
            cases bb with
            | true =>
              obtain ⟨hlt, h30⟩ := HC.out rfl
              clear HC
              have hlti : (c : Int) < (len2 : Int) := by omega
              obtain ⟨db, do_, dN, dk, dn, ds, da, dl, dc, D, rfl, hdb, hdN, q1, q2, q3, q4, q5, hDT, hDs⟩ := HD'.out.2 c hlt
              have hdb1 : db < w1.heap.size := Nat.lt_of_lt_of_le hdb HW1.out.size
              replace q1 := (hB.cell (p := ⟨db, _, none⟩) hdb1).trans q1
              replace q2 := (hB.cell (p := ⟨db, _, none⟩) hdb1).trans q2
              replace q3 := (hB.cell (p := ⟨db, _, none⟩) hdb1).trans q3
              replace q4 := (hB.cell (p := ⟨db, _, none⟩) hdb1).trans q4
              replace q5 := (hB.cell (p := ⟨db, _, none⟩) hdb1).trans q5
              have hDT' : Has wr (.agg #[.int .i64 dk, .int .i64 dn, .string ds, .slice da dl dc]) D := IsTm.later (hB.mono HW1.out.size) (Nat.le_trans HW1.out.size hB.size) hDT
              have HDT := Lib.hid hDT'
              clear hDT hDT' hdb hdN
              go_wp2_with fail
              refine (few10_at _ D wr HDT.out (by omega)).mono ?_
              by_cases hfw : D.size ≤ 300
              case neg =>
                rw [decide_eq_false hfw]
                rintro e w5 ⟨rfl, hB5⟩
                have H5 := Lib.hid (And.intro (hB.trans (hB5.mono hB.size)) (And.intro (HR.out.1.step hB5) HR.out.2.1))
                have HK5 := Lib.hid (Mut.of_below (b := w1.heap.size) (V := V) (L := L) hB5)
                clear hB5 hfw q1 q2 q3 q4 q5 hdb1
                go_wp2_with fail
                go_roundw
                case rel => exact ⟨c + 1, σ, L, by simp, by omega, H5.out.1, H5.out.2.1, H5.out.2.2, HR.out.2.2.1.mut HK5.out, ts_mut HK5.out HR.out.2.2.2.1, HR.out.2.2.2.2⟩
                case measure => simp [intOf]; omega
              rw [decide_eq_true hfw]
              rintro e w5 ⟨rfl, hB5⟩
              have H5 := Lib.hid (And.intro (hB.trans (hB5.mono hB.size)) (And.intro (HR.out.1.step hB5) (Has.below HDT.out hB5)))
              have HK5 := Lib.hid (Mut.of_below (b := w1.heap.size) (V := V) (L := L) hB5)
              replace q1 := cell_later hB5 q1
              replace q2 := cell_later hB5 q2
              replace q3 := cell_later hB5 q3
              replace q4 := cell_later hB5 q4
              replace q5 := cell_later hB5 q5
              have HS : ∀ w', Below w5.heap.size w5 w' → w'.cell? ⟨db, do_ + c * 6 + 1, none⟩ = some (.int .i64 dN) ∧ w'.cell? ⟨db, do_ + c * 6 + 2, none⟩ = some (.int .i64 dk) ∧ w'.cell? ⟨db, do_ + c * 6 + 3, none⟩ = some (.int .i64 dn) ∧ w'.cell? ⟨db, do_ + c * 6 + 4, none⟩ = some (.string ds) ∧ w'.cell? ⟨db, do_ + c * 6 + 5, none⟩ = some (.slice da dl dc) := fun w' hb => ⟨cell_later hb q1, cell_later hb q2, cell_later hb q3, cell_later hb q4, cell_later hb q5⟩
              have HS6 : ∀ w', Below w1.heap.size w5 w' → w'.cell? ⟨db, do_ + c * 6 + 1, none⟩ = some (.int .i64 dN) ∧ w'.cell? ⟨db, do_ + c * 6 + 2, none⟩ = some (.int .i64 dk) ∧ w'.cell? ⟨db, do_ + c * 6 + 3, none⟩ = some (.int .i64 dn) ∧ w'.cell? ⟨db, do_ + c * 6 + 4, none⟩ = some (.string ds) ∧ w'.cell? ⟨db, do_ + c * 6 + 5, none⟩ = some (.slice da dl dc) := fun w' hb => ⟨(hb.cell (p := ⟨db, _, none⟩) hdb1).trans q1, (hb.cell (p := ⟨db, _, none⟩) hdb1).trans q2, (hb.cell (p := ⟨db, _, none⟩) hdb1).trans q3, (hb.cell (p := ⟨db, _, none⟩) hdb1).trans q4, (hb.cell (p := ⟨db, _, none⟩) hdb1).trans q5⟩
              clear hB5 hB q1 q2 q3 q4 q5 HDT hdb1
              go_upto_region 22 with fail
              refine wp_region_held_drew (S := (fun w' => w'.cell? ⟨db, do_ + c * 6 + 1, none⟩ = some (.int .i64 dN) ∧ w'.cell? ⟨db, do_ + c * 6 + 2, none⟩ = some (.int .i64 dk) ∧ w'.cell? ⟨db, do_ + c * 6 + 3, none⟩ = some (.int .i64 dn) ∧ w'.cell? ⟨db, do_ + c * 6 + 4, none⟩ = some (.string ds) ∧ w'.cell? ⟨db, do_ + c * 6 + 5, none⟩ = some (.slice da dl dc))) (by kernel_rfl) (HS _ (Below.refl _ _).drew) (fun hHeld => ?_)
              refine wpAnyH_take (i := 0) (v := ?_) rfl (by kernel_rfl) (by kernel_rfl) (by kernel_rfl) (fun _ _ _ h => h) (Or.inl ⟨by kernel_rfl, ?_⟩) hHeld ?_
              rotate_left
              · intro w0 hSw
                (try dsimp only at hSw)
                go_simp
                try (with_reducible rfl)
              try simp only [Act.put, List.setIfInBounds_toArray, List.set_cons_zero, List.set_cons_succ]
              refine wpAnyH_take (i := 1) (v := ?_) rfl (by kernel_rfl) (by kernel_rfl) (by kernel_rfl) (fun _ _ _ h => h) (Or.inl ⟨by kernel_rfl, ?_⟩) hHeld ?_
              rotate_left
              · intro w0 hSw
                (try dsimp only at hSw)
                go_simp
                try (with_reducible rfl)
              try simp only [Act.put, List.setIfInBounds_toArray, List.set_cons_zero, List.set_cons_succ]
              refine wpAnyH_take (i := 2) (v := ?_) rfl (by kernel_rfl) (by kernel_rfl) (by kernel_rfl) (fun _ _ _ h => h) (Or.inl ⟨by kernel_rfl, ?_⟩) hHeld ?_
              rotate_left
              · intro w0 hSw
                (try dsimp only at hSw)
                go_simp
                try (with_reducible rfl)
              try simp only [Act.put, List.setIfInBounds_toArray, List.set_cons_zero, List.set_cons_succ]
              refine wpAnyH_take (i := 3) (v := ?_) rfl (by kernel_rfl) (by kernel_rfl) (by kernel_rfl) (fun _ _ _ h => h) (Or.inl ⟨by kernel_rfl, ?_⟩) hHeld ?_
              rotate_left
              · intro w0 hSw
                (try dsimp only at hSw)
                go_simp
                try (with_reducible rfl)
              try simp only [Act.put, List.setIfInBounds_toArray, List.set_cons_zero, List.set_cons_succ]
              refine wpAnyH_take (i := 4) (v := ?_) rfl (by kernel_rfl) (by kernel_rfl) (by kernel_rfl) (fun _ _ _ h => h) (Or.inl ⟨by kernel_rfl, ?_⟩) hHeld ?_
              rotate_left
              · intro w0 hSw
                (try dsimp only at hSw)
                go_simp
                try (with_reducible rfl)
              try simp only [Act.put, List.setIfInBounds_toArray, List.set_cons_zero, List.set_cons_succ]
              refine wpAnyH_take (i := 5) (v := ?_) rfl (by kernel_rfl) (by kernel_rfl) (by kernel_rfl) (fun _ _ _ h => h) (Or.inl ⟨by kernel_rfl, ?_⟩) hHeld ?_
              rotate_left
              · intro w0 hSw
                (try dsimp only at hSw)
                go_simp
                try (with_reducible rfl)
              try simp only [Act.put, List.setIfInBounds_toArray, List.set_cons_zero, List.set_cons_succ]
              refine wpAnyH_take (i := 6) (v := ?_) rfl (by kernel_rfl) (by kernel_rfl) (by kernel_rfl) (fun _ _ _ h => h) (Or.inl ⟨by kernel_rfl, ?_⟩) hHeld ?_
              rotate_left
              · intro w0 hSw
                (try dsimp only at hSw)
                go_simp
                try (with_reducible rfl)
              try simp only [Act.put, List.setIfInBounds_toArray, List.set_cons_zero, List.set_cons_succ]
              refine wpAnyH_take (i := 7) (v := ?_) rfl (by kernel_rfl) (by kernel_rfl) (by kernel_rfl) (fun _ _ _ h => h) (Or.inl ⟨by kernel_rfl, ?_⟩) hHeld ?_
              rotate_left
              · intro w0 hSw
                (try dsimp only at hSw)
                go_simp
                try (with_reducible rfl)
              try simp only [Act.put, List.setIfInBounds_toArray, List.set_cons_zero, List.set_cons_succ]
              refine wpAnyH_take (i := 8) (v := ?_) rfl (by kernel_rfl) (by kernel_rfl) (by kernel_rfl) (fun _ _ _ h => h) (Or.inl ⟨by kernel_rfl, ?_⟩) hHeld ?_
              rotate_left
              · intro w0 hSw
                (try dsimp only at hSw)
                go_simp
                try (with_reducible rfl)
              try simp only [Act.put, List.setIfInBounds_toArray, List.set_cons_zero, List.set_cons_succ]
              refine wpAnyH_take (i := 9) (v := ?_) rfl (by kernel_rfl) (by kernel_rfl) (by kernel_rfl) (fun _ _ _ h => h) (Or.inl ⟨by kernel_rfl, ?_⟩) hHeld ?_
              rotate_left
              · intro w0 hSw
                (try dsimp only at hSw)
                go_simp
                try (with_reducible rfl)
              try simp only [Act.put, List.setIfInBounds_toArray, List.set_cons_zero, List.set_cons_succ]
              refine wpAnyH_take (i := 10) (v := ?_) rfl (by kernel_rfl) (by kernel_rfl) (by kernel_rfl) (fun _ _ _ h => h) (Or.inl ⟨by kernel_rfl, ?_⟩) hHeld ?_
              rotate_left
              · intro w0 hSw
                (try dsimp only at hSw)
                go_simp
                try (with_reducible rfl)
              try simp only [Act.put, List.setIfInBounds_toArray, List.set_cons_zero, List.set_cons_succ]
              refine wpAnyH_ready (rs := [11]) (by kernel_rfl) (by simp) ?_
              refine AllReadyH.cons rfl (fun K hK => ?_) AllReadyH.nil
              go_simp
              have hdr : Below w5.heap.size w5 w5.drew := (Below.refl w5.heap.size w5).drew
              have hSd := H5.out.2.1.step hdr
              have hTd := Has.below H5.out.2.2 hdr
              have hBd := H5.out.1.trans (hdr.mono H5.out.1.size)
              have HMd := Lib.hid (HK5.out.trans (Mut.of_below hdr))
              refine (bind_any hSd hBd.size dN _ D hTd (by omega)).mono ?_
              rintro e w6 ⟨x6, rfl, L6, σ6, hS6, hM6, hb6⟩
              have hS6' := HS6 w6 ((hdr.mono H5.out.1.size).trans (Mut.below hSd hM6 hBd.size))
              have H6 := Lib.hid (And.intro (hBd.trans (Mut.below hSd hM6 hBd.size)) (And.intro hS6 (hb6.len.trans HR.out.2.1)))
              have HM6 := Lib.hid (And.intro (HMd.out.trans hM6) hb6)
              clear hS6 hM6 hb6 hSd hTd hBd hdr HMd HS HS6
              go_wp2_with fail
              refine hK.out _ _ hS6' (fun hHeld2 => ?_)
              clear hK K hHeld hS6'
              try simp only [Act.put, List.setIfInBounds_toArray, List.set_cons_zero, List.set_cons_succ]
              refine wpAnyH_done (by kernel_rfl) ?_ _
              clear hHeld2
              go_wp2_with fail
              go_roundw
              case rel => exact ⟨c + 1, σ6, L6, by simp, by omega, H6.out.1, H6.out.2.1, H6.out.2.2, HR.out.2.2.1.mut HM6.out.1, ts_mut HM6.out.1 HR.out.2.2.2.1, HR.out.2.2.2.2.bind HM6.out.2⟩
              case measure => simp [intOf]; omega
            | false =>
              have HH := Lib.hid (And.intro hB HR.out)
              clear hB HR HC hcl
              go_wp2_with fail
              have hund := undo_at HH.out.2.1 ((σ0.tr.length : Nat) : Int) ⟨by omega, by have := HM0.out.1; omega⟩
              rw [Int.toNat_natCast, HH.out.2.2.2.2.2.2] at hund
              refine hund.mono ?_
              clear hund
              rintro e w10 ⟨rfl, L10, hS10, hM10⟩
              have H10 := Lib.hid (And.intro (HH.out.1.trans (Mut.below HH.out.2.1 hM10 HH.out.1.size)) (And.intro hS10 (And.intro (HH.out.2.2.2.1.mut hM10) (ts_mut hM10 HH.out.2.2.2.2.1))))
              have hbt := tbox_below HT.out.1 H10.out.1
              obtain ⟨x0, x1, x2, x3⟩ := tbox_cells hbt
              have hTt := Has.below HT.out.2 H10.out.1
              clear hS10 hM10 hbt HH
              go_wp2_with fail
              refine (full_any H10.out.2.1 _ T hTt).mono ?_
              rintro e w11 ⟨kB, nB, sB, aB, lB, cB, rfl, hTB, hB11⟩
              obtain ⟨wY, hwY⟩ : ∃ wY, wY = w11.alloc (.cells #[.int .i64 kB, .int .i64 nB, .string sB, .slice aB lB cB] 25) := ⟨_, rfl⟩
              have hBY : Below w10.heap.size w10 wY := by rw [hwY]; exact hB11.alloc hB11.size _
              have hbY : wY.heap[w11.heap.size]? = some (.cells #[.int .i64 kB, .int .i64 nB, .string sB, .slice aB lB cB] 25 (0, 0)) := by rw [hwY]; exact World.alloc_heap_new _ _
              have hTBY : Has wY (.agg #[.int .i64 kB, .int .i64 nB, .string sB, .slice aB lB cB]) (σ0.fill 60 1000 T).tm := hTB.carry (fun c hc => by rw [hwY]; exact Below.heap_alloc w11 _ c hc.2) (fun c hc => by rw [hwY]; simp; have := hc.2; omega)
              have hMY : Mut w10 w1.heap.size V L10 wY V L10 := Mut.of_below hBY
              have HY := Lib.hid (And.intro (H10.out.1.trans (hBY.mono H10.out.1.size)) (And.intro (H10.out.2.1.step hBY) (And.intro (H10.out.2.2.1.mut hMY) (And.intro (ts_mut hMY H10.out.2.2.2) (And.intro hbY hTBY)))))
              have HWY := Lib.hid hwY
              clear hwY hBY hbY hTBY hMY hTB hB11 hTt x0 x1 x2 x3 H10
              go_wp2_with fail
              rw [← HWY.out]
              generalize w11.heap.size = B16 at *
              clear HWY
              go_loopw [18] (fun i wr => ∃ (c : Nat), i = .int .i64 c ∧ c ≤ 12 ∧ Hid (Below wY.heap.size wY wr)) (fun i _ => 12 - (intOf i).toNat)
              case atStart => exact ⟨0, rfl, by omega, Below.refl _ _⟩
              case round =>
                obtain ⟨c, rfl, hc, hBr⟩ := hrel
                by_cases hlt : c < 12
                · have hlti : (c : Int) < 12 := by omega
                  have hSr := HY.out.2.1.step hBr.out
                  obtain ⟨wa, wcap, ew, hw1, hw2, hw3, hwx⟩ := HY.out.2.2.2.1
                  rw [HWAS.out] at ew
                  injection ew with ew1 ew2 ew3
                  subst ew1 ew3
                  clear ew2
                  have hul : ((List.range 12).map fun i => σ0.fin (vK i)).length = 12 := by simp
                  obtain ⟨wb, wo, wk, wn, ws, wa', wl', wc', rfl, hwb, c0, c1, c2, c3, hWT⟩ := hwx c (by rw [hul]; exact hlt)
                  rw [hul] at hw1
                  have hget : ((List.range 12).map fun i => σ0.fin (vK i))[c]'(by rw [hul]; exact hlt) = σ0.fin (vK c) := by simp
                  rw [hget] at hWT
                  have HWT := Lib.hid (show Has wr _ (σ0.fin (vK c)) from Has.below (oth_has hWT) hBr.out)
                  have HSr := Lib.hid hSr
                  have hfs : (σ0.fin (vK c)).size ≤ 1000000000000 := by have := fin_size hSr.ok (vK c); rw [vK_size] at this; omega
                  have HFS := Lib.hid hfs
                  have HS : ∀ w', Below wr.heap.size wr w' → w'.cell? ⟨wb, wo + c * 4, none⟩ = some (.int .i64 wk) ∧ w'.cell? ⟨wb, wo + c * 4 + 1, none⟩ = some (.int .i64 wn) ∧ w'.cell? ⟨wb, wo + c * 4 + 2, none⟩ = some (.string ws) ∧ w'.cell? ⟨wb, wo + c * 4 + 3, none⟩ = some (.slice wa' wl' wc') ∧ Below wr.heap.size wr w' := fun w' hb =>
                    ⟨cell_later hb (cell_later hBr.out c0), cell_later hb (cell_later hBr.out c1), cell_later hb (cell_later hBr.out c2), cell_later hb (cell_later hBr.out c3), hb⟩
                  clear hSr hw1 hw2 hw3 hwx hul hwb c0 c1 c2 c3 hWT hget hfs
                  go_upto_region 28 with fail
                  refine wp_region_held_drew (S := (fun w' => w'.cell? ⟨wb, wo + c * 4, none⟩ = some (.int .i64 wk) ∧ w'.cell? ⟨wb, wo + c * 4 + 1, none⟩ = some (.int .i64 wn) ∧ w'.cell? ⟨wb, wo + c * 4 + 2, none⟩ = some (.string ws) ∧ w'.cell? ⟨wb, wo + c * 4 + 3, none⟩ = some (.slice wa' wl' wc') ∧ Below wr.heap.size wr w')) (by kernel_rfl) (HS _ (Below.refl _ _).drew) (fun hHeld => ?_)
                  refine wpAnyH_take (i := 0) (v := ?_) rfl (by kernel_rfl) (by kernel_rfl) (by kernel_rfl) (fun _ _ _ h => h) (Or.inl ⟨by kernel_rfl, ?_⟩) hHeld ?_
                  rotate_left
                  · intro w0 hSw
                    (try dsimp only at hSw)
                    go_simp
                    try (with_reducible rfl)
                  try simp only [Act.put, List.setIfInBounds_toArray, List.set_cons_zero, List.set_cons_succ]
                  refine wpAnyH_take (i := 1) (v := ?_) rfl (by kernel_rfl) (by kernel_rfl) (by kernel_rfl) (fun _ _ _ h => h) (Or.inl ⟨by kernel_rfl, ?_⟩) hHeld ?_
                  rotate_left
                  · intro w0 hSw
                    (try dsimp only at hSw)
                    go_simp
                    try (with_reducible rfl)
                  try simp only [Act.put, List.setIfInBounds_toArray, List.set_cons_zero, List.set_cons_succ]
                  refine wpAnyH_take (i := 4) (v := ?_) rfl (by kernel_rfl) (by kernel_rfl) (by kernel_rfl) (fun _ _ _ h => h) (Or.inl ⟨by kernel_rfl, ?_⟩) hHeld ?_
                  rotate_left
                  · intro w0 hSw
                    (try dsimp only at hSw)
                    go_simp
                    try (with_reducible rfl)
                  try simp only [Act.put, List.setIfInBounds_toArray, List.set_cons_zero, List.set_cons_succ]
                  refine wpAnyH_take (i := 5) (v := ?_) rfl (by kernel_rfl) (by kernel_rfl) (by kernel_rfl) (fun _ _ _ h => h) (Or.inl ⟨by kernel_rfl, ?_⟩) hHeld ?_
                  rotate_left
                  · intro w0 hSw
                    (try dsimp only at hSw)
                    go_simp
                    try (with_reducible rfl)
                  try simp only [Act.put, List.setIfInBounds_toArray, List.set_cons_zero, List.set_cons_succ]
                  refine wpAnyH_take (i := 6) (v := ?_) rfl (by kernel_rfl) (by kernel_rfl) (by kernel_rfl) (fun _ _ _ h => h) (Or.inl ⟨by kernel_rfl, ?_⟩) hHeld ?_
                  rotate_left
                  · intro w0 hSw
                    (try dsimp only at hSw)
                    go_simp
                    try (with_reducible rfl)
                  try simp only [Act.put, List.setIfInBounds_toArray, List.set_cons_zero, List.set_cons_succ]
                  refine wpAnyH_take (i := 7) (v := ?_) rfl (by kernel_rfl) (by kernel_rfl) (by kernel_rfl) (fun _ _ _ h => h) (Or.inl ⟨by kernel_rfl, ?_⟩) hHeld ?_
                  rotate_left
                  · intro w0 hSw
                    (try dsimp only at hSw)
                    go_simp
                    try (with_reducible rfl)
                  try simp only [Act.put, List.setIfInBounds_toArray, List.set_cons_zero, List.set_cons_succ]
                  refine wpAnyH_ready (rs := [2]) (by kernel_rfl) (by simp) ?_
                  refine AllReadyH.cons rfl (fun K hK => ?_) AllReadyH.nil
                  go_simp
                  refine (let_at (c : Int) _ ⟨by omega, by omega⟩).mono ?_
                  intro e w13 h13
                  obtain ⟨k13, n13, s13, a13, l13, c13, rfl, hT13, hB13'⟩ := h13.has
                  have hB13 : Below wr.heap.size wr w13 := ((Below.refl wr.heap.size wr).drew).trans hB13'
                  go_wp2_with fail
                  refine hK.out _ _ (HS _ hB13) (fun hHeld2 => ?_)
                  clear hK K
                  try simp only [Act.put, List.setIfInBounds_toArray, List.set_cons_zero, List.set_cons_succ]
                  refine wpAnyH_ready (rs := [3]) (by kernel_rfl) (by simp) ?_
                  refine AllReadyH.cons rfl (fun K hK => ?_) AllReadyH.nil
                  go_simp
                  refine (walk_at (HSr.out.step hB13) _ (vK c) hT13 HFS.out).mono ?_
                  intro e w14 h14
                  obtain ⟨k14, n14, s14, a14, l14, c14, rfl, hT14, hB14'⟩ := h14.has
                  have hB14 : Below wr.heap.size wr w14 := hB13.trans (hB14'.mono hB13.size)
                  go_wp2_with fail
                  refine hK.out _ _ (HS _ hB14) (fun hHeld3 => ?_)
                  clear hK K
                  try simp only [Act.put, List.setIfInBounds_toArray, List.set_cons_zero, List.set_cons_succ]
                  refine wpAnyH_ready (rs := [8]) (by kernel_rfl) (by simp) ?_
                  refine AllReadyH.cons rfl (fun K hK => ?_) AllReadyH.nil
                  go_simp
                  refine (same_at (σ0.fin (vK c)) (σ0.fin (vK c)) _ _ w14 hT14 (Has.below HWT.out hB14) HFS.out HFS.out).mono ?_
                  rintro e w15 ⟨he, hB15'⟩
                  obtain rfl : e = .returned (.bool true) := he.trans (by simp)
                  have hB15 : Below wr.heap.size wr w15 := hB14.trans (hB15'.mono hB14.size)
                  clear he
                  go_wp2_with fail
                  refine hK.out _ _ (HS _ hB15) (fun hHeld4 => ?_)
                  clear hK K
                  try simp only [Act.put, List.setIfInBounds_toArray, List.set_cons_zero, List.set_cons_succ]
                  refine wpAnyH_take (i := 9) (v := ?_) rfl (by kernel_rfl) (by kernel_rfl) (by kernel_rfl) (fun _ _ _ h => h) (Or.inl ⟨by kernel_rfl, ?_⟩) hHeld4 ?_
                  rotate_left
                  · intro w0 hSw
                    (try dsimp only at hSw)
                    go_simp
                    try (with_reducible rfl)
                  try simp only [Act.put, List.setIfInBounds_toArray, List.set_cons_zero, List.set_cons_succ]
                  refine wpAnyH_done (by kernel_rfl) ?_ _
                  have HB15 := Lib.hid (hBr.out.trans (hB15.mono hBr.out.size))
                  clear hB13 hB13' hB14 hB14' hB15 hB15' hT13 hT14 h13 h14 HS hHeld hHeld2 hHeld3 hHeld4
                  go_wp2_with fail
                  go_roundw
                  case rel => exact ⟨c + 1, by simp, by omega, HB15.out⟩
                  case measure => simp [intOf]; omega
                · have hce : c = 12 := by omega
                  subst hce
                  have HF := Lib.hid (And.intro (HY.out.2.1.step hBr.out) (And.intro (tbox_below HY.out.2.2.1.box hBr.out) (And.intro (Has.below HY.out.2.2.1.has hBr.out) (And.intro (tbox_below HY.out.2.2.2.2.1 hBr.out) (And.intro (Has.below HY.out.2.2.2.2.2 hBr.out) (HY.out.1.trans (hBr.out.mono HY.out.1.size)))))))
                  obtain ⟨y0, y1, y2, y3⟩ := tbox_cells HF.out.2.1
                  obtain ⟨z0, z1, z2, z3⟩ := tbox_cells HF.out.2.2.2.1
                  have herr : ((σ0.fill 60 1000 T).err == (σ0.fill 60 1000 T).err) = true := by simp
                  clear hlt
                  go_wp2_with fail
                  refine (mark_at HF.out.1).mono ?_
                  rintro e w13 ⟨rfl, rfl⟩
                  go_wp2_with fail
                  refine (same_at _ _ _ _ w13 HF.out.2.2.1 HF.out.2.2.2.2.1 (by have := tm_size σ0 T; omega) (by have := tm_size σ0 T; omega)).mono ?_
                  rintro e w14 ⟨he, hB14⟩
                  obtain rfl : e = .returned (.bool true) := he.trans (by simp)
                  have HE := Lib.hid (HW1.out.trans ((HF.out.2.2.2.2.2.trans (hB14.mono HF.out.2.2.2.2.2.size)).mono HW1.out.size))
                  clear he hB14
                  go_wp2_with fail
                  go_ret
                  exact ⟨rfl, HE.out⟩
end Go.Proofs.Ytnaopkkdidngoaa
