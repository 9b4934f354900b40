/-
  The law StoreFulls, walked.
-/
import Derived.Test.YtnaopkkdidngoaaStoS
import Derived.BigQuiet
import Derived.Deep.DeepCutAuto
namespace Go.Proofs.Ytnaopkkdidngoaa
open Go.RowKit Go.Shelf
set_option linter.unusedVariables false
set_option linter.unusedSimpArgs false

theorem has_kn {w : World} {k n k' n' : Int} {s s' : ByteArray} {a : Option Addr} {l c : Nat} {ks : List Tm} (h : Has w (.agg #[.int .i64 k, .int .i64 n, .string s, .slice a l c]) (.mk k' n' s' ks)) : k = k' ∧ n = n' := by
  cases h; exact ⟨rfl, rfl⟩
theorem field0 (k n : Int) (s : ByteArray) (a : Option Addr) (l c : Nat) (w : World) : (Instr.field 25 (.agg #[.int .i64 k, .int .i64 n, .string s, .slice a l c]) 0).run Try.prog w = .ok (.int .i64 k) w := by kernel_rfl
theorem field1 (k n : Int) (s : ByteArray) (a : Option Addr) (l c : Nat) (w : World) : (Instr.field 25 (.agg #[.int .i64 k, .int .i64 n, .string s, .slice a l c]) 1).run Try.prog w = .ok (.int .i64 n) w := by kernel_rfl
theorem vd_zero (n : Nat) : ((St.mk [] []).fresh n).Vd := by
  intro x U hx
  have hx : ([] ++ List.replicate n none)[x]? = some (some U) := hx
  rw [List.nil_append, List.getElem?_replicate] at hx
  split at hx <;> cases hx

set_option maxRecDepth 100000 in
set_option maxHeartbeats 16000000 in
theorem storeFulls_at (a1 : Option Addr) (len1 cap1 : Nat) (t : Value) (T : Tm) (vv : Int) (w : World) (hl1 : len1 ≤ 9223372036854775807) (hD1 : DeedsAt w.heap.size w a1 len1) (ht : Has w t T) (hs : T.size ≤ 1048576) (hv0 : 0 ≤ vv) (hv1 : vv ≤ 255) :
    Calls Try.prog 4 #[.slice a1 len1 cap1, t, .int .u8 vv] w (Gets w (.bool true)) := by
  obtain ⟨k, n, s, a, len, cap, ks, rfl, e, -⟩ := ht.form
  have hB0 : Below w.heap.size w (w.alloc (.cells #[.int .i64 k, .int .i64 n, .string s, .slice a len cap] 25)) := (Below.refl _ w).alloc (Nat.le_refl _) _
  have hx0 := World.alloc_heap_new w (.cells #[.int .i64 k, .int .i64 n, .string s, .slice a len cap] 25)
  have H0 := Lib.hid (And.intro hB0 (And.intro hx0 (Has.below ht hB0)))
  have HD := Lib.hid hD1
  clear ht e hB0 hx0 hD1
  go_enter Try.func4, Try.ntmps4
  go_wp2_with fail
  refine (shown10_at _).mono ?_
  rintro e w1 ⟨rfl, hB1⟩
  have hb1 := tbox_below H0.out.2.1 hB1
  have H1 := Lib.hid (And.intro (H0.out.1.trans (hB1.mono H0.out.1.size)) (And.intro hb1 (Has.below H0.out.2.2 hB1)))
  clear H0 hB1 hb1
  go_wp2_with fail
  refine (new_at10 w1 w1.heap.size (Nat.le_refl _)).mono ?_
  rintro e w2 ⟨rfl, hB2, hlt2, hS2⟩
  have hb2 := tbox_below H1.out.2.1 hB2
  obtain ⟨x0, x1, x2, x3⟩ := tbox_cells hb2
  have HT := Lib.hid (And.intro H1.out.2.1 H1.out.2.2)
  have HW1 := Lib.hid H1.out.1
  have HD' := Lib.hid (HD.out.below H1.out.1 (Nat.le_refl _))
  have H2 := Lib.hid (And.intro hB2 hS2)
  have hT2 := Has.below H1.out.2.2 hB2
  clear hB2 hS2 hlt2 hb2 H1 HD
  go_wp2_with fail
  refine (few10_at _ T w2 hT2 (by omega)).mono ?_
  by_cases hfew : T.size ≤ 300
  case neg =>
    rw [decide_eq_false hfew]
    rintro e w3 ⟨rfl, hB3⟩
    have H3 := Lib.hid (HW1.out.trans ((H2.out.1.trans (hB3.mono H2.out.1.size)).mono HW1.out.size))
    clear hB3 hT2 hfew hs
    go_wp2_with fail
    go_ret
    exact ⟨rfl, H3.out⟩
  rw [decide_eq_true hfew]
  rintro e w3 ⟨rfl, hB3⟩
  have H3 := Lib.hid (And.intro (H2.out.1.trans (hB3.mono H2.out.1.size)) (H2.out.2.step hB3))
  clear hB3 H2 hfew hT2 x0 x1 x2 x3
  go_wp2_with fail
  refine (fresh_at10 H3.out.2 H3.out.1.size 12 (by decide)).mono ?_
  rintro e w4 ⟨rfl, V, hS4, hM4⟩
  have H4 := Lib.hid (And.intro (H3.out.1.trans (Mut.below H3.out.2 hM4 H3.out.1.size)) hS4)
  clear hS4 hM4 H3
  go_wp2_with fail
  go_loopw [9] (fun i wr => ∃ (c : Nat) (σ : St) (L : Value), i = .int .i64 c ∧ c ≤ len1 ∧ Below w1.heap.size w1 wr ∧ Hid (StAt (Oth wr w1.heap.size V L) w1.heap.size wr w1.heap.size V L σ ∧ σ.vs.length = 12 ∧ σ.Vd)) (fun i _ => len1 - (intOf i).toNat)
  case atStart => exact ⟨0, _, _, rfl, Nat.zero_le _, H4.out.1, H4.out.2, rfl, vd_zero 12⟩
  case round =>
    obtain ⟨c, σ, L, rfl, hcl, hB, HR⟩ := hrel
    go_upto_region 7 with fail
    go_cut [42] from 35 to 71 (fun v wc => ∃ bb : Bool, v = .bool bb ∧ wc = wr ∧ Hid (bb = true → c < len1 ∧ c < 30))
    case first =>
      by_cases h1 : c < len1
      · have h1i : (c : Int) < (len1 : Int) := by omega
        by_cases h2 : c < 30
        · have h2i : (c : Int) < 30 := by omega
          have HC := Lib.hid (And.intro h1 h2)
          clear h1 h2
          go_wp2_with fail
          go_meet
          case rel => exact ⟨true, rfl, rfl, fun _ => HC.out⟩
        · have h2i : ¬ ((c : Int) < 30) := by omega
          clear h1 h2
          go_wp2_with fail
          go_meet
          case rel => exact ⟨false, rfl, rfl, fun h => by cases h⟩
      · have h1i : ¬ ((c : Int) < (len1 : Int)) := by omega
        clear h1
        go_wp2_with fail
        go_meet
        case rel => exact ⟨false, rfl, rfl, fun h => by cases h⟩
    case rest =>
    obtain ⟨bb, rfl, hwc, HC⟩ := hcut
    replace hwc := hwc.symm
    subst hwc
    cases bb with
    | true =>
      obtain ⟨hlt, h30⟩ := HC.out rfl
      clear HC
      have hlti : (c : Int) < (len1 : Int) := by omega
      obtain ⟨db, do_, dN, dk, dn, ds, da, dl, dc, D, rfl, hdb, hdN, q1, q2, q3, q4, q5, hDT, hDs⟩ := HD'.out c hlt
      have hdb1 : db < w1.heap.size := Nat.lt_of_lt_of_le hdb HW1.out.size
      replace q1 := (hB.cell (p := ⟨db, _, none⟩) hdb1).trans q1
      replace q2 := (hB.cell (p := ⟨db, _, none⟩) hdb1).trans q2
      replace q3 := (hB.cell (p := ⟨db, _, none⟩) hdb1).trans q3
      replace q4 := (hB.cell (p := ⟨db, _, none⟩) hdb1).trans q4
      replace q5 := (hB.cell (p := ⟨db, _, none⟩) hdb1).trans q5
      have hDT' : Has wr (.agg #[.int .i64 dk, .int .i64 dn, .string ds, .slice da dl dc]) D := IsTm.later (hB.mono HW1.out.size) (Nat.le_trans HW1.out.size hB.size) hDT
      have HDT := Lib.hid hDT'
      clear hDT hDT' hdb hdN
      go_wp2_with fail
      refine (few10_at _ D wr HDT.out (by omega)).mono ?_
      by_cases hfw : D.size ≤ 300
      case neg =>
        rw [decide_eq_false hfw]
        rintro e w5 ⟨rfl, hB5⟩
        have H5 := Lib.hid (And.intro (hB.trans (hB5.mono hB.size)) (And.intro (HR.out.1.step hB5) HR.out.2.1))
        have HK5 := Lib.hid (Mut.of_below (b := w1.heap.size) (V := V) (L := L) hB5)
        clear hB5 hfw q1 q2 q3 q4 q5 hdb1
        go_wp2_with fail
        go_roundw
        case rel => exact ⟨c + 1, σ, L, by simp, by omega, H5.out.1, H5.out.2.1, H5.out.2.2, HR.out.2.2⟩
        case measure => simp [intOf]; omega
      rw [decide_eq_true hfw]
      rintro e w5a ⟨rfl, hB5a⟩
      have H5a := Lib.hid (And.intro (hB.trans (hB5a.mono hB.size)) (And.intro (HR.out.1.step hB5a) (Has.below HDT.out hB5a)))
      have HK5a := Lib.hid (Mut.of_below (b := w1.heap.size) (V := V) (L := L) hB5a)
      replace q1 := cell_later hB5a q1
      replace q2 := cell_later hB5a q2
      replace q3 := cell_later hB5a q3
      replace q4 := cell_later hB5a q4
      replace q5 := cell_later hB5a q5
      go_wp2_with fail
      refine (check_at _ D 16 w5a H5a.out.2.2 (by omega)).mono ?_
      by_cases hck : D.check 16 = 0
      case neg =>
        rintro e wz ⟨rfl, hBz⟩
        have Hz := Lib.hid (And.intro (H5a.out.1.trans (hBz.mono H5a.out.1.size)) (H5a.out.2.1.step hBz))
        obtain ⟨ck, hckk⟩ : ∃ ck, ck = D.check 16 := ⟨_, rfl⟩
        rw [← hckk] at hck ⊢
        have hck' : (ck == 0) = false := by simpa using hck
        clear hBz hckk hck q1 q2 q3 q4 q5 hdb1 hfw
        go_wp2_with fail
        go_roundw
        case rel => exact ⟨c + 1, σ, L, by simp, by omega, Hz.out.1, Hz.out.2, HR.out.2⟩
        case measure => simp [intOf]; omega
      rw [hck]
      have HCK := Lib.hid (check_valid10 hck)
      clear hck
      rintro e w5 ⟨rfl, hB5⟩
      have H5 := Lib.hid (And.intro (H5a.out.1.trans (hB5.mono H5a.out.1.size)) (And.intro (H5a.out.2.1.step hB5) (Has.below H5a.out.2.2 hB5)))
      have HK5 := Lib.hid (HK5a.out.trans (Mut.of_below (b := w1.heap.size) (V := V) (L := L) hB5))
      replace q1 := cell_later hB5 q1
      replace q2 := cell_later hB5 q2
      replace q3 := cell_later hB5 q3
      replace q4 := cell_later hB5 q4
      replace q5 := cell_later hB5 q5
      have hB : Below w1.heap.size w1 w1 := Below.refl _ _
      have HS : ∀ w', Below w5.heap.size w5 w' → w'.cell? ⟨db, do_ + c * 6 + 1, none⟩ = some (.int .i64 dN) ∧ w'.cell? ⟨db, do_ + c * 6 + 2, none⟩ = some (.int .i64 dk) ∧ w'.cell? ⟨db, do_ + c * 6 + 3, none⟩ = some (.int .i64 dn) ∧ w'.cell? ⟨db, do_ + c * 6 + 4, none⟩ = some (.string ds) ∧ w'.cell? ⟨db, do_ + c * 6 + 5, none⟩ = some (.slice da dl dc) := fun w' hb => ⟨cell_later hb q1, cell_later hb q2, cell_later hb q3, cell_later hb q4, cell_later hb q5⟩
      have HS6 : ∀ w', Below w1.heap.size w5 w' → w'.cell? ⟨db, do_ + c * 6 + 1, none⟩ = some (.int .i64 dN) ∧ w'.cell? ⟨db, do_ + c * 6 + 2, none⟩ = some (.int .i64 dk) ∧ w'.cell? ⟨db, do_ + c * 6 + 3, none⟩ = some (.int .i64 dn) ∧ w'.cell? ⟨db, do_ + c * 6 + 4, none⟩ = some (.string ds) ∧ w'.cell? ⟨db, do_ + c * 6 + 5, none⟩ = some (.slice da dl dc) := fun w' hb => ⟨(hb.cell (p := ⟨db, _, none⟩) hdb1).trans q1, (hb.cell (p := ⟨db, _, none⟩) hdb1).trans q2, (hb.cell (p := ⟨db, _, none⟩) hdb1).trans q3, (hb.cell (p := ⟨db, _, none⟩) hdb1).trans q4, (hb.cell (p := ⟨db, _, none⟩) hdb1).trans q5⟩
      clear hB5 hB q1 q2 q3 q4 q5 HDT hdb1
      go_upto_region 10 with fail
      refine wp_region_held_drew (S := (fun w' => w'.cell? ⟨db, do_ + c * 6 + 1, none⟩ = some (.int .i64 dN) ∧ w'.cell? ⟨db, do_ + c * 6 + 2, none⟩ = some (.int .i64 dk) ∧ w'.cell? ⟨db, do_ + c * 6 + 3, none⟩ = some (.int .i64 dn) ∧ w'.cell? ⟨db, do_ + c * 6 + 4, none⟩ = some (.string ds) ∧ w'.cell? ⟨db, do_ + c * 6 + 5, none⟩ = some (.slice da dl dc))) (by kernel_rfl) (HS _ (Below.refl _ _).drew) (fun hHeld => ?_)
      refine wpAnyH_take (i := 0) (v := ?_) rfl (by kernel_rfl) (by kernel_rfl) (by kernel_rfl) (fun _ _ _ h => h) (Or.inl ⟨by kernel_rfl, ?_⟩) hHeld ?_
      rotate_left
      · intro w0 hSw
        (try dsimp only at hSw)
        go_simp
        try (with_reducible rfl)
      try simp only [Act.put, List.setIfInBounds_toArray, List.set_cons_zero, List.set_cons_succ]
      refine wpAnyH_take (i := 1) (v := ?_) rfl (by kernel_rfl) (by kernel_rfl) (by kernel_rfl) (fun _ _ _ h => h) (Or.inl ⟨by kernel_rfl, ?_⟩) hHeld ?_
      rotate_left
      · intro w0 hSw
        (try dsimp only at hSw)
        go_simp
        try (with_reducible rfl)
      try simp only [Act.put, List.setIfInBounds_toArray, List.set_cons_zero, List.set_cons_succ]
      refine wpAnyH_take (i := 2) (v := ?_) rfl (by kernel_rfl) (by kernel_rfl) (by kernel_rfl) (fun _ _ _ h => h) (Or.inl ⟨by kernel_rfl, ?_⟩) hHeld ?_
      rotate_left
      · intro w0 hSw
        (try dsimp only at hSw)
        go_simp
        try (with_reducible rfl)
      try simp only [Act.put, List.setIfInBounds_toArray, List.set_cons_zero, List.set_cons_succ]
      refine wpAnyH_take (i := 3) (v := ?_) rfl (by kernel_rfl) (by kernel_rfl) (by kernel_rfl) (fun _ _ _ h => h) (Or.inl ⟨by kernel_rfl, ?_⟩) hHeld ?_
      rotate_left
      · intro w0 hSw
        (try dsimp only at hSw)
        go_simp
        try (with_reducible rfl)
      try simp only [Act.put, List.setIfInBounds_toArray, List.set_cons_zero, List.set_cons_succ]
      refine wpAnyH_take (i := 4) (v := ?_) rfl (by kernel_rfl) (by kernel_rfl) (by kernel_rfl) (fun _ _ _ h => h) (Or.inl ⟨by kernel_rfl, ?_⟩) hHeld ?_
      rotate_left
      · intro w0 hSw
        (try dsimp only at hSw)
        go_simp
        try (with_reducible rfl)
      try simp only [Act.put, List.setIfInBounds_toArray, List.set_cons_zero, List.set_cons_succ]
      refine wpAnyH_take (i := 5) (v := ?_) rfl (by kernel_rfl) (by kernel_rfl) (by kernel_rfl) (fun _ _ _ h => h) (Or.inl ⟨by kernel_rfl, ?_⟩) hHeld ?_
      rotate_left
      · intro w0 hSw
        (try dsimp only at hSw)
        go_simp
        try (with_reducible rfl)
      try simp only [Act.put, List.setIfInBounds_toArray, List.set_cons_zero, List.set_cons_succ]
      refine wpAnyH_take (i := 6) (v := ?_) rfl (by kernel_rfl) (by kernel_rfl) (by kernel_rfl) (fun _ _ _ h => h) (Or.inl ⟨by kernel_rfl, ?_⟩) hHeld ?_
      rotate_left
      · intro w0 hSw
        (try dsimp only at hSw)
        go_simp
        try (with_reducible rfl)
      try simp only [Act.put, List.setIfInBounds_toArray, List.set_cons_zero, List.set_cons_succ]
      refine wpAnyH_take (i := 7) (v := ?_) rfl (by kernel_rfl) (by kernel_rfl) (by kernel_rfl) (fun _ _ _ h => h) (Or.inl ⟨by kernel_rfl, ?_⟩) hHeld ?_
      rotate_left
      · intro w0 hSw
        (try dsimp only at hSw)
        go_simp
        try (with_reducible rfl)
      try simp only [Act.put, List.setIfInBounds_toArray, List.set_cons_zero, List.set_cons_succ]
      refine wpAnyH_take (i := 8) (v := ?_) rfl (by kernel_rfl) (by kernel_rfl) (by kernel_rfl) (fun _ _ _ h => h) (Or.inl ⟨by kernel_rfl, ?_⟩) hHeld ?_
      rotate_left
      · intro w0 hSw
        (try dsimp only at hSw)
        go_simp
        try (with_reducible rfl)
      try simp only [Act.put, List.setIfInBounds_toArray, List.set_cons_zero, List.set_cons_succ]
      refine wpAnyH_take (i := 9) (v := ?_) rfl (by kernel_rfl) (by kernel_rfl) (by kernel_rfl) (fun _ _ _ h => h) (Or.inl ⟨by kernel_rfl, ?_⟩) hHeld ?_
      rotate_left
      · intro w0 hSw
        (try dsimp only at hSw)
        go_simp
        try (with_reducible rfl)
      try simp only [Act.put, List.setIfInBounds_toArray, List.set_cons_zero, List.set_cons_succ]
      refine wpAnyH_take (i := 10) (v := ?_) rfl (by kernel_rfl) (by kernel_rfl) (by kernel_rfl) (fun _ _ _ h => h) (Or.inl ⟨by kernel_rfl, ?_⟩) hHeld ?_
      rotate_left
      · intro w0 hSw
        (try dsimp only at hSw)
        go_simp
        try (with_reducible rfl)
      try simp only [Act.put, List.setIfInBounds_toArray, List.set_cons_zero, List.set_cons_succ]
      refine wpAnyH_ready (rs := [11]) (by kernel_rfl) (by simp) ?_
      refine AllReadyH.cons rfl (fun K hK => ?_) AllReadyH.nil
      go_simp
      have hdr : Below w5.heap.size w5 w5.drew := (Below.refl w5.heap.size w5).drew
      have hSd := H5.out.2.1.step hdr
      have hTd := Has.below H5.out.2.2 hdr
      have hBd := H5.out.1.trans (hdr.mono H5.out.1.size)
      have HMd := Lib.hid (HK5.out.trans (Mut.of_below hdr))
      refine (bind_any hSd hBd.size dN _ D hTd (by omega)).mono ?_
      rintro e w6 ⟨x6, rfl, L6, σ6, hS6, hM6, hb6⟩
      have hS6' := HS6 w6 ((hdr.mono H5.out.1.size).trans (Mut.below hSd hM6 hBd.size))
      have H6 := Lib.hid (And.intro (hBd.trans (Mut.below hSd hM6 hBd.size)) (And.intro hS6 (hb6.len.trans HR.out.2.1)))
      have HM6 := Lib.hid (And.intro (HMd.out.trans hM6) hb6)
      clear hS6 hM6 hb6 hSd hTd hBd hdr HMd HS HS6
      go_wp2_with fail
      refine hK.out _ _ hS6' (fun hHeld2 => ?_)
      clear hK K hHeld hS6'
      try simp only [Act.put, List.setIfInBounds_toArray, List.set_cons_zero, List.set_cons_succ]
      refine wpAnyH_done (by kernel_rfl) ?_ _
      clear hHeld2
      go_wp2_with fail
      go_roundw
      case rel => exact ⟨c + 1, σ6, L6, by simp, by omega, H6.out.1, H6.out.2.1, H6.out.2.2, HM6.out.2.vd HR.out.2.2 HCK.out⟩
      case measure => simp [intOf]; omega
    | false =>
      have HH := Lib.hid (And.intro hB HR.out)
      clear hB HR HC hcl
      have hbt := tbox_below HT.out.1 HH.out.1
      obtain ⟨x0, x1, x2, x3⟩ := tbox_cells hbt
      have hTt := Has.below HT.out.2 HH.out.1
      clear hbt
      go_wp2_with fail
      refine (full_at HH.out.2.1 _ T hTt).mono ?_
      cases hr : σ.fill 60 1000 T with
      | bad er =>
        rintro e w6 ⟨hB6, rfl⟩
        have her : er ≠ 0 := by rcases fill_bads σ 60 1000 T er hr with h | h <;> omega
        have her1 : (er != 0) = true := by simpa using her
        have her2 : (er == 0) = false := by simpa using her
        have HE := Lib.hid (HW1.out.trans ((HH.out.1.trans (hB6.mono HH.out.1.size)).mono HW1.out.size |>.trans ((Below.refl w.heap.size w6).alloc (Nat.le_trans HW1.out.size (Nat.le_trans HH.out.1.size hB6.size)) (.cells #[.int .i64 0, .int .i64 0, .string (ByteArray.mk #[]), .slice none 0 0] 25))))
        clear hB6 hr her hTt x0 x1 x2 x3
        go_wp2_with fail
        go_ret
        exact ⟨rfl, HE.out⟩
      | ok A lf =>
      rintro e w6 ⟨hB6, kA, nA, sA, aA, lA, cA, rfl, hTA⟩
      have HFA := Lib.hid hr
      have hAs : A.size ≤ 1000 := by have := fill_size σ 60 1000 T A lf hr; omega
      clear hr
      obtain ⟨w7, hw7⟩ : ∃ w7, w7 = w6.alloc (.cells #[.int .i64 kA, .int .i64 nA, .string sA, .slice aA lA cA] 25) := ⟨_, rfl⟩
      have hB67 : Below w6.heap.size w6 w7 := by rw [hw7]; exact (Below.refl _ _).alloc (Nat.le_refl _) _
      have hB57 : Below wr.heap.size wr w7 := hB6.trans (hB67.mono hB6.size)
      have hb7 : w7.heap[w6.heap.size]? = some (.cells #[.int .i64 kA, .int .i64 nA, .string sA, .slice aA lA cA] 25 (0, 0)) := by rw [hw7]; exact World.alloc_heap_new _ _
      have hbt7 := tbox_below HT.out.1 (HH.out.1.trans (hB57.mono HH.out.1.size))
      have H7 := Lib.hid (And.intro (HH.out.1.trans (hB57.mono HH.out.1.size)) (And.intro (HH.out.2.1.step hB57) (And.intro hb7 (And.intro (Has.below (show Has w6 (.agg #[.int .i64 kA, .int .i64 nA, .string sA, .slice aA lA cA]) A from hTA.carry (fun _ _ => rfl) fun c hc => hc.2) hB67) (And.intro hbt7 (Has.below hTt hB57))))))
      have HG := Lib.hid (And.intro HH.out.2.1.ok.ranked (And.intro HH.out.2.2.2 (And.intro HFA.out hAs)))
      have HW7 := Lib.hid hw7
      clear x0 x1 x2 x3
      obtain ⟨x0, x1, x2, x3⟩ := tbox_cells hbt7
      obtain ⟨y0, y1, y2, y3⟩ := tbox_cells hb7
      clear hw7 hB67 hB57 hb7 hTA hB6 hTt HH hbt7 HFA hAs
      go_upto_region 12 with fail
      rw [← HW7.out]
      generalize w6.heap.size = B10 at *
      clear HW7
      go_wp2_with fail
      refine (check_at _ T 16 w7 H7.out.2.2.2.2.2 (by omega)).mono ?_
      by_cases hck : T.check 16 = 0
      case neg =>
        rintro e wz ⟨rfl, hBz⟩
        have HE := Lib.hid (HW1.out.trans ((H7.out.1.trans (hBz.mono H7.out.1.size)).mono HW1.out.size))
        obtain ⟨ck, hckk⟩ : ∃ ck, ck = T.check 16 := ⟨_, rfl⟩
        rw [← hckk] at hck ⊢
        have hck' : (ck != 0) = true := by simpa using hck
        clear hBz hckk hck x0 x1 x2 x3 y0 y1 y2 y3 H7 HG
        go_wp2_with fail
        go_ret
        exact ⟨rfl, HE.out⟩
      rw [hck]
      have HTV := Lib.hid (check_valid10 hck)
      clear hck
      rintro e w8 ⟨rfl, hB8⟩
      have H8 := Lib.hid (And.intro (H7.out.1.trans (hB8.mono H7.out.1.size)) (And.intro (H7.out.2.1.step hB8) (And.intro (tbox_below H7.out.2.2.1 hB8) (And.intro (Has.below H7.out.2.2.2.1 hB8) (And.intro (tbox_below H7.out.2.2.2.2.1 hB8) (Has.below H7.out.2.2.2.2.2 hB8))))))
      clear x0 x1 x2 x3 y0 y1 y2 y3 hB8 H7
      obtain ⟨y0, y1, y2, y3⟩ := tbox_cells H8.out.2.2.1
      have hclear := fill_clear HG.out.1 60 1000 T A lf HG.out.2.2.1
      have hdeep := fill_deep 60 1000 T A lf HG.out.2.2.1
      have hsame := fill_same 60 1000 A hclear (by have := HG.out.2.2.2; omega) hdeep
      have HC := Lib.hid (And.intro hclear hsame)
      clear hclear hdeep hsame
      go_wp2_with fail
      refine (full_at H8.out.2.1 _ A H8.out.2.2.2.1).mono ?_
      rw [HC.out.2]
      rintro e w9 ⟨hB9, kB, nB, sB, aB, lB, cB, rfl, hTB⟩
      obtain ⟨w10, hw10⟩ : ∃ w10, w10 = w9.alloc (.cells #[.int .i64 kB, .int .i64 nB, .string sB, .slice aB lB cB] 25) := ⟨_, rfl⟩
      have hB910 : Below w9.heap.size w9 w10 := by rw [hw10]; exact (Below.refl _ _).alloc (Nat.le_refl _) _
      have hB10 : Below w8.heap.size w8 w10 := hB9.trans (hB910.mono hB9.size)
      have hb10 : w10.heap[w9.heap.size]? = some (.cells #[.int .i64 kB, .int .i64 nB, .string sB, .slice aB lB cB] 25 (0, 0)) := by rw [hw10]; exact World.alloc_heap_new _ _
      have H10 := Lib.hid (And.intro (H8.out.1.trans (hB10.mono H8.out.1.size)) (And.intro (H8.out.2.1.step hB10) (And.intro (tbox_below H8.out.2.2.1 hB10) (And.intro (Has.below H8.out.2.2.2.1 hB10) (And.intro (tbox_below H8.out.2.2.2.2.1 hB10) (And.intro (Has.below H8.out.2.2.2.2.2 hB10) (And.intro hb10 (Has.below (show Has w9 (.agg #[.int .i64 kB, .int .i64 nB, .string sB, .slice aB lB cB]) A from hTB.carry (fun _ _ => rfl) fun c hc => hc.2) hB910))))))))
      have HW10 := Lib.hid hw10
      clear y0 y1 y2 y3
      obtain ⟨y0, y1, y2, y3⟩ := tbox_cells H10.out.2.2.1
      clear hw10 hB910 hB10 hb10 hTB hB9 H8
      go_upto_region 15 with fail
      rw [← HW10.out]
      generalize w9.heap.size = B12 at *
      clear HW10
      go_wp2_with fail
      refine (vars_at _ A w10 H10.out.2.2.2.1 (by have := HG.out.2.2.2; omega)).mono ?_
      rintro e w11 ⟨rv, rfl, hrv, hB11⟩
      obtain ⟨ra, rcap, erv, hrl, hrm, hra, hrx⟩ := id hrv
      subst erv
      have hvl : A.vars.length ≤ 1000 := by have h1 := varsL_length (A.parts 1); rw [A.parts_length] at h1; have := HG.out.2.2.2; show (varsL _).length ≤ _; omega
      have H11 := Lib.hid (And.intro (H10.out.1.trans (hB11.mono H10.out.1.size)) (And.intro (H10.out.2.1.step hB11) (And.intro (tbox_below H10.out.2.2.1 hB11) (And.intro (Has.below H10.out.2.2.2.1 hB11) (And.intro (tbox_below H10.out.2.2.2.2.1 hB11) (And.intro (Has.below H10.out.2.2.2.2.2.1 hB11) (And.intro (tbox_below H10.out.2.2.2.2.2.2.1 hB11) (And.intro (Has.below H10.out.2.2.2.2.2.2.2 hB11) (And.intro hrv hrx)))))))))
      have hnums := tm_nums H10.out.2.2.2.1
      have HNM := Lib.hid (And.intro hnums hvl)
      clear hnums hrv hrx hB11 y0 y1 y2 y3 H10 hvl hra hrl hrm
      obtain ⟨vl, hvl⟩ : ∃ vl, vl = A.vars.length := ⟨_, rfl⟩
      rw [← hvl]
      have HVL := Lib.hid hvl
      have hvl1 : vl ≤ 1000 := by rw [hvl]; exact HNM.out.2
      clear hvl
      go_wp2_with fail
      go_loopw [15] (fun i wl => ∃ (c : Nat), i = .int .i64 c ∧ c ≤ vl ∧ Hid (Below w11.heap.size w11 wl)) (fun i _ => vl - (intOf i).toNat)
      case atStart => exact ⟨0, rfl, Nat.zero_le _, Below.refl _ _⟩
      case round =>
        obtain ⟨c, rfl, hc, hBr⟩ := hrel
        by_cases hlt : c < vl
        · have hlti : (c : Int) < (vl : Int) := by omega
          have hlt' : c < A.vars.length := by rw [← HVL.out]; exact hlt
          obtain ⟨vb, vo, rfl, hvb, hvc⟩ := H11.out.2.2.2.2.2.2.2.2.2 c hlt'
          obtain ⟨x, hx⟩ : ∃ x, x = A.vars[c] := ⟨_, rfl⟩
          rw [← hx] at hvc
          have hmem : x ∈ A.vars := by rw [hx]; exact List.getElem_mem _
          have hocc := (mem_vars x A).1 hmem
          have hx64 : i64ok x := HNM.out.1 x hocc
          have hfree : ∀ s ks, σ.val (.mk 1 x s ks) = none := fun s ks => clear_occ hocc HC.out.1 s ks
          have HXF := Lib.hid (St.fin_free (hfree (ByteArray.mk #[]) []))
          have hcx := cell_later hBr.out hvc
          clear hmem hocc hfree hvc hx hlt' hvb
          go_wp2_with fail
          refine (let_at x wr ⟨hx64.1, hx64.2⟩).mono ?_
          intro e w12 h12
          obtain ⟨k12, n12, s12, a12, l12, c12, rfl, hT12, hB12⟩ := h12.has
          have H12 := Lib.hid (And.intro (hBr.out.trans (hB12.mono hBr.out.size)) (And.intro hB12 (show Has w12 _ (.mk 1 x (ByteArray.mk #[]) []) from hT12)))
          clear h12 hT12 hB12
          go_wp2_with fail
          refine (walk_at (H11.out.2.1.step H12.out.1) _ (.mk 1 x (ByteArray.mk #[]) []) H12.out.2.2 (by rw [HXF.out, Tm.size_mk, Tm.sizes_nil]; omega)).mono ?_
          intro e w13 h13
          rw [HXF.out] at h13
          obtain ⟨k13, n13, s13, a13, l13, c13, rfl, hT13, hB13⟩ := h13.has
          obtain ⟨ek, en⟩ := has_kn hT13
          replace en := en.symm
          subst ek en
          obtain ⟨w14, hw14⟩ : ∃ w14, w14 = w13.alloc (.cells #[.int .i64 1, .int .i64 x, .string s13, .slice a13 l13 c13] 25) := ⟨_, rfl⟩
          have hB14 : Below w12.heap.size w12 w14 := by rw [hw14]; exact hB13.alloc hB13.size _
          have hb14 : w14.heap[w13.heap.size]? = some (.cells #[.int .i64 1, .int .i64 x, .string s13, .slice a13 l13 c13] 25 (0, 0)) := by rw [hw14]; exact World.alloc_heap_new _ _
          obtain ⟨z0, z1, z2, z3⟩ := tbox_cells hb14
          have hcx14 := cell_later hB14 (cell_later H12.out.2.1 hcx)
          have hxx : (x != x) = false := by simp
          have HB14 := Lib.hid (H12.out.1.trans (hB14.mono H12.out.1.size))
          have HW14 := Lib.hid hw14
          clear hB14 hb14 hw14 hT13 hB13 h13 H12 hcx
          go_upto_region 20 with fail
          rw [← HW14.out]
          generalize w13.heap.size = B16 at *
          clear HW14
          go_quiet (fail)
          go_wp2_with fail
          go_roundw
          case rel => exact ⟨c + 1, by simp, by omega, dr_below HB14.out _⟩
          case measure => simp [intOf]; omega
        · have hce : vl = c := by omega
          subst hce
          have hnl : ¬ ((vl : Int) < (vl : Int)) := by omega
          obtain ⟨K, hK, hK12⟩ : ∃ K : Nat, vv % 12 = (K : Int) ∧ K < 12 := ⟨(vv % 12).toNat, by omega, by omega⟩
          have HF := Lib.hid (And.intro (H11.out.1.trans (hBr.out.mono H11.out.1.size)) (And.intro (H11.out.2.1.step hBr.out) (And.intro (tbox_below H11.out.2.2.1 hBr.out) (And.intro (Has.below H11.out.2.2.2.1 hBr.out) (And.intro (tbox_below H11.out.2.2.2.2.1 hBr.out) (And.intro (Has.below H11.out.2.2.2.2.2.1 hBr.out) (And.intro (tbox_below H11.out.2.2.2.2.2.2.1 hBr.out) (And.intro (Has.below H11.out.2.2.2.2.2.2.2.1 hBr.out) (H11.out.2.2.2.2.2.2.2.2.1.below hBr.out)))))))))
          have hfs : (σ.fin (vK K)).size ≤ 1000000000000 := by have := fin_size HF.out.2.1.ok (vK K); rw [vK_size] at this; omega
          have HFS := Lib.hid hfs
          have hf0 := field0
          have hf1 := field1
          clear hlt hc hBr H11 hfs
          go_wp2_with fail
          refine (let_at (K : Int) wr ⟨by omega, by omega⟩).mono ?_
          intro e w12 h12
          obtain ⟨k12, n12, s12, a12, l12, c12, rfl, hT12, hB12⟩ := h12.has
          have H12 := Lib.hid (And.intro hB12 (show Has w12 _ (vK K) from hT12))
          clear h12 hT12 hB12
          go_wp2_with fail
          refine (walk_at (HF.out.2.1.step H12.out.1) _ (vK K) H12.out.2 HFS.out).mono ?_
          obtain ⟨X, hX⟩ : ∃ X, X = σ.fin (vK K) := ⟨_, rfl⟩
          rw [← hX]
          have HX := Lib.hid hX
          clear hX
          obtain ⟨kx, nx, sx, ksx⟩ := X
          intro e w13 h13
          obtain ⟨k13, n13, s13, a13, l13, c13, rfl, hT13, hB13⟩ := h13.has
          obtain ⟨rfl, rfl⟩ := has_kn hT13
          have H13 := Lib.hid (H12.out.1.trans (hB13.mono H12.out.1.size))
          clear h13 hT13 hB13 H12
          have fin1 : ∀ w', Below wr.heap.size wr w' → w'.cell? ⟨B10, 0, none⟩ = some (.int .i64 kA) ∧ w'.cell? ⟨B10, 1, none⟩ = some (.int .i64 nA) ∧ w'.cell? ⟨B10, 2, none⟩ = some (.string sA) ∧ w'.cell? ⟨B10, 3, none⟩ = some (.slice aA lA cA) ∧ w'.cell? ⟨B12, 0, none⟩ = some (.int .i64 kB) ∧ w'.cell? ⟨B12, 1, none⟩ = some (.int .i64 nB) ∧ w'.cell? ⟨B12, 2, none⟩ = some (.string sB) ∧ w'.cell? ⟨B12, 3, none⟩ = some (.slice aB lB cB) := fun w' hb => by
            obtain ⟨y0, y1, y2, y3⟩ := tbox_cells (tbox_below HF.out.2.2.1 hb)
            obtain ⟨z0, z1, z2, z3⟩ := tbox_cells (tbox_below HF.out.2.2.2.2.2.2.1 hb)
            exact ⟨y0, y1, y2, y3, z0, z1, z2, z3⟩
          have same1 : ∀ w', Below wr.heap.size wr w' → Calls Try.prog 18 #[.agg #[.int .i64 kA, .int .i64 nA, .string sA, .slice aA lA cA], .agg #[.int .i64 kB, .int .i64 nB, .string sB, .slice aB lB cB]] w' (Gets w' (.bool true)) := fun w' hb => by
            refine (same_at A A _ _ w' (Has.below HF.out.2.2.2.1 hb) (Has.below HF.out.2.2.2.2.2.2.2.1 hb) (by have := HG.out.2.2.2; omega) (by have := HG.out.2.2.2; omega)).mono ?_
            rintro e w'' ⟨he, hb'⟩
            exact ⟨he.trans (by simp), hb'⟩
          have end1 : ∀ w', Below wr.heap.size wr w' → Hid (Below w.heap.size w w') := fun w' hb => HW1.out.trans ((HF.out.1.trans (hb.mono HF.out.1.size)).mono HW1.out.size)
          by_cases hk1 : k13 = 1
          case neg =>
            have hk1' : (k13 == 1) = false := by simpa using hk1
            obtain ⟨y0, y1, y2, y3, z0, z1, z2, z3⟩ := fin1 w13 H13.out
            clear hk1
            go_wp2_with fail
            refine (same1 w13 H13.out).mono ?_
            rintro e w14 ⟨rfl, hB14⟩
            have HE := end1 w14 (H13.out.trans (hB14.mono H13.out.size))
            clear hB14 y0 y1 y2 y3 z0 z1 z2 z3
            go_wp2_with fail
            go_ret
            exact ⟨rfl, HE.out⟩
          subst hk1
          go_wp2_with fail
          refine (let_at (K : Int) w13 ⟨by omega, by omega⟩).mono ?_
          intro e w14 h14
          obtain ⟨k14, n14, s14, a14, l14, c14, rfl, hT14, hB14⟩ := h14.has
          have H14 := Lib.hid (And.intro (H13.out.trans (hB14.mono H13.out.size)) (show Has w14 _ (vK K) from hT14))
          clear h14 hT14 hB14 H13
          go_wp2_with fail
          refine (walk_at (HF.out.2.1.step H14.out.1) _ (vK K) H14.out.2 HFS.out).mono ?_
          rw [← HX.out]
          intro e w15 h15
          obtain ⟨k15, n15, s15, a15, l15, c15, rfl, hT15, hB15⟩ := h15.has
          obtain ⟨rfl, rfl⟩ := has_kn hT15
          have H15 := Lib.hid (H14.out.1.trans (hB15.mono H14.out.1.size))
          clear h15 hT15 hB15 H14
          obtain ⟨y0, y1, y2, y3, z0, z1, z2, z3⟩ := fin1 w15 H15.out
          by_cases hn1 : n15 = (K : Int)
          case neg =>
            have hn1' : (n15 == (K : Int)) = false := by simpa using hn1
            clear hn1
            go_wp2_with fail
            refine (same1 w15 H15.out).mono ?_
            rintro e w16 ⟨rfl, hB16⟩
            have HE := end1 w16 (H15.out.trans (hB16.mono H15.out.size))
            clear hB16 y0 y1 y2 y3 z0 z1 z2 z3
            go_wp2_with fail
            go_ret
            exact ⟨rfl, HE.out⟩
          subst hn1
          have hkk : ((K : Int) == (K : Int)) = true := by simp
          go_wp2_with fail
          refine (same1 w15 H15.out).mono ?_
          rintro e w16 ⟨rfl, hB16⟩
          have H16 := Lib.hid (H15.out.trans (hB16.mono H15.out.size))
          obtain ⟨t0, t1, t2, t3⟩ := tbox_cells (tbox_below HF.out.2.2.2.2.1 H16.out)
          clear hB16 y0 y1 y2 y3 z0 z1 z2 z3 H15
          go_wp2_with fail
          refine (has_at10 (HF.out.2.1.step H16.out) _ T (Has.below HF.out.2.2.2.2.2.1 H16.out) (K : Int) (by omega)).mono ?_
          obtain ⟨B, hBd, hBe⟩ : ∃ B : Bool, A.vars.contains (K : Int) = B ∧ ∀ (i : Decidable (Met σ (K : Int) T)), @decide _ i = B := ⟨_, rfl, fun i => by
            rw [Bool.eq_iff_iff, decide_eq_true_iff, List.contains_iff_mem, mem_vars]
            exact fill_met HG.out.1 HG.out.2.1 (K : Int) 60 1000 T A lf HTV.out HG.out.2.2.1⟩
          rw [hBe]
          rintro e w17 ⟨rfl, hB17⟩
          have H17 := Lib.hid (H16.out.trans (hB17.mono H16.out.size))
          have HBD := Lib.hid hBd
          clear hB17 t0 t1 t2 t3 hBd hBe H16
          go_wp2_with fail
          rw [HVL.out]
          refine (rhas_at _ A.vars (K : Int) w17 (HF.out.2.2.2.2.2.2.2.2.below H17.out) (by have := HNM.out.2; omega)).mono ?_
          rw [HBD.out]
          rintro e w18 ⟨rfl, hB18⟩
          have HE := end1 w18 (H17.out.trans (hB18.mono H17.out.size))
          have hBB : (B == B) = true := by simp
          clear hB18
          cases B
          all_goals
            go_wp2_with fail
            go_ret
            exact ⟨rfl, HE.out⟩
end Go.Proofs.Ytnaopkkdidngoaa
