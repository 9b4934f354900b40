/-
  slices.symMergeCmpFunc: one element alone on the right.
-/
import Derived.Test.YtcicggpcmmnohaaSrtB
import Derived.Test.YtcicggpcmmnohaaSrtC
namespace Go.Proofs.Ytcicggpcmmnohaa
open Go.Shelf Go.RowKit Go.Lib Go.Sort
set_option linter.unusedVariables false
section
variable {P : Program} {α : Type} [Inhabited α]

/-- What stands behind a turn by one place, its element brought ahead of all that are behind it. -/
theorem right_done {cf : α → α → Int} {tg : α → Nat} (hT : Tot cf) {d d' : Array α} {a m i : Nat} (p : Pre cf tg d a m (m + 1)) (h1 : a ≤ i) (h2 : i ≤ m) (c1 : i = a ∨ ltT cf tg d[m]! d[i - 1]! = false) (c2 : i = m ∨ ltT cf tg d[m]! d[i]! = true) (r : Rot d i m (m + 1) d') : SortedIn (ltT cf tg) a (m + 1) d' := by
  have hS := hT.swo (tg := tg)
  have t := turned hT p (s := i) (e := m + 1) ⟨h1, h2, Nat.le_succ _, Nat.le_refl _, .inr (.inl rfl), c2.imp id .inr⟩ r
  have hm : i + (m + 1 - m) = i + 1 := by omega
  rw [hm] at t
  refine joined (joined t.lo.l t.lo.r fun x y k1 k2 k3 k4 => ?_) t.hi.l fun x y k1 k2 k3 k4 => t.cross x y k1 k2 k3 k4
  obtain rfl : y = i := by omega
  have e1 : d'[y]! = d[m]! := by rw [r.get, if_pos (by omega)]; congr 1; omega
  have e2 : d'[x]! = d[x]! := by rw [r.get, if_neg (by omega), if_neg (by omega)]
  have g : ltT cf tg d[m]! d[y - 1]! = false := by rcases c1 with c | c <;> first | (exfalso; omega) | exact c
  rw [e1, e2]
  exact hS.ntrans _ _ _ g (sorted_le hS p.l k1 (by omega) (by omega))

set_option maxHeartbeats 4000000 in
set_option maxRecDepth 1000000 in
theorem mergeR_at (k : Nat) (L : LO P k) (enc : α → List Value) (cf : α → α → Int) (tg : α → Nat) (hT : Tot cf) (g : Nat) (cb : Array Value) (w0 : World) (blk off cap a m : Nat) (d : Array α) (w : World)
    (eg : ∀ args w, (callFunc g args).run P w = .ok (.enter g args) w) (R : RowB enc k w0 blk) (C : CmpB P g cb enc k cf w0 blk off d.size) (S : SWb enc k w0 blk off d w) (p : Pre cf tg d a m (m + 1)) (hab : a + 1 < m) (hsz : d.size < 4611686018427387904) :
    Calls P 74 #[.slice (some ⟨blk, off, none⟩) d.size cap, .int .i64 a, .int .i64 m, .int .i64 ((m : Int) + 1), .func (.func g) #[] cb] w fun e w' => e = .returned (.tuple #[]) ∧ ∃ d', SWb enc k w0 blk off d' w' ∧ PermIn a (m + 1) d d' ∧ SortedIn (ltT cf tg) a (m + 1) d' := by
  have mixed := L.mixed; have t0 := L.t0; have a0 := L.a0; have z0 := L.z0; have v0 := L.v0; have t3 := L.t3; have a3 := L.a3; have z3 := L.z3; have v3 := L.v3; have t4 := L.t4; have a4 := L.a4; have z4 := L.z4; have v4 := L.v4; have t57 := L.t57; have a57 := L.a57; have z57 := L.z57; have v57 := L.v57; have t61 := L.t61; have a61 := L.a61; have z61 := L.z61; have v61 := L.v61; have t93 := L.t93; have a93 := L.a93; have z93 := L.z93; have v93 := L.v93; have aE := L.aE; have zE := L.zE
  have u57 := run_underlying L.t57
  have hbd : m + 1 ≤ d.size := p.bs
  have HP : Aside (Pre cf tg d a m (m + 1)) := p
  have HC : Aside _ := C
  have S0 : Aside (SWb enc k w0 blk off d w) := S
  clear C S p
  have one : (((m : Int) + 1 - (m : Int)) == 1) = true := by simp; omega
  have two : (((m : Int) - (a : Int)) == 1) = false := beq_eq_false_iff_ne.2 (by omega)
  go_enter L.f74, Try.ntmps74
  go_wp2
  go_loopg [14, 15] (m - a) (fun gg s10 s11 wr => ∃ (i j : Nat), s10 = .int .i64 i ∧ s11 = .int .i64 j ∧ a ≤ i ∧ i ≤ j ∧ j ≤ m ∧ j - i ≤ gg ∧ Aside (SWb enc k w0 blk off d wr) ∧ Hid (i = a ∨ ltT cf tg d[m]! d[i - 1]! = false) ∧ Hid (j = m ∨ ltT cf tg d[m]! d[j]! = true))
  case atStart => exact ⟨a, m, rfl, rfl, Nat.le_refl _, by omega, Nat.le_refl _, Nat.le_refl _, S0, Or.inl rfl, Or.inl rfl⟩
  case round =>
    clear S0
    obtain ⟨i, j, rfl, rfl, hai, hij, hjb, hg, S1, H1, H2⟩ := hrel
    by_cases hlt : i < j
    · have hltz : (i : Int) < (j : Int) := by omega
      obtain ⟨h, hh⟩ : ∃ h, h = (i + j) / 2 := ⟨_, rfl⟩
      have hhz : ((i : Int) + (j : Int)) / 2 = (h : Int) := by omega
      have hih : i ≤ h := by omega
      have hhj : h < j := by omega
      have hhd : (h : Int) < (d.size : Int) := by omega
      have had : (m : Int) < (d.size : Int) := by omega
      have HH := Lib.hid hh
      clear hh
      have lh := S1.out.ldb R P h (by omega)
      have la := S1.out.ldb R P m (by omega)
      obtain ⟨xh, hxh⟩ : ∃ x, d[h]! = x := ⟨_, rfl⟩
      obtain ⟨xa, hxa⟩ : ∃ x, d[m]! = x := ⟨_, rfl⟩
      have hcg := S1.out.cmpb R HC.out rfl xa xh
      have htg : ltT cf tg d[m]! d[h]! = ltOf cf d[m]! d[h]! := HP.out.tags_of (by omega) (by omega) (Nat.le_refl _) (by omega)
      rw [hxh] at lh htg
      rw [hxa] at la htg
      have HX : Hid (d[h]! = xh ∧ d[m]! = xa ∧ ltT cf tg xa xh = ltOf cf xa xh) := ⟨hxh, hxa, htg⟩
      clear hxh hxa htg
      by_cases hlv : ¬ cf xa xh < 0
      · have hlf : decide (cf xa xh < 0) = false := decide_eq_false hlv
        go_wp2_with fail
        refine wp_region_quiet_below (by assumption) (by kernel_rfl) ?_
        repeat (quiet_step (first | (go_at_fn g; refine Calls.regrown_of (hcg _ _))))
        refine wpQuiet_nil ?_
        intro _ hw'
        obtain ⟨⟨nq, osq⟩, hw''⟩ := hw'
        subst hw''
        go_wp2_with fail
        go_roundg (j - (h + 1))
        case measure => omega
        case rel => exact ⟨h + 1, j, by go_num, rfl, by omega, by omega, hjb, Nat.le_refl _, S1.out.regrown R nq osq, Or.inr (by show ltT cf tg d[m]! d[h + 1 - 1]! = false; rw [Nat.add_sub_cancel, HX.out.1, HX.out.2.1, HX.out.2.2]; exact decide_eq_false (by omega)), H2⟩
      · go_wp2_with fail
        refine wp_region_quiet_below (by assumption) (by kernel_rfl) ?_
        repeat (quiet_step (first | (go_at_fn g; refine Calls.regrown_of (hcg _ _))))
        refine wpQuiet_nil ?_
        intro _ hw'
        obtain ⟨⟨nq, osq⟩, hw''⟩ := hw'
        subst hw''
        go_wp2_with fail
        go_roundg (h - i)
        case measure => omega
        case rel => exact ⟨i, h, rfl, rfl, hai, hih, by omega, Nat.le_refl _, S1.out.regrown R nq osq, H1, Or.inr (by show ltT cf tg d[m]! d[h]! = true; rw [HX.out.1, HX.out.2.1, HX.out.2.2]; exact decide_eq_true (by omega))⟩
    · have hltz : ¬ (i : Int) < (j : Int) := by omega
      obtain rfl : i = j := by omega
      go_wp2
      go_loopg [17] (m - i) (fun g2 s17 wr2 => ∃ (q : Nat) (dk : Array α), s17 = .int .i64 q ∧ i ≤ q ∧ q ≤ m ∧ q - i ≤ g2 ∧ dk.size = d.size ∧ Aside (SWb enc k w0 blk off dk wr2) ∧ Aside (PermIn a (m + 1) d dk) ∧ Aside (Rot d q m (m + 1) dk))
      case atStart => exact ⟨m, d, rfl, by omega, Nat.le_refl _, by omega, rfl, S1, permIn_refl d a (m + 1), Rot.none d m m (m + 1) (by omega) (by omega) (.inl rfl)⟩
      case round =>
        clear S1
        obtain ⟨q, dk, rfl, hiq, hqm, hg2, hds, S2, HPm, HR⟩ := hrel
        by_cases hq : i < q
        · have hqz : (i : Int) < (q : Int) := by omega
          obtain ⟨r, rfl⟩ : ∃ r, q = r + 1 := ⟨q - 1, by omega⟩
          have hqz : (i : Int) < (r : Int) + 1 := by omega
          go_wp2_with fail
          have e1 : ((r : Int) + 1).toNat = r + 1 := by omega
          have p1 : (0 : Int) ≤ (r : Int) + 1 := by omega
          have b1 : (r : Int) + 1 < (d.size : Int) := by omega
          have b0 : (r : Int) < (d.size : Int) := by omega
          have r1 : IntKind.i64.wrap ((r : Int) + 1 - 1) = (r : Int) := by rw [IntKind.wrap_i64]; omega
          have r2 : IntKind.i64.wrap (r : Int) = (r : Int) := by rw [IntKind.wrap_i64]; omega
          have S3 : Aside _ := S2.out.swapped R (r + 1) r (by omega) (by omega)
          have la := S2.out.ld1 R P r (by omega)
          have lb := S2.out.ld1 R P (r + 1) (by omega)
          have sa := S2.out.st1 R P (r + 1) (by omega) dk[r]!
          have sb := S2.out.st2 R P (r + 1) r (by omega) (by omega) dk[r]! dk[r + 1]!
          have na : (enc dk[r + 1]!).length = k := R.hk _
          have nb : (enc dk[r]!).length = k := R.hk _
          generalize enc dk[r + 1]! = cI at S3 lb sb na
          generalize enc dk[r]! = cJ at S3 la sa sb nb
          clear S2
          go_wp2_with fail
          go_big_region_o
          clear la lb sa sb
          generalize (wr.drew.setCells blk (off + (r + 1) * k) cJ).setCells blk (off + r * k) cI = w2 at S3 ⊢
          go_wp2
          go_roundg (r - i)
          case measure => omega
          case rel => exact ⟨r, _, by first | rfl | go_num | (congr 1; omega), by omega, by omega, Nat.le_refl _, by rw [size_swp]; exact hds, S3, permIn_trans _ _ _ _ _ HPm.out (swp_permIn dk a (m + 1) (r + 1) r (by omega) (by omega) (by omega) (by omega) (by omega)), Rot.down hqm (by omega) HR.out⟩
        · have hqz : ¬ (i : Int) < (q : Int) := by omega
          obtain rfl : q = i := by omega
          go_wp2
          (try simp only [Exit.inBlock, Exit.then]); refine bodyPost_ret (results_none rfl _ _ _) rfl ?_
          exact ⟨rfl, dk, S2.out, HPm.out, right_done hT HP.out (by omega) (by omega) H1.out H2.out HR.out⟩
end
end Go.Proofs.Ytcicggpcmmnohaa
