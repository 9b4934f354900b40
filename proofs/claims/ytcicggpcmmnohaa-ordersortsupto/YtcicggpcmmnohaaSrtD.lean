/-
  slices.symMergeCmpFunc: one element alone on the left.
-/
import Derived.Test.YtcicggpcmmnohaaSrtB
import Derived.Test.YtcicggpcmmnohaaSrtC
namespace Go.Proofs.Ytcicggpcmmnohaa
open Go.Shelf Go.RowKit Go.Lib Go.Sort
set_option linter.unusedVariables false
section
variable {P : Program} {α : Type} [Inhabited α]

/-- What stands behind a turn by one place, its element brought behind all that are ahead of it. -/
theorem left_done {cf : α → α → Int} {tg : α → Nat} (hT : Tot cf) {d d' : Array α} {a b i : Nat} (p : Pre cf tg d a (a + 1) b) (h1 : a + 1 ≤ i) (h2 : i ≤ b) (c1 : i = a + 1 ∨ ltT cf tg d[i - 1]! d[a]! = true) (c2 : i = b ∨ ltT cf tg d[i]! d[a]! = false) (r : Rot d a (a + 1) i d') : SortedIn (ltT cf tg) a b d' := by
  have hS := hT.swo (tg := tg)
  have t := turned hT p (s := a) (e := i) ⟨Nat.le_refl _, Nat.le_succ _, h1, h2, .inl rfl, .inr c1⟩ r
  have hm : a + (i - (a + 1)) = i - 1 := by omega
  rw [hm] at t
  refine joined t.lo.r (joined t.hi.l t.hi.r fun x y k1 k2 k3 k4 => ?_) fun x y k1 k2 k3 k4 => t.cross x y k1 k2 k3 k4
  obtain rfl : x = i - 1 := by omega
  have e1 : d'[i - 1]! = d[a]! := by rw [r.get, if_neg (by omega), if_pos (by omega)]; congr 1; omega
  have e2 : d'[y]! = d[y]! := by rw [r.get, if_neg (by omega), if_neg (by omega)]
  have g : ltT cf tg d[i]! d[a]! = false := by rcases c2 with c | c <;> first | (exfalso; omega) | exact c
  rw [e1, e2]
  exact hS.ntrans _ _ _ (sorted_le hS p.r h1 k3 k4) g

set_option maxHeartbeats 4000000 in
set_option maxRecDepth 1000000 in
theorem mergeL_at (k : Nat) (L : LO P k) (enc : α → List Value) (cf : α → α → Int) (tg : α → Nat) (hT : Tot cf) (g : Nat) (cb : Array Value) (w0 : World) (blk off cap a b : Nat) (d : Array α) (w : World)
    (eg : ∀ args w, (callFunc g args).run P w = .ok (.enter g args) w) (R : RowB enc k w0 blk) (C : CmpB P g cb enc k cf w0 blk off d.size) (S : SWb enc k w0 blk off d w) (p : Pre cf tg d a (a + 1) b) (hab : a + 1 < b) (hsz : d.size < 4611686018427387904) :
    Calls P 74 #[.slice (some ⟨blk, off, none⟩) d.size cap, .int .i64 a, .int .i64 ((a : Int) + 1), .int .i64 b, .func (.func g) #[] cb] w fun e w' => e = .returned (.tuple #[]) ∧ ∃ d', SWb enc k w0 blk off d' w' ∧ PermIn a b d d' ∧ SortedIn (ltT cf tg) a b d' := by
  have mixed := L.mixed; have t0 := L.t0; have a0 := L.a0; have z0 := L.z0; have v0 := L.v0; have t3 := L.t3; have a3 := L.a3; have z3 := L.z3; have v3 := L.v3; have t4 := L.t4; have a4 := L.a4; have z4 := L.z4; have v4 := L.v4; have t57 := L.t57; have a57 := L.a57; have z57 := L.z57; have v57 := L.v57; have t61 := L.t61; have a61 := L.a61; have z61 := L.z61; have v61 := L.v61; have t93 := L.t93; have a93 := L.a93; have z93 := L.z93; have v93 := L.v93; have aE := L.aE; have zE := L.zE
  have u57 := run_underlying L.t57
  have hbd : b ≤ d.size := p.bs
  have HP : Aside (Pre cf tg d a (a + 1) b) := p
  have HC : Aside _ := C
  have S0 : Aside (SWb enc k w0 blk off d w) := S
  clear C S p
  have one : (((a : Int) + 1 - (a : Int)) == 1) = true := by simp; omega
  go_enter L.f74, Try.ntmps74
  go_wp2
  go_loopg [10, 11] (b - (a + 1)) (fun gg s10 s11 wr => ∃ (i j : Nat), s10 = .int .i64 i ∧ s11 = .int .i64 j ∧ a + 1 ≤ i ∧ i ≤ j ∧ j ≤ b ∧ j - i ≤ gg ∧ Aside (SWb enc k w0 blk off d wr) ∧ Hid (i = a + 1 ∨ ltT cf tg d[i - 1]! d[a]! = true) ∧ Hid (j = b ∨ ltT cf tg d[j]! d[a]! = false))
  case atStart => exact ⟨a + 1, b, by go_num, rfl, Nat.le_refl _, by omega, Nat.le_refl _, Nat.le_refl _, S0, Or.inl rfl, Or.inl rfl⟩
  case round =>
    clear S0
    obtain ⟨i, j, rfl, rfl, hai, hij, hjb, hg, S1, H1, H2⟩ := hrel
    by_cases hlt : i < j
    · have hltz : (i : Int) < (j : Int) := by omega
      obtain ⟨h, hh⟩ : ∃ h, h = (i + j) / 2 := ⟨_, rfl⟩
      have hhz : ((i : Int) + (j : Int)) / 2 = (h : Int) := by omega
      have hih : i ≤ h := by omega
      have hhj : h < j := by omega
      have hhd : (h : Int) < (d.size : Int) := by omega
      have had : (a : Int) < (d.size : Int) := by omega
      have HH := Lib.hid hh
      clear hh
      have lh := S1.out.ldb R P h (by omega)
      have la := S1.out.ldb R P a (by omega)
      obtain ⟨xh, hxh⟩ : ∃ x, d[h]! = x := ⟨_, rfl⟩
      obtain ⟨xa, hxa⟩ : ∃ x, d[a]! = x := ⟨_, rfl⟩
      have hcg := S1.out.cmpb R HC.out rfl xh xa
      have htg : ltT cf tg d[h]! d[a]! = ltOf cf d[h]! d[a]! := HP.out.tags_of (Nat.le_refl _) (by omega) (by omega) (by omega)
      rw [hxh] at lh htg
      rw [hxa] at la htg
      have HX : Hid (d[h]! = xh ∧ d[a]! = xa ∧ ltT cf tg xh xa = ltOf cf xh xa) := ⟨hxh, hxa, htg⟩
      clear hxh hxa htg
      by_cases hlv : cf xh xa < 0
      · go_wp2_with fail
        refine wp_region_quiet_below (by assumption) (by kernel_rfl) ?_
        repeat (quiet_step (first | (go_at_fn g; refine Calls.regrown_of (hcg _ _))))
        refine wpQuiet_nil ?_
        intro _ hw'
        obtain ⟨⟨nq, osq⟩, hw''⟩ := hw'
        subst hw''
        go_wp2_with fail
        go_roundg (j - (h + 1))
        case measure => omega
        case rel => exact ⟨h + 1, j, by go_num, rfl, by omega, by omega, hjb, Nat.le_refl _, S1.out.regrown R nq osq, Or.inr (by show ltT cf tg d[h + 1 - 1]! d[a]! = true; rw [Nat.add_sub_cancel, HX.out.1, HX.out.2.1, HX.out.2.2]; exact decide_eq_true hlv), H2⟩
      · go_wp2_with fail
        refine wp_region_quiet_below (by assumption) (by kernel_rfl) ?_
        repeat (quiet_step (first | (go_at_fn g; refine Calls.regrown_of (hcg _ _))))
        refine wpQuiet_nil ?_
        intro _ hw'
        obtain ⟨⟨nq, osq⟩, hw''⟩ := hw'
        subst hw''
        go_wp2_with fail
        go_roundg (h - i)
        case measure => omega
        case rel => exact ⟨i, h, rfl, rfl, hai, hih, by omega, Nat.le_refl _, S1.out.regrown R nq osq, H1, Or.inr (by show ltT cf tg d[h]! d[a]! = false; rw [HX.out.1, HX.out.2.1, HX.out.2.2]; exact decide_eq_false (by omega))⟩
    · have hltz : ¬ (i : Int) < (j : Int) := by omega
      obtain rfl : i = j := by omega
      go_wp2
      go_loopg [13] (i - a) (fun g2 s13 wr2 => ∃ (q : Nat) (dk : Array α), s13 = .int .i64 q ∧ a ≤ q ∧ q + 1 ≤ i ∧ i - q ≤ g2 ∧ dk.size = d.size ∧ Aside (SWb enc k w0 blk off dk wr2) ∧ Aside (PermIn a b d dk) ∧ Aside (Rot d a (a + 1) (q + 1) dk))
      case atStart => exact ⟨a, d, rfl, Nat.le_refl _, hai, Nat.le_refl _, rfl, S1, permIn_refl d a b, Rot.none d a (a + 1) (a + 1) (by omega) (by omega) (.inr rfl)⟩
      case round =>
        clear S1
        obtain ⟨q, dk, rfl, haq, hqi, hg2, hds, S2, HPm, HR⟩ := hrel
        by_cases hq : q < i - 1
        · have hqz : (q : Int) < (i : Int) - 1 := by omega
          go_wp2_with fail
          have e1 : ((q : Int) + 1).toNat = q + 1 := by omega
          have p1 : (0 : Int) ≤ (q : Int) + 1 := by omega
          have b1 : (q : Int) + 1 < (d.size : Int) := by omega
          have b0 : (q : Int) < (d.size : Int) := by omega
          have r1 : IntKind.i64.wrap ((q : Int) + 1) = (q : Int) + 1 := by rw [IntKind.wrap_i64]; omega
          have S3 : Aside _ := S2.out.swapped R q (q + 1) (by omega) (by omega)
          have la := S2.out.ld1 R P q (by omega)
          have lb := S2.out.ld1 R P (q + 1) (by omega)
          have sa := S2.out.st1 R P q (by omega) dk[q + 1]!
          have sb := S2.out.st2 R P q (q + 1) (by omega) (by omega) dk[q + 1]! dk[q]!
          have na : (enc dk[q]!).length = k := R.hk _
          have nb : (enc dk[q + 1]!).length = k := R.hk _
          generalize enc dk[q]! = cI at S3 la sb na
          generalize enc dk[q + 1]! = cJ at S3 lb sa sb nb
          clear S2
          go_wp2_with fail
          go_big_region_o
          clear la lb sa sb
          generalize (wr.drew.setCells blk (off + q * k) cJ).setCells blk (off + (q + 1) * k) cI = w2 at S3 ⊢
          go_wp2
          go_roundg (i - (q + 1))
          case measure => omega
          case rel => exact ⟨q + 1, _, by go_num, by omega, by omega, Nat.le_refl _, by rw [size_swp]; exact hds, S3, permIn_trans _ _ _ _ _ HPm.out (swp_permIn dk a b q (q + 1) (by omega) (by omega) (by omega) (by omega) (by omega)), Rot.up haq (by omega) HR.out⟩
        · have hqz : ¬ (q : Int) < (i : Int) - 1 := by omega
          obtain rfl : i = q + 1 := by omega
          go_wp2
          try rw [Exit.noGoto_ret]
          (try simp only [Exit.inBlock, Exit.then]); refine bodyPost_ret (results_none rfl _ _ _) rfl ?_
          exact ⟨rfl, dk, S2.out, HPm.out, left_done hT HP.out hai hjb H1.out H2.out HR.out⟩
end
end Go.Proofs.Ytcicggpcmmnohaa
