/-
  slices.symMergeCmpFunc: one element alone on the right.
-/
import Derived.Test.YtnkfjomnpnbidaaZSrtAn2
import Derived.Test.YtnkfjomnpnbidaaZSrtMn3
namespace Go.Proofs.Ytnkfjomnpnbidaa
open Go.Shelf Go.RowKit Go.Lib Go.Sort
set_option linter.unusedVariables false
section
variable {P : Program} {α : Type} [Inhabited α]

/-- What stands behind a turn by one place, its element brought ahead of all that are behind it. -/
theorem right_done {cf : α → α → Int} {tg : α → Nat} (hT : Tot cf) {d d' : Array α} {a m i : Nat} (p : Pre cf tg d a m (m + 1)) (h1 : a ≤ i) (h2 : i ≤ m) (c1 : i = a ∨ ltT cf tg d[m]! d[i - 1]! = false) (c2 : i = m ∨ ltT cf tg d[m]! d[i]! = true) (r : Rot d i m (m + 1) d') : SortedIn (ltT cf tg) a (m + 1) d' := by
  have hS := hT.swo (tg := tg)
  have t := turned hT p (s := i) (e := m + 1) ⟨h1, h2, Nat.le_succ _, Nat.le_refl _, .inr (.inl rfl), c2.imp id .inr⟩ r
  have hm : i + (m + 1 - m) = i + 1 := by omega
  rw [hm] at t
  refine joined (joined t.lo.l t.lo.r fun x y k1 k2 k3 k4 => ?_) t.hi.l fun x y k1 k2 k3 k4 => t.cross x y k1 k2 k3 k4
  obtain rfl : y = i := by omega
  have e1 : d'[y]! = d[m]! := by rw [r.get, if_pos (by omega)]; congr 1; omega
  have e2 : d'[x]! = d[x]! := by rw [r.get, if_neg (by omega), if_neg (by omega)]
  have g : ltT cf tg d[m]! d[y - 1]! = false := by rcases c1 with c | c <;> first | (exfalso; omega) | exact c
  rw [e1, e2]
  exact hS.ntrans _ _ _ g (sorted_le hS p.l k1 (by omega) (by omega))

set_option maxHeartbeats 4000000 in
set_option maxRecDepth 1000000 in
theorem mergeR_at (k : Nat) (L : LO P k) (enc : α → List Value) (cf : α → α → Int) (tg : α → Nat) (hT : Tot cf) (g : Nat) (cb : Array Value) (w0 : World) (blk off cap a m : Nat) (d : Array α) (w : World)
    (eg : ∀ args w, (callFunc g args).run P w = .ok (.enter g args) w) (R : RowB enc k w0 blk) (C : CmpB P g cb enc k cf w0 blk off d.size) (S : SWb enc k w0 blk off d w) (p : Pre cf tg d a m (m + 1)) (hab : a + 1 < m) (hsz : d.size < 4611686018427387904) :
    Calls P 74 #[.slice (some ⟨blk, off, none⟩) d.size cap, .int .i64 a, .int .i64 m, .int .i64 ((m : Int) + 1), .func (.func g) #[] cb] w fun e w' => e = .returned (.tuple #[]) ∧ ∃ d', SWb enc k w0 blk off d' w' ∧ PermIn a (m + 1) d d' ∧ SortedIn (ltT cf tg) a (m + 1) d' := by
  have mixed := L.mixed; have t0 := L.t0; have a0 := L.a0; have z0 := L.z0; have v0 := L.v0; have t3 := L.t3; have a3 := L.a3; have z3 := L.z3; have v3 := L.v3; have t4 := L.t4; have a4 := L.a4; have z4 := L.z4; have v4 := L.v4; have t57 := L.t57; have a57 := L.a57; have z57 := L.z57; have v57 := L.v57; have t61 := L.t61; have a61 := L.a61; have z61 := L.z61; have v61 := L.v61; have t93 := L.t93; have a93 := L.a93; have z93 := L.z93; have v93 := L.v93; have aE := L.aE; have zE := L.zE
  have u57 := run_underlying L.t57
  have hbd : m + 1 ≤ d.size := p.bs
  have HP : Aside (Pre cf tg d a m (m + 1)) := p
  have HC : Aside _ := C
  have S0 : Aside (SWb enc k w0 blk off d w) := S
  clear C S p
  have one : (((m : Int) + 1 - (m : Int)) == 1) = true := by simp; omega
  have two : (((m : Int) - (a : Int)) == 1) = false := beq_eq_false_iff_ne.2 (by omega)
  go_enter L.f74, Try.ntmps74
  go_wp2
  go_loopg [14, 15] (m - a) (fun gg s10 s11 wr => ∃ (i j : Nat), s10 = .int .i64 i ∧ s11 = .int .i64 j ∧ a ≤ i ∧ i ≤ j ∧ j ≤ m ∧ j - i ≤ gg ∧ Aside (SWb enc k w0 blk off d wr) ∧ Hid (i = a ∨ ltT cf tg d[m]! d[i - 1]! = false) ∧ Hid (j = m ∨ ltT cf tg d[m]! d[j]! = true))
  case atStart => exact ⟨a, m, rfl, rfl, Nat.le_refl _, by omega, Nat.le_refl _, Nat.le_refl _, S0, Or.inl rfl, Or.inl rfl⟩
  case round =>
    clear S0
    obtain ⟨i, j, rfl, rfl, hai, hij, hjb, hg, S1, H1, H2⟩ := hrel
    by_cases hlt : i < j
    · have hltz : (i : Int) < (j : Int) := by omega
      obtain ⟨h, hh⟩ : ∃ h, h = (i + j) / 2 := ⟨_, rfl⟩
      have hhz : ((i : Int) + (j : Int)) / 2 = (h : Int) := by omega
      have hih : i ≤ h := by omega
      have hhj : h < j := by omega
      have hhd : (h : Int) < (d.size : Int) := by omega
      have had : (m : Int) < (d.size : Int) := by omega
      have HH := Lib.hid hh
      clear hh
      have lh := S1.out.ldb R P h (by omega)
      have la := S1.out.ldb R P m (by omega)
      obtain ⟨xh, hxh⟩ : ∃ x, d[h]! = x := ⟨_, rfl⟩
      obtain ⟨xa, hxa⟩ : ∃ x, d[m]! = x := ⟨_, rfl⟩
      have hcg := S1.out.cmpb R HC.out rfl xa xh
      have htg : ltT cf tg d[m]! d[h]! = ltOf cf d[m]! d[h]! := HP.out.tags_of (by omega) (by omega) (Nat.le_refl _) (by omega)
      rw [hxh] at lh htg
      rw [hxa] at la htg
      have HX : Hid (d[h]! = xh ∧ d[m]! = xa ∧ ltT cf tg xa xh = ltOf cf xa xh) := ⟨hxh, hxa, htg⟩
      clear hxh hxa htg
      by_cases hlv : ¬ cf xa xh < 0
      · have hlf : decide (cf xa xh < 0) = false := decide_eq_false hlv
        go_wp2_with fail
        refine wp_region_quiet_below (by assumption) (by kernel_rfl) ?_
        repeat (quiet_step (first | (go_at_fn g; refine Calls.regrown_of (hcg _ _))))
        refine wpQuiet_nil ?_
        intro _ hw'
        obtain ⟨⟨nq, osq⟩, hw''⟩ := hw'
        subst hw''
        go_wp2_with fail
        go_roundg (j - (h + 1))
        case measure => omega
        case rel => exact ⟨h + 1, j, by go_num, rfl, by omega, by omega, hjb, Nat.le_refl _, S1.out.regrown R nq osq, Or.inr (by show ltT cf tg d[m]! d[h + 1 - 1]! = false; rw [Nat.add_sub_cancel, HX.out.1, HX.out.2.1, HX.out.2.2]; exact decide_eq_false (by omega)), H2⟩
      · go_wp2_with fail
        refine wp_region_quiet_below (by assumption) (by kernel_rfl) ?_
        repeat (quiet_step (first | (go_at_fn g; refine Calls.regrown_of (hcg _ _))))
        refine wpQuiet_nil ?_
        intro _ hw'
        obtain ⟨⟨nq, osq⟩, hw''⟩ := hw'
        subst hw''
        go_wp2_with fail
        go_roundg (h - i)
        case measure => omega
        case rel => exact ⟨i, h, rfl, rfl, hai, hih, by omega, Nat.le_refl _, S1.out.regrown R nq osq, H1, Or.inr (by show ltT cf tg d[m]! d[h]! = true; rw [HX.out.1, HX.out.2.1, HX.out.2.2]; exact decide_eq_true (by omega))⟩
    · have hltz : ¬ (i : Int) < (j : Int) := by omega
      obtain rfl : i = j := by omega
      go_wp2
      go_loopg [17] (m - i) (fun g2 s17 wr2 => ∃ (q : Nat) (dk : Array α), s17 = .int .i64 q ∧ i ≤ q ∧ q ≤ m ∧ q - i ≤ g2 ∧ dk.size = d.size ∧ Aside (SWb enc k w0 blk off dk wr2) ∧ Aside (PermIn a (m + 1) d dk) ∧ Aside (Rot d q m (m + 1) dk))
      case atStart => exact ⟨m, d, rfl, by omega, Nat.le_refl _, by omega, rfl, S1, permIn_refl d a (m + 1), Rot.none d m m (m + 1) (by omega) (by omega) (.inl rfl)⟩
      case round =>
        clear S1
        obtain ⟨q, dk, rfl, hiq, hqm, hg2, hds, S2, HPm, HR⟩ := hrel
        by_cases hq : i < q
        · have hqz : (i : Int) < (q : Int) := by omega
          obtain ⟨r, rfl⟩ : ∃ r, q = r + 1 := ⟨q - 1, by omega⟩
          have hqz : (i : Int) < (r : Int) + 1 := by omega
          go_wp2_with fail
          have e1 : ((r : Int) + 1).toNat = r + 1 := by omega
          have p1 : (0 : Int) ≤ (r : Int) + 1 := by omega
          have b1 : (r : Int) + 1 < (d.size : Int) := by omega
          have b0 : (r : Int) < (d.size : Int) := by omega
          have r1 : IntKind.i64.wrap ((r : Int) + 1 - 1) = (r : Int) := by rw [IntKind.wrap_i64]; omega
          have r2 : IntKind.i64.wrap (r : Int) = (r : Int) := by rw [IntKind.wrap_i64]; omega
          have S3 : Aside _ := S2.out.swapped R (r + 1) r (by omega) (by omega)
          have la := S2.out.ld1 R P r (by omega)
          have lb := S2.out.ld1 R P (r + 1) (by omega)
          have sa := S2.out.st1 R P (r + 1) (by omega) dk[r]!
          have sb := S2.out.st2 R P (r + 1) r (by omega) (by omega) dk[r]! dk[r + 1]!
          have na : (enc dk[r + 1]!).length = k := R.hk _
          have nb : (enc dk[r]!).length = k := R.hk _
          generalize enc dk[r + 1]! = cI at S3 lb sb na
          generalize enc dk[r]! = cJ at S3 la sa sb nb
          clear S2
          go_wp2_with fail
          go_big_region_o
          clear la lb sa sb
          generalize (wr.drew.setCells blk (off + (r + 1) * k) cJ).setCells blk (off + r * k) cI = w2 at S3 ⊢
          go_wp2
          go_roundg (r - i)
          case measure => omega
          case rel => exact ⟨r, _, by first | rfl | go_num | (congr 1; omega), by omega, by omega, Nat.le_refl _, by rw [size_swp]; exact hds, S3, permIn_trans _ _ _ _ _ HPm.out (swp_permIn dk a (m + 1) (r + 1) r (by omega) (by omega) (by omega) (by omega) (by omega)), Rot.down hqm (by omega) HR.out⟩
        · have hqz : ¬ (i : Int) < (q : Int) := by omega
          obtain rfl : q = i := by omega
          go_wp2
          (try simp only [Exit.inBlock, Exit.then]); refine bodyPost_ret (results_none rfl _ _ _) rfl ?_
          exact ⟨rfl, dk, S2.out, HPm.out, right_done hT HP.out (by omega) (by omega) H1.out H2.out HR.out⟩
end
end Go.Proofs.Ytnkfjomnpnbidaa

namespace Go.Proofs.Ytnkfjomnpnbidaa
open Go.Shelf Go.RowKit Go.Lib Go.Sort
set_option linter.unusedVariables false

def seqSnd : Code → Code
  | .seq _ b => b
  | c => c
noncomputable def tailOne : Code := seqSnd (seqSnd (seqSnd (seqSnd (seqSnd (seqSnd (seqSnd (seqSnd (seqSnd ((Try.f74.body).getD .skip)))))))))
noncomputable def tailTwo : Code := seqSnd tailOne
noncomputable def tailThree : Code := seqSnd tailTwo
section
variable {P : Program} {α : Type} [Inhabited α]

theorem Pre.same {cf : α → α → Int} {tg : α → Nat} {d1 d2 : Array α} {a mid e b : Nat} (p : Pre cf tg d1 mid e b) (h : PermIn a mid d1 d2) : Pre cf tg d2 mid e b := by
  obtain ⟨h1, h2, h3, h4, h5, h6⟩ := p
  refine ⟨h1, h2, by rw [h.1]; exact h3, fun i j k1 k2 k3 => ?_, fun i j k1 k2 k3 => ?_, fun i j k1 k2 k3 k4 => ?_⟩
  · rw [h.2.1 i (by omega), h.2.1 j (by omega)]; exact h4 i j k1 k2 k3
  · rw [h.2.1 i (by omega), h.2.1 j (by omega)]; exact h5 i j k1 k2 k3
  · rw [h.2.1 i (by omega), h.2.1 j (by omega)]; exact h6 i j k1 k2 k3 k4
/-- What the merge of two parts does, of at most N elements. -/
def MergeSays (P : Program) (k : Nat) (enc : α → List Value) (cf : α → α → Int) (tg : α → Nat) (g : Nat) (cb : Array Value) (w0 : World) (blk off cap n N : Nat) : Prop :=
  ∀ (a m b : Nat) (d : Array α) (w : World), SWb enc k w0 blk off d w → Pre cf tg d a m b → a < m → m < b → b - a ≤ N → d.size = n →
    Calls P 74 #[.slice (some ⟨blk, off, none⟩) n cap, .int .i64 a, .int .i64 m, .int .i64 b, .func (.func g) #[] cb] w fun e w' => e = .returned (.tuple #[]) ∧ ∃ d', SWb enc k w0 blk off d' w' ∧ PermIn a b d d' ∧ SortedIn (ltT cf tg) a b d'

set_option maxHeartbeats 8000000 in
set_option maxRecDepth 1000000 in
theorem tail_three (k : Nat) (L : LO P k) (enc : α → List Value) (cf : α → α → Int) (tg : α → Nat) (g : Nat) (cb : Array Value) (w0 : World) (blk off cap a m b s e mid : Nat) (d d2 : Array α) (wr : World)
    (N : Nat) (ih : MergeSays P k enc cf tg g cb w0 blk off cap d.size N) (hN : b - mid ≤ N) (hd2 : d2.size = d.size) (S : SWb enc k w0 blk off d2 wr) (p : Pre cf tg d2 mid e b) (Q : Exit → Act → World → Prop)
    (u5 u6 u7 u8 u9 u10 u11 u12 u13 u14 u15 u16 u17 u19 u21 u22 u23 u25 u26 u27 u28 u29 u30 u31 u32 u33 u34 u35 u36 u37 u38 u39 u40 u41 u42 u43 u44 u45 u46 u47 u48 u49 u50 u51 u52 u53 u54 u55 u56 u57 u58 u59 u60 u61 u62 u63 u64 u65 u66 u67 u68 u69 u70 u71 u72 u73 u74 u75 u76 u77 u78 u79 u80 u81 u82 u83 u84 u85 u86 u87 u88 u89 u90 u91 u92 u93 u94 u95 u96 u97 u98 u99 u100 u101 u102 u103 u104 u105 u106 u107 u108 u109 u110 u111 u112 u113 u114 u115 u116 u117 u118 u119 u120 u121 u122 u123 u124 u125 u126 u127 u128 u129 u130 u131 u132 u133 u134 u135 u136 u137 u138 u139 u140 u141 u142 u143 u144 u145 u146 u147 u148 u149 u150 u151 u152 u153 u154 u155 u156 u157 u158 u159 u160 u161 u162 u163 u164 u165 u166 u167 u168 u169 u170 u171 u172 u173 u174 u175 u176 u177 u178 u179 u180 u181 u182 u183 u184 u185 u186 u187 u188 u189 u190 u191 u192 u193 u194 u195 u196 u197 u198 u199 u200 u201 u202 u203 u204 u205 u206 u207 u208 u209 u210 u211 u212 u213 u214 u215 u216 u217 u218 u219 : Value)
    (hQ : ∀ (A : Act) (w' : World), A.defers = [] → (∃ d3, SWb enc k w0 blk off d3 w' ∧ PermIn mid b d2 d3 ∧ SortedIn (ltT cf tg) mid b d3) → Q .normal A w') :
    Code.wp P tailThree Q ⟨#[.slice (some ⟨blk, off, none⟩) d.size cap, .int .i64 a, .int .i64 m, .int .i64 b, .func (.func g) #[] cb, u5, u6, u7, u8, u9, u10, u11, u12, u13, u14, u15, u16, u17, .int .i64 mid, u19, .int .i64 s, u21, u22, u23, .int .i64 e, u25, u26, u27, u28, u29, u30, u31, u32, u33, u34, u35, u36, u37, u38, u39, u40, u41, u42, u43, u44, u45, u46, u47, u48, u49, u50, u51, u52, u53, u54, u55, u56, u57, u58, u59, u60, u61, u62, u63, u64, u65, u66, u67, u68, u69, u70, u71, u72, u73, u74, u75, u76, u77, u78, u79, u80, u81, u82, u83, u84, u85, u86, u87, u88, u89, u90, u91, u92, u93, u94, u95, u96, u97, u98, u99, u100, u101, u102, u103, u104, u105, u106, u107, u108, u109, u110, u111, u112, u113, u114, u115, u116, u117, u118, u119, u120, u121, u122, u123, u124, u125, u126, u127, u128, u129, u130, u131, u132, u133, u134, u135, u136, u137, u138, u139, u140, u141, u142, u143, u144, u145, u146, u147, u148, u149, u150, u151, u152, u153, u154, u155, u156, u157, u158, u159, u160, u161, u162, u163, u164, u165, u166, u167, u168, u169, u170, u171, u172, u173, u174, u175, u176, u177, u178, u179, u180, u181, u182, u183, u184, u185, u186, u187, u188, u189, u190, u191, u192, u193, u194, u195, u196, u197, u198, u199, u200, u201, u202, u203, u204, u205, u206, u207, u208, u209, u210, u211, u212, u213, u214, u215, u216, u217, u218, u219], []⟩ wr := by
  have mixed := L.mixed; have t0 := L.t0; have a0 := L.a0; have z0 := L.z0; have v0 := L.v0; have t3 := L.t3; have a3 := L.a3; have z3 := L.z3; have v3 := L.v3; have t4 := L.t4; have a4 := L.a4; have z4 := L.z4; have v4 := L.v4; have t57 := L.t57; have a57 := L.a57; have z57 := L.z57; have v57 := L.v57; have t61 := L.t61; have a61 := L.a61; have z61 := L.z61; have v61 := L.v61
  have e74 : ∀ args w, (callFunc 74 args).run P w = .ok (.enter 74 args) w := enters_of L.f74 (by kernel_rfl) rfl
  have IH : Aside _ := ih
  have S0 : Aside _ := S
  have P0 := Lib.hid p
  have HQ : Aside _ := hQ
  have hme := p.am
  have heb := p.mb
  clear ih S p hQ
  conv => arg 2; whnf
  by_cases c1 : mid < e
  · have c1z : (mid : Int) < (e : Int) := by omega
    by_cases c2 : e < b
    · have c2z : (e : Int) < (b : Int) := by omega
      have hrec := IH.out mid e b d2 _ S0.out P0.out c1 c2 hN hd2
      clear IH S0
      go_wp2_with (go_at_fn 74; refine hrec.mono ?_; clear hrec; rintro e' w2 ⟨rfl, d3, S4, hp, hs⟩)
      exact HQ.out _ _ rfl ⟨d3, S4, hp, hs⟩
    · have c2z : ¬ (e : Int) < (b : Int) := by omega
      have hE := Lib.hid (show e = b by omega)
      go_wp2_with fail
      exact HQ.out _ _ rfl ⟨d2, S0.out, permIn_refl d2 mid b, by have t := P0.out.l; rw [hE.out] at t; exact t⟩
  · have c1z : ¬ (mid : Int) < (e : Int) := by omega
    have hE := Lib.hid (show e = mid by omega)
    go_wp2_with fail
    exact HQ.out _ _ rfl ⟨d2, S0.out, permIn_refl d2 mid b, by have t := P0.out.r; rw [hE.out] at t; exact t⟩

set_option maxHeartbeats 8000000 in
set_option maxRecDepth 1000000 in
theorem tail_two (k : Nat) (L : LO P k) (enc : α → List Value) (cf : α → α → Int) (tg : α → Nat) (g : Nat) (cb : Array Value) (w0 : World) (blk off cap a m b s e mid : Nat) (d d1 : Array α) (wr : World)
    (N : Nat) (ih : MergeSays P k enc cf tg g cb w0 blk off cap d.size N) (hN : b - mid ≤ N) (hN2 : mid - a ≤ N) (hd1 : d1.size = d.size) (S : SWb enc k w0 blk off d1 wr) (p : Turned cf tg d1 a s mid e b) (Q : Exit → Act → World → Prop)
    (u5 u6 u7 u8 u9 u10 u11 u12 u13 u14 u15 u16 u17 u19 u21 u22 u23 u25 u26 u27 u28 u29 u30 u31 u32 u33 u34 u35 u36 u37 u38 u39 u40 u41 u42 u43 u44 u45 u46 u47 u48 u49 u50 u51 u52 u53 u54 u55 u56 u57 u58 u59 u60 u61 u62 u63 u64 u65 u66 u67 u68 u69 u70 u71 u72 u73 u74 u75 u76 u77 u78 u79 u80 u81 u82 u83 u84 u85 u86 u87 u88 u89 u90 u91 u92 u93 u94 u95 u96 u97 u98 u99 u100 u101 u102 u103 u104 u105 u106 u107 u108 u109 u110 u111 u112 u113 u114 u115 u116 u117 u118 u119 u120 u121 u122 u123 u124 u125 u126 u127 u128 u129 u130 u131 u132 u133 u134 u135 u136 u137 u138 u139 u140 u141 u142 u143 u144 u145 u146 u147 u148 u149 u150 u151 u152 u153 u154 u155 u156 u157 u158 u159 u160 u161 u162 u163 u164 u165 u166 u167 u168 u169 u170 u171 u172 u173 u174 u175 u176 u177 u178 u179 u180 u181 u182 u183 u184 u185 u186 u187 u188 u189 u190 u191 u192 u193 u194 u195 u196 u197 u198 u199 u200 u201 u202 u203 u204 u205 u206 u207 u208 u209 u210 u211 u212 u213 u214 u215 u216 u217 u218 u219 : Value)
    (hQ : ∀ (A : Act) (w' : World), A.defers = [] → (∃ d3, SWb enc k w0 blk off d3 w' ∧ PermIn a b d1 d3 ∧ SortedIn (ltT cf tg) a b d3) → Q .normal A w') :
    Code.wp P tailTwo Q ⟨#[.slice (some ⟨blk, off, none⟩) d.size cap, .int .i64 a, .int .i64 m, .int .i64 b, .func (.func g) #[] cb, u5, u6, u7, u8, u9, u10, u11, u12, u13, u14, u15, u16, u17, .int .i64 mid, u19, .int .i64 s, u21, u22, u23, .int .i64 e, u25, u26, u27, u28, u29, u30, u31, u32, u33, u34, u35, u36, u37, u38, u39, u40, u41, u42, u43, u44, u45, u46, u47, u48, u49, u50, u51, u52, u53, u54, u55, u56, u57, u58, u59, u60, u61, u62, u63, u64, u65, u66, u67, u68, u69, u70, u71, u72, u73, u74, u75, u76, u77, u78, u79, u80, u81, u82, u83, u84, u85, u86, u87, u88, u89, u90, u91, u92, u93, u94, u95, u96, u97, u98, u99, u100, u101, u102, u103, u104, u105, u106, u107, u108, u109, u110, u111, u112, u113, u114, u115, u116, u117, u118, u119, u120, u121, u122, u123, u124, u125, u126, u127, u128, u129, u130, u131, u132, u133, u134, u135, u136, u137, u138, u139, u140, u141, u142, u143, u144, u145, u146, u147, u148, u149, u150, u151, u152, u153, u154, u155, u156, u157, u158, u159, u160, u161, u162, u163, u164, u165, u166, u167, u168, u169, u170, u171, u172, u173, u174, u175, u176, u177, u178, u179, u180, u181, u182, u183, u184, u185, u186, u187, u188, u189, u190, u191, u192, u193, u194, u195, u196, u197, u198, u199, u200, u201, u202, u203, u204, u205, u206, u207, u208, u209, u210, u211, u212, u213, u214, u215, u216, u217, u218, u219], []⟩ wr := by
  have mixed := L.mixed; have t0 := L.t0; have a0 := L.a0; have z0 := L.z0; have v0 := L.v0; have t3 := L.t3; have a3 := L.a3; have z3 := L.z3; have v3 := L.v3; have t4 := L.t4; have a4 := L.a4; have z4 := L.z4; have v4 := L.v4; have t57 := L.t57; have a57 := L.a57; have z57 := L.z57; have v57 := L.v57; have t61 := L.t61; have a61 := L.a61; have z61 := L.z61; have v61 := L.v61
  have e74 : ∀ args w, (callFunc 74 args).run P w = .ok (.enter 74 args) w := enters_of L.f74 (by kernel_rfl) rfl
  have IH : Aside _ := ih
  have S0 : Aside _ := S
  have P0 := Lib.hid p
  have HQ : Aside _ := hQ
  have has := p.lo.am
  have hsm := p.lo.mb
  have HN := Lib.hid (And.intro hN hd1)
  clear ih S p hQ hN
  conv => arg 2; whnf
  refine wp_seq_k fun K hK => ?_
  have HK : Aside _ := hK
  clear hK
  have fin : ∀ (d2 : Array α) (w' : World), PermIn a mid d1 d2 → SortedIn (ltT cf tg) a mid d2 → ∀ (A : Act) (w2 : World), A.defers = [] → (∃ d3, SWb enc k w0 blk off d3 w2 ∧ PermIn mid b d2 d3 ∧ SortedIn (ltT cf tg) mid b d3) → Q .normal A w2 := fun d2 w' hp hs A w2 hA ⟨d3, S3, hp3, hs3⟩ => by
    have hm := merged (d := d1) P0.out hp hs hp3 hs3
    exact HQ.out A w2 hA ⟨d3, S3, hm.1, hm.2⟩
  have FIN : Aside _ := fin
  clear fin
  by_cases c1 : a < s
  · have c1z : (a : Int) < (s : Int) := by omega
    by_cases c2 : s < mid
    · have c2z : (s : Int) < (mid : Int) := by omega
      have hrec := IH.out a s mid d1 _ S0.out P0.out.lo c1 c2 hN2 HN.out.2
      clear S0
      go_wp2_with (go_at_fn 74; refine hrec.mono ?_; clear hrec; rintro e' w2 ⟨rfl, d2, S4, hp, hs⟩)
      refine HK.out _ _ ?_
      exact tail_three k L enc cf tg g cb w0 blk off cap a m b s e mid d d2 w2 N IH.out HN.out.1 (hp.1.trans HN.out.2) S4 (Pre.same P0.out.hi hp) Q _ _ _ _ _ _ _ _ _ _ _ _ _ _ _ _ _ _ _ _ _ _ _ _ _ _ _ _ _ _ _ _ _ _ _ _ _ _ _ _ _ _ _ _ _ _ _ _ _ _ _ _ _ _ _ _ _ _ _ _ _ _ _ _ _ _ _ _ _ _ _ _ _ _ _ _ _ _ _ _ _ _ _ _ _ _ _ _ _ _ _ _ _ _ _ _ _ _ _ _ _ _ _ _ _ _ _ _ _ _ _ _ _ _ _ _ _ _ _ _ _ _ _ _ _ _ _ _ _ _ _ _ _ _ _ _ _ _ _ _ _ _ _ _ _ _ _ _ _ _ _ _ _ _ _ _ _ _ _ _ _ _ _ _ _ _ _ _ _ _ _ _ _ _ _ _ _ _ _ _ _ _ _ _ _ _ _ _ _ _ _ _ _ _ _ _ _ _ _ _ _ _ _ _ _ _ _ _ _ _ _ _ (FIN.out d2 w2 hp hs)
    · have c2z : ¬ (s : Int) < (mid : Int) := by omega
      have hE := Lib.hid (show s = mid by omega)
      go_wp2_with fail
      refine HK.out _ _ ?_
      exact tail_three k L enc cf tg g cb w0 blk off cap a m b s e mid d d1 wr N IH.out HN.out.1 HN.out.2 S0.out P0.out.hi Q _ _ _ _ _ _ _ _ _ _ _ _ _ _ _ _ _ _ _ _ _ _ _ _ _ _ _ _ _ _ _ _ _ _ _ _ _ _ _ _ _ _ _ _ _ _ _ _ _ _ _ _ _ _ _ _ _ _ _ _ _ _ _ _ _ _ _ _ _ _ _ _ _ _ _ _ _ _ _ _ _ _ _ _ _ _ _ _ _ _ _ _ _ _ _ _ _ _ _ _ _ _ _ _ _ _ _ _ _ _ _ _ _ _ _ _ _ _ _ _ _ _ _ _ _ _ _ _ _ _ _ _ _ _ _ _ _ _ _ _ _ _ _ _ _ _ _ _ _ _ _ _ _ _ _ _ _ _ _ _ _ _ _ _ _ _ _ _ _ _ _ _ _ _ _ _ _ _ _ _ _ _ _ _ _ _ _ _ _ _ _ _ _ _ _ _ _ _ _ _ _ _ _ _ _ _ _ _ _ _ _ _ (FIN.out d1 wr (permIn_refl d1 a mid) (by have t := P0.out.lo.l; rw [hE.out] at t; exact t))
  · have c1z : ¬ (a : Int) < (s : Int) := by omega
    have hE := Lib.hid (show s = a by omega)
    go_wp2_with fail
    refine HK.out _ _ ?_
    exact tail_three k L enc cf tg g cb w0 blk off cap a m b s e mid d d1 wr N IH.out HN.out.1 HN.out.2 S0.out P0.out.hi Q _ _ _ _ _ _ _ _ _ _ _ _ _ _ _ _ _ _ _ _ _ _ _ _ _ _ _ _ _ _ _ _ _ _ _ _ _ _ _ _ _ _ _ _ _ _ _ _ _ _ _ _ _ _ _ _ _ _ _ _ _ _ _ _ _ _ _ _ _ _ _ _ _ _ _ _ _ _ _ _ _ _ _ _ _ _ _ _ _ _ _ _ _ _ _ _ _ _ _ _ _ _ _ _ _ _ _ _ _ _ _ _ _ _ _ _ _ _ _ _ _ _ _ _ _ _ _ _ _ _ _ _ _ _ _ _ _ _ _ _ _ _ _ _ _ _ _ _ _ _ _ _ _ _ _ _ _ _ _ _ _ _ _ _ _ _ _ _ _ _ _ _ _ _ _ _ _ _ _ _ _ _ _ _ _ _ _ _ _ _ _ _ _ _ _ _ _ _ _ _ _ _ _ _ _ _ _ _ _ _ _ _ (FIN.out d1 wr (permIn_refl d1 a mid) (by have t := P0.out.lo.r; rw [hE.out] at t; exact t))

set_option maxHeartbeats 8000000 in
set_option maxRecDepth 1000000 in
theorem tail_one (k : Nat) (L : LO P k) (enc : α → List Value) (cf : α → α → Int) (tg : α → Nat) (hT : Tot cf) (g : Nat) (cb : Array Value) (w0 : World) (blk off cap a m b s e mid : Nat) (d : Array α) (wr : World) (R : RowB enc k w0 blk)
    (N : Nat) (ih : MergeSays P k enc cf tg g cb w0 blk off cap d.size N) (hN : b - mid ≤ N) (hN2 : mid - a ≤ N) (hsz : d.size < 4611686018427387904) (S : SWb enc k w0 blk off d wr) (p : Pre cf tg d a m b) (c : Cut cf tg d a m b s e) (hmid : s + (e - m) = mid) (Q : Exit → Act → World → Prop)
    (u5 u6 u7 u8 u9 u10 u11 u12 u13 u14 u15 u16 u17 u19 u21 u22 u23 u25 u26 u27 u28 u29 u30 u31 u32 u33 u34 u35 u36 u37 u38 u39 u40 u41 u42 u43 u44 u45 u46 u47 u48 u49 u50 u51 u52 u53 u54 u55 u56 u57 u58 u59 u60 u61 u62 u63 u64 u65 u66 u67 u68 u69 u70 u71 u72 u73 u74 u75 u76 u77 u78 u79 u80 u81 u82 u83 u84 u85 u86 u87 u88 u89 u90 u91 u92 u93 u94 u95 u96 u97 u98 u99 u100 u101 u102 u103 u104 u105 u106 u107 u108 u109 u110 u111 u112 u113 u114 u115 u116 u117 u118 u119 u120 u121 u122 u123 u124 u125 u126 u127 u128 u129 u130 u131 u132 u133 u134 u135 u136 u137 u138 u139 u140 u141 u142 u143 u144 u145 u146 u147 u148 u149 u150 u151 u152 u153 u154 u155 u156 u157 u158 u159 u160 u161 u162 u163 u164 u165 u166 u167 u168 u169 u170 u171 u172 u173 u174 u175 u176 u177 u178 u179 u180 u181 u182 u183 u184 u185 u186 u187 u188 u189 u190 u191 u192 u193 u194 u195 u196 u197 u198 u199 u200 u201 u202 u203 u204 u205 u206 u207 u208 u209 u210 u211 u212 u213 u214 u215 u216 u217 u218 u219 : Value)
    (hQ : ∀ (A : Act) (w' : World), A.defers = [] → (∃ d3, SWb enc k w0 blk off d3 w' ∧ PermIn a b d d3 ∧ SortedIn (ltT cf tg) a b d3) → Q .normal A w') :
    Code.wp P tailOne Q ⟨#[.slice (some ⟨blk, off, none⟩) d.size cap, .int .i64 a, .int .i64 m, .int .i64 b, .func (.func g) #[] cb, u5, u6, u7, u8, u9, u10, u11, u12, u13, u14, u15, u16, u17, .int .i64 mid, u19, .int .i64 s, u21, u22, u23, .int .i64 e, u25, u26, u27, u28, u29, u30, u31, u32, u33, u34, u35, u36, u37, u38, u39, u40, u41, u42, u43, u44, u45, u46, u47, u48, u49, u50, u51, u52, u53, u54, u55, u56, u57, u58, u59, u60, u61, u62, u63, u64, u65, u66, u67, u68, u69, u70, u71, u72, u73, u74, u75, u76, u77, u78, u79, u80, u81, u82, u83, u84, u85, u86, u87, u88, u89, u90, u91, u92, u93, u94, u95, u96, u97, u98, u99, u100, u101, u102, u103, u104, u105, u106, u107, u108, u109, u110, u111, u112, u113, u114, u115, u116, u117, u118, u119, u120, u121, u122, u123, u124, u125, u126, u127, u128, u129, u130, u131, u132, u133, u134, u135, u136, u137, u138, u139, u140, u141, u142, u143, u144, u145, u146, u147, u148, u149, u150, u151, u152, u153, u154, u155, u156, u157, u158, u159, u160, u161, u162, u163, u164, u165, u166, u167, u168, u169, u170, u171, u172, u173, u174, u175, u176, u177, u178, u179, u180, u181, u182, u183, u184, u185, u186, u187, u188, u189, u190, u191, u192, u193, u194, u195, u196, u197, u198, u199, u200, u201, u202, u203, u204, u205, u206, u207, u208, u209, u210, u211, u212, u213, u214, u215, u216, u217, u218, u219], []⟩ wr := by
  have mixed := L.mixed; have t0 := L.t0; have a0 := L.a0; have z0 := L.z0; have v0 := L.v0; have t3 := L.t3; have a3 := L.a3; have z3 := L.z3; have v3 := L.v3; have t4 := L.t4; have a4 := L.a4; have z4 := L.z4; have v4 := L.v4; have t57 := L.t57; have a57 := L.a57; have z57 := L.z57; have v57 := L.v57; have t61 := L.t61; have a61 := L.a61; have z61 := L.z61; have v61 := L.v61
  have e81 : ∀ args w, (callFunc 81 args).run P w = .ok (.enter 81 args) w := enters_of L.f81 (by kernel_rfl) rfl
  have IH : Aside _ := ih
  have S0 : Aside _ := S
  have P0 := Lib.hid p
  have C0 := Lib.hid c
  have HQ : Aside _ := hQ
  have hsm := c.sm
  have hme := c.me
  have heb := c.eb
  have has := c.sa
  have hbd := p.bs
  have HN := Lib.hid (And.intro hN (And.intro hN2 hmid))
  clear ih S p c hQ hN hN2 hmid
  conv => arg 2; whnf
  refine wp_seq_k fun K hK => ?_
  have HK : Aside _ := hK
  clear hK
  have trn : ∀ d1, Rot d s m e d1 → Turned cf tg d1 a s mid e b := fun d1 hr => by have t := turned hT P0.out C0.out hr; rw [HN.out.2.2] at t; exact t
  have TRN : Aside _ := trn
  have fin : ∀ (d1 : Array α), PermIn a b d d1 → ∀ (A : Act) (w2 : World), A.defers = [] → (∃ d3, SWb enc k w0 blk off d3 w2 ∧ PermIn a b d1 d3 ∧ SortedIn (ltT cf tg) a b d3) → Q .normal A w2 := fun d1 hp A w2 hA ⟨d3, S3, hp3, hs3⟩ =>
    HQ.out A w2 hA ⟨d3, S3, permIn_trans _ _ _ _ _ hp hp3, hs3⟩
  have FIN : Aside _ := fin
  clear fin trn
  by_cases c1 : s < m
  · have c1z : (s : Int) < (m : Int) := by omega
    by_cases c2 : m < e
    · have c2z : (m : Int) < (e : Int) := by omega
      have hrot := rotate_at (P := P) k L enc (.func (.func g) #[] cb) w0 blk off cap s m e d _ R S0.out c1 c2 (by omega) hsz
      clear S0
      go_wp2_with (go_at_fn 81; refine hrot.mono ?_; clear hrot; rintro e' w2 ⟨rfl, d1, S2, hr, hp⟩)
      refine HK.out _ _ ?_
      exact tail_two k L enc cf tg g cb w0 blk off cap a m b s e mid d d1 w2 N IH.out HN.out.1 HN.out.2.1 hp.1 S2 (TRN.out d1 hr) Q _ _ _ _ _ _ _ _ _ _ _ _ _ _ _ _ _ _ _ _ _ _ _ _ _ _ _ _ _ _ _ _ _ _ _ _ _ _ _ _ _ _ _ _ _ _ _ _ _ _ _ _ _ _ _ _ _ _ _ _ _ _ _ _ _ _ _ _ _ _ _ _ _ _ _ _ _ _ _ _ _ _ _ _ _ _ _ _ _ _ _ _ _ _ _ _ _ _ _ _ _ _ _ _ _ _ _ _ _ _ _ _ _ _ _ _ _ _ _ _ _ _ _ _ _ _ _ _ _ _ _ _ _ _ _ _ _ _ _ _ _ _ _ _ _ _ _ _ _ _ _ _ _ _ _ _ _ _ _ _ _ _ _ _ _ _ _ _ _ _ _ _ _ _ _ _ _ _ _ _ _ _ _ _ _ _ _ _ _ _ _ _ _ _ _ _ _ _ _ _ _ _ _ _ _ _ _ _ _ _ _ _ (FIN.out d1 (permIn_mono _ _ _ _ _ _ has heb hbd hp))
    · have c2z : ¬ (m : Int) < (e : Int) := by omega
      have hE := Lib.hid (show m = e by omega)
      go_wp2_with fail
      refine HK.out _ _ ?_
      exact tail_two k L enc cf tg g cb w0 blk off cap a m b s e mid d d wr N IH.out HN.out.1 HN.out.2.1 rfl S0.out (TRN.out d (Rot.none d s m e hsm hme (.inr hE.out))) Q _ _ _ _ _ _ _ _ _ _ _ _ _ _ _ _ _ _ _ _ _ _ _ _ _ _ _ _ _ _ _ _ _ _ _ _ _ _ _ _ _ _ _ _ _ _ _ _ _ _ _ _ _ _ _ _ _ _ _ _ _ _ _ _ _ _ _ _ _ _ _ _ _ _ _ _ _ _ _ _ _ _ _ _ _ _ _ _ _ _ _ _ _ _ _ _ _ _ _ _ _ _ _ _ _ _ _ _ _ _ _ _ _ _ _ _ _ _ _ _ _ _ _ _ _ _ _ _ _ _ _ _ _ _ _ _ _ _ _ _ _ _ _ _ _ _ _ _ _ _ _ _ _ _ _ _ _ _ _ _ _ _ _ _ _ _ _ _ _ _ _ _ _ _ _ _ _ _ _ _ _ _ _ _ _ _ _ _ _ _ _ _ _ _ _ _ _ _ _ _ _ _ _ _ _ _ _ _ _ _ _ _ (FIN.out d (permIn_refl d a b))
  · have c1z : ¬ (s : Int) < (m : Int) := by omega
    have hE := Lib.hid (show s = m by omega)
    go_wp2_with fail
    refine HK.out _ _ ?_
    exact tail_two k L enc cf tg g cb w0 blk off cap a m b s e mid d d wr N IH.out HN.out.1 HN.out.2.1 rfl S0.out (TRN.out d (Rot.none d s m e hsm hme (.inl hE.out))) Q _ _ _ _ _ _ _ _ _ _ _ _ _ _ _ _ _ _ _ _ _ _ _ _ _ _ _ _ _ _ _ _ _ _ _ _ _ _ _ _ _ _ _ _ _ _ _ _ _ _ _ _ _ _ _ _ _ _ _ _ _ _ _ _ _ _ _ _ _ _ _ _ _ _ _ _ _ _ _ _ _ _ _ _ _ _ _ _ _ _ _ _ _ _ _ _ _ _ _ _ _ _ _ _ _ _ _ _ _ _ _ _ _ _ _ _ _ _ _ _ _ _ _ _ _ _ _ _ _ _ _ _ _ _ _ _ _ _ _ _ _ _ _ _ _ _ _ _ _ _ _ _ _ _ _ _ _ _ _ _ _ _ _ _ _ _ _ _ _ _ _ _ _ _ _ _ _ _ _ _ _ _ _ _ _ _ _ _ _ _ _ _ _ _ _ _ _ _ _ _ _ _ _ _ _ _ _ _ _ _ _ _ (FIN.out d (permIn_refl d a b))
end
end Go.Proofs.Ytnkfjomnpnbidaa
