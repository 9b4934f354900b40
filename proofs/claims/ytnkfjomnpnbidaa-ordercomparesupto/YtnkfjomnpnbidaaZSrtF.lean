/-
  slices.symMergeCmpFunc: two parts of more than one element each: the search for the cut; all of it.
-/
import Derived.Test.YtnkfjomnpnbidaaZSrtEn2
namespace Go.Proofs.Ytnkfjomnpnbidaa
open Go.Shelf Go.RowKit Go.Lib Go.Sort
set_option linter.unusedVariables false
/-- Where the search for the cut begins and ends. -/
def LoHi (a m b mid lo hi : Nat) : Prop := a ≤ lo ∧ lo ≤ hi ∧ hi ≤ m ∧ hi ≤ mid ∧ mid + m ≤ b + lo ∧ (lo = a ∨ mid + m - lo = b) ∧ (hi = m ∨ mid + m - hi = m)
theorem lohi1 {a m b mid : Nat} (hm : mid = (a + b) / 2) (h1 : a < m) (h2 : m < b) (h : mid < m) : LoHi a m b mid (mid + m - b) mid := by
  unfold LoHi; refine ⟨?_, ?_, ?_, ?_, ?_, ?_, ?_⟩ <;> omega
theorem lohi2 {a m b mid : Nat} (hm : mid = (a + b) / 2) (h1 : a < m) (h2 : m < b) (h : ¬ mid < m) : LoHi a m b mid a m := by
  unfold LoHi; refine ⟨?_, ?_, ?_, ?_, ?_, ?_, ?_⟩ <;> omega
noncomputable def partLoop : Code := seqSnd (seqSnd (seqSnd (seqSnd (seqSnd (seqSnd ((Try.f74.body).getD .skip))))))
section
variable {P : Program} {α : Type} [Inhabited α]

set_option maxHeartbeats 8000000 in
set_option maxRecDepth 1000000 in
theorem merge_loop (k : Nat) (L : LO P k) (enc : α → List Value) (cf : α → α → Int) (tg : α → Nat) (hT : Tot cf) (g : Nat) (cb : Array Value) (w0 : World) (blk off cap a m b mid n lo hi : Nat) (d : Array α) (w : World)
    (eg : ∀ args w, (callFunc g args).run P w = .ok (.enter g args) w) (R : RowB enc k w0 blk) (C : CmpB P g cb enc k cf w0 blk off d.size) (S : SWb enc k w0 blk off d w) (p : Pre cf tg d a m b) (ham : a + 1 < m) (hmb : m + 1 < b) (hsz : d.size < 4611686018427387904)
    (N : Nat) (hN : b - a ≤ N + 1) (ih : MergeSays P k enc cf tg g cb w0 blk off cap d.size N) (hmid : mid = (a + b) / 2) (hn : n = mid + m) (hl : LoHi a m b mid lo hi) (Q : Exit → Act → World → Prop)
    (u5 u6 u7 u8 u9 u10 u11 u12 u13 u14 u15 u16 u17 u22 u23 u24 u25 u26 u27 u28 u29 u30 u31 u32 u33 u34 u35 u36 u37 u38 u39 u40 u41 u42 u43 u44 u45 u46 u47 u48 u49 u50 u51 u52 u53 u54 u55 u56 u57 u58 u59 u60 u61 u62 u63 u64 u65 u66 u67 u68 u69 u70 u71 u72 u73 u74 u75 u76 u77 u78 u79 u80 u81 u82 u83 u84 u85 u86 u87 u88 u89 u90 u91 u92 u93 u94 u95 u96 u97 u98 u99 u100 u101 u102 u103 u104 u105 u106 u107 u108 u109 u110 u111 u112 u113 u114 u115 u116 u117 u118 u119 u120 u121 u122 u123 u124 u125 u126 u127 u128 u129 u130 u131 u132 u133 u134 u135 u136 u137 u138 u139 u140 u141 u142 u143 u144 u145 u146 u147 u148 u149 u150 u151 u152 u153 u154 u155 u156 u157 u158 u159 u160 u161 u162 u163 u164 u165 u166 u167 u168 u169 u170 u171 u172 u173 u174 u175 u176 u177 u178 u179 u180 u181 u182 u183 u184 u185 u186 u187 u188 u189 u190 u191 u192 u193 u194 u195 u196 u197 u198 u199 u200 u201 u202 u203 u204 u205 u206 u207 u208 u209 u210 u211 u212 u213 u214 u215 u216 u217 u218 u219 : Value)
    (hQ : ∀ (A : Act) (w' : World), A.defers = [] → (∃ d3, SWb enc k w0 blk off d3 w' ∧ PermIn a b d d3 ∧ SortedIn (ltT cf tg) a b d3) → Q .normal A w') :
    Code.wp P partLoop Q ⟨#[.slice (some ⟨blk, off, none⟩) d.size cap, .int .i64 a, .int .i64 m, .int .i64 b, .func (.func g) #[] cb, u5, u6, u7, u8, u9, u10, u11, u12, u13, u14, u15, u16, u17, .int .i64 mid, .int .i64 n, .int .i64 lo, .int .i64 hi, u22, u23, u24, u25, u26, u27, u28, u29, u30, u31, u32, u33, u34, u35, u36, u37, u38, u39, u40, u41, u42, u43, u44, u45, u46, u47, u48, u49, u50, u51, u52, u53, u54, u55, u56, u57, u58, u59, u60, u61, u62, u63, u64, u65, u66, u67, u68, u69, u70, u71, u72, u73, u74, u75, u76, u77, u78, u79, u80, u81, u82, u83, u84, u85, u86, u87, u88, u89, u90, u91, u92, u93, u94, u95, u96, u97, u98, u99, u100, u101, u102, u103, u104, u105, u106, u107, u108, u109, u110, u111, u112, u113, u114, u115, u116, u117, u118, u119, u120, u121, u122, u123, u124, u125, u126, u127, u128, u129, u130, u131, u132, u133, u134, u135, u136, u137, u138, u139, u140, u141, u142, u143, u144, u145, u146, u147, u148, u149, u150, u151, u152, u153, u154, u155, u156, u157, u158, u159, u160, u161, u162, u163, u164, u165, u166, u167, u168, u169, u170, u171, u172, u173, u174, u175, u176, u177, u178, u179, u180, u181, u182, u183, u184, u185, u186, u187, u188, u189, u190, u191, u192, u193, u194, u195, u196, u197, u198, u199, u200, u201, u202, u203, u204, u205, u206, u207, u208, u209, u210, u211, u212, u213, u214, u215, u216, u217, u218, u219], []⟩ w := by
  have mixed := L.mixed; have t0 := L.t0; have a0 := L.a0; have z0 := L.z0; have v0 := L.v0; have t3 := L.t3; have a3 := L.a3; have z3 := L.z3; have v3 := L.v3; have t4 := L.t4; have a4 := L.a4; have z4 := L.z4; have v4 := L.v4; have t57 := L.t57; have a57 := L.a57; have z57 := L.z57; have v57 := L.v57; have t61 := L.t61; have a61 := L.a61; have z61 := L.z61; have v61 := L.v61; have t93 := L.t93; have a93 := L.a93; have z93 := L.z93; have v93 := L.v93; have aE := L.aE; have zE := L.zE
  have u57 := run_underlying L.t57
  have hbd : b ≤ d.size := p.bs
  have HP : Aside (Pre cf tg d a m b) := p
  have HC : Aside _ := C
  have IH : Aside _ := ih
  have S0 : Aside (SWb enc k w0 blk off d w) := S
  have HQ : Aside _ := hQ
  have hmb' : mid < b := by omega
  have ham' : a < mid := by omega
  have hnb : n < 4611686018427387904 + 4611686018427387904 - 1 := by omega
  obtain ⟨l1, l2, l3, l4, l5, l6, l7⟩ := hl
  have L67 := Lib.hid (And.intro l6 l7)
  have HM := Lib.hid (And.intro hmid hn)
  have HN := Lib.hid (show b - mid ≤ N ∧ mid - a ≤ N by omega)
  obtain ⟨pp, hpp⟩ : ∃ x, n = x + 1 := ⟨n - 1, by omega⟩
  have hpz : (n : Int) - 1 = (pp : Int) := by omega
  have hpb : pp < 4611686018427387904 + 4611686018427387904 - 1 := by omega
  have HPP := Lib.hid (show n = pp + 1 ∧ n = mid + m from ⟨hpp, hn⟩)
  clear C S p ih hQ hmid hn l6 l7 hpp hN
  conv => arg 2; whnf
  refine wp_seq_k fun K hK => ?_
  have HK : Aside _ := hK
  clear hK
  go_wp2_with fail
  refine HK.out _ _ ?_
  clear HK
  refine wp_seq_k fun K hK => ?_
  have HK : Aside _ := hK
  clear hK
  go_wp2_with fail
  go_loopg [20, 21] (hi - lo) (fun gg s20 s21 wr => ∃ (s r : Nat), s20 = .int .i64 s ∧ s21 = .int .i64 r ∧ lo ≤ s ∧ s ≤ r ∧ r ≤ hi ∧ r - s ≤ gg ∧ Aside (SWb enc k w0 blk off d wr) ∧ Hid (s = lo ∨ ltT cf tg d[pp - (s - 1)]! d[s - 1]! = false) ∧ Hid (r = hi ∨ ltT cf tg d[pp - r]! d[r]! = true))
  case atStart => exact ⟨lo, hi, rfl, rfl, Nat.le_refl _, l2, Nat.le_refl _, Nat.le_refl _, S0, Or.inl rfl, Or.inl rfl⟩
  case round =>
    clear S0
    obtain ⟨s, r, rfl, rfl, hls, hsr, hrh, hg, S1, H1, H2⟩ := hrel
    by_cases hlt : s < r
    · have hltz : (s : Int) < (r : Int) := by omega
      obtain ⟨h, hh⟩ : ∃ h, h = (s + r) / 2 := ⟨_, rfl⟩
      have hhz : ((s : Int) + (r : Int)) / 2 = (h : Int) := by omega
      have hih : s ≤ h := by omega
      have hhj : h < r := by omega
      obtain ⟨q, hq⟩ : ∃ q, pp = q + h := ⟨pp - h, by have := HPP.out; omega⟩
      have hqz : (pp : Int) - (h : Int) = (q : Int) := by omega
      have hhd : (h : Int) < (d.size : Int) := by omega
      have hqd : (q : Int) < (d.size : Int) := by have := HPP.out; omega
      have hqw : IntKind.i64.wrap (q : Int) = (q : Int) := by rw [IntKind.wrap_i64]; omega
      have hqm : m ≤ q ∧ q < b ∧ pp - h = q := by have := HPP.out; omega
      have HH := Lib.hid (And.intro hh hqm)
      obtain ⟨hqm1, hqm2, hqm3⟩ := hqm
      clear hh hq hqm3
      have lh := S1.out.ldb R P h (by omega)
      have la := S1.out.ldb R P q (by omega)
      obtain ⟨xh, hxh⟩ : ∃ x, d[h]! = x := ⟨_, rfl⟩
      obtain ⟨xa, hxa⟩ : ∃ x, d[q]! = x := ⟨_, rfl⟩
      have hcg := S1.out.cmpb R HC.out rfl xa xh
      have htg : ltT cf tg d[q]! d[h]! = ltOf cf d[q]! d[h]! := HP.out.tags_of (by omega) (by omega) hqm1 hqm2
      rw [hxh] at lh htg
      rw [hxa] at la htg
      have HX : Hid (d[h]! = xh ∧ d[q]! = xa ∧ ltT cf tg xa xh = ltOf cf xa xh ∧ pp - h = q) := ⟨hxh, hxa, htg, HH.out.2.2.2⟩
      clear hxh hxa htg
      by_cases hlv : ¬ cf xa xh < 0
      · have hlf : decide (cf xa xh < 0) = false := decide_eq_false hlv
        go_wp2_with fail
        refine wp_region_quiet_below (by assumption) (by kernel_rfl) ?_
        repeat (quiet_step (first | (go_at_fn g; refine Calls.regrown_of (hcg _ _))))
        refine wpQuiet_nil ?_
        intro _ hw'
        obtain ⟨⟨nq, osq⟩, hw''⟩ := hw'
        subst hw''
        go_wp2_with fail
        go_roundg (r - (h + 1))
        case measure => omega
        case rel => exact ⟨h + 1, r, by go_num, rfl, by omega, by omega, hrh, Nat.le_refl _, S1.out.regrown R nq osq, Or.inr (by show ltT cf tg d[pp - (h + 1 - 1)]! d[h + 1 - 1]! = false; rw [Nat.add_sub_cancel, HX.out.2.2.2, HX.out.1, HX.out.2.1, HX.out.2.2.1]; exact decide_eq_false (by omega)), H2⟩
      · go_wp2_with fail
        refine wp_region_quiet_below (by assumption) (by kernel_rfl) ?_
        repeat (quiet_step (first | (go_at_fn g; refine Calls.regrown_of (hcg _ _))))
        refine wpQuiet_nil ?_
        intro _ hw'
        obtain ⟨⟨nq, osq⟩, hw''⟩ := hw'
        subst hw''
        go_wp2_with fail
        go_roundg (h - s)
        case measure => omega
        case rel => exact ⟨s, h, rfl, rfl, hls, hih, by omega, Nat.le_refl _, S1.out.regrown R nq osq, H1, Or.inr (by show ltT cf tg d[pp - h]! d[h]! = true; rw [HX.out.2.2.2, HX.out.1, HX.out.2.1, HX.out.2.2.1]; exact decide_eq_true (by omega))⟩
    · have hltz : ¬ (s : Int) < (r : Int) := by omega
      obtain rfl : s = r := by omega
      have hnpp := HPP.out
      obtain ⟨e, he⟩ : ∃ e, n = e + s := ⟨n - s, by omega⟩
      have hez : (n : Int) - (s : Int) = (e : Int) := by omega
      have hme : m ≤ e := by omega
      have heb : e ≤ b := by omega
      have hsm : s ≤ m := by omega
      have has : a ≤ s := by omega
      have hsmid : s + (e - m) = mid := by omega
      have CUT : Hid (Cut cf tg d a m b s e) := ⟨has, hsm, hme, heb, by
        rcases H1.out with h | h
        · rcases L67.out.1 with h' | h'
          · exact .inl (by omega)
          · exact .inr (.inl (by omega))
        · by_cases hsl : s = lo
          · rcases L67.out.1 with h' | h'
            · exact .inl (by omega)
            · exact .inr (.inl (by omega))
          · rw [show pp - (s - 1) = e by omega] at h; exact .inr (.inr h), by
        rcases H2.out with h | h
        · rcases L67.out.2 with h' | h'
          · exact .inl (by omega)
          · exact .inr (.inl (by omega))
        · rw [show pp - s = e - 1 by omega] at h; exact .inr (.inr h)⟩
      have HE := Lib.hid (And.intro he hsmid)
      clear H1 H2 hnpp he hsmid hg
      go_wp2_with fail
      refine HK.out _ _ ?_
      clear HK
      refine wp_seq_k fun K2 hK2 => ?_
      have HK : Aside _ := hK2
      clear hK2
      go_wp2_with fail
      refine HK.out _ _ ?_
      exact tail_one k L enc cf tg hT g cb w0 blk off cap a m b s e mid d wr R N IH.out HN.out.1 HN.out.2 hsz S1.out HP.out CUT.out HE.out.2 Q _ _ _ _ _ _ _ _ _ _ _ _ _ _ _ _ _ _ _ _ _ _ _ _ _ _ _ _ _ _ _ _ _ _ _ _ _ _ _ _ _ _ _ _ _ _ _ _ _ _ _ _ _ _ _ _ _ _ _ _ _ _ _ _ _ _ _ _ _ _ _ _ _ _ _ _ _ _ _ _ _ _ _ _ _ _ _ _ _ _ _ _ _ _ _ _ _ _ _ _ _ _ _ _ _ _ _ _ _ _ _ _ _ _ _ _ _ _ _ _ _ _ _ _ _ _ _ _ _ _ _ _ _ _ _ _ _ _ _ _ _ _ _ _ _ _ _ _ _ _ _ _ _ _ _ _ _ _ _ _ _ _ _ _ _ _ _ _ _ _ _ _ _ _ _ _ _ _ _ _ _ _ _ _ _ _ _ _ _ _ _ _ _ _ _ _ _ _ _ _ _ _ _ _ _ _ _ _ _ _ _ _ HQ.out

set_option maxHeartbeats 8000000 in
set_option maxRecDepth 1000000 in
theorem mergeG_at (k : Nat) (L : LO P k) (enc : α → List Value) (cf : α → α → Int) (tg : α → Nat) (hT : Tot cf) (g : Nat) (cb : Array Value) (w0 : World) (blk off cap a m b : Nat) (d : Array α) (w : World)
    (eg : ∀ args w, (callFunc g args).run P w = .ok (.enter g args) w) (R : RowB enc k w0 blk) (C : CmpB P g cb enc k cf w0 blk off d.size) (S : SWb enc k w0 blk off d w) (p : Pre cf tg d a m b) (ham : a + 1 < m) (hmb : m + 1 < b) (hsz : d.size < 4611686018427387904)
    (N : Nat) (hN : b - a ≤ N + 1) (ih : MergeSays P k enc cf tg g cb w0 blk off cap d.size N) :
    Calls P 74 #[.slice (some ⟨blk, off, none⟩) d.size cap, .int .i64 a, .int .i64 m, .int .i64 b, .func (.func g) #[] cb] w fun e w' => e = .returned (.tuple #[]) ∧ ∃ d', SWb enc k w0 blk off d' w' ∧ PermIn a b d d' ∧ SortedIn (ltT cf tg) a b d' := by
  have mixed := L.mixed; have t0 := L.t0; have a0 := L.a0; have z0 := L.z0; have v0 := L.v0; have t3 := L.t3; have a3 := L.a3; have z3 := L.z3; have v3 := L.v3; have t4 := L.t4; have a4 := L.a4; have z4 := L.z4; have v4 := L.v4; have t57 := L.t57; have a57 := L.a57; have z57 := L.z57; have v57 := L.v57; have t61 := L.t61; have a61 := L.a61; have z61 := L.z61; have v61 := L.v61; have t93 := L.t93; have a93 := L.a93; have z93 := L.z93; have v93 := L.v93; have aE := L.aE; have zE := L.zE
  have hbd : b ≤ d.size := p.bs
  have HP : Aside (Pre cf tg d a m b) := p
  have HC : Aside _ := C
  have IH : Aside _ := ih
  have S0 : Aside (SWb enc k w0 blk off d w) := S
  clear C S p ih
  have one : (((m : Int) - (a : Int)) == 1) = false := beq_eq_false_iff_ne.2 (by omega)
  have two : (((b : Int) - (m : Int)) == 1) = false := beq_eq_false_iff_ne.2 (by omega)
  obtain ⟨mid, hmid⟩ : ∃ x, x = (a + b) / 2 := ⟨_, rfl⟩
  obtain ⟨n, hn⟩ : ∃ x, x = mid + m := ⟨_, rfl⟩
  have hmz : ((a : Int) + (b : Int)) / 2 = (mid : Int) := by omega
  have hnz : (mid : Int) + (m : Int) = (n : Int) := by omega
  have hmb' : mid < b := by omega
  have ham' : a < mid := by omega
  have hnb : n < 4611686018427387904 + 4611686018427387904 - 1 := by omega
  have HM := Lib.hid (And.intro hmid hn)
  clear hmid hn
  go_enter L.f74, Try.ntmps74
  refine wp_seq_k fun K hK => ?_
  have HK1 : Aside _ := hK
  clear hK
  go_wp2_with fail
  refine HK1.out _ _ ?_
  clear HK1
  refine wp_seq_k fun K hK => ?_
  have HK2 : Aside _ := hK
  clear hK
  go_wp2_with fail
  refine HK2.out _ _ ?_
  clear HK2
  refine wp_seq_k fun K hK => ?_
  have HK3 : Aside _ := hK
  clear hK
  go_wp2_with fail
  refine HK3.out _ _ ?_
  clear HK3
  refine wp_seq_k fun K hK => ?_
  have HK4 : Aside _ := hK
  clear hK
  go_wp2_with fail
  refine HK4.out _ _ ?_
  clear HK4
  refine wp_seq_k fun K hK => ?_
  have HK5 : Aside _ := hK
  clear hK
  go_wp2_with fail
  refine HK5.out _ _ ?_
  clear HK5
  refine wp_seq_k fun K hK => ?_
  have HK6 : Aside _ := hK
  clear hK
  have fin : ∀ (A : Act) (w' : World), A.defers = [] → (∃ d3, SWb enc k w0 blk off d3 w' ∧ PermIn a b d d3 ∧ SortedIn (ltT cf tg) a b d3) → bodyPost P Try.f74 (fun e w' => e = .returned (.tuple #[]) ∧ ∃ d', SWb enc k w0 blk off d' w' ∧ PermIn a b d d' ∧ SortedIn (ltT cf tg) a b d') .normal A w' := fun A w' hA h =>
    bodyPost_end (results_none rfl _ _ _) hA ⟨rfl, h⟩
  have FIN : Aside _ := fin
  clear fin
  by_cases hm : mid < m
  · have hmz' : (mid : Int) < (m : Int) := by omega
    obtain ⟨lo, hlo⟩ : ∃ x, x = mid + m - b := ⟨_, rfl⟩
    have hloz : (n : Int) - (b : Int) = (lo : Int) := by have := HM.out; omega
    have hl := lohi1 HM.out.1 (by omega) (by omega) hm
    rw [← hlo] at hl
    have HL := Lib.hid hl
    clear hl hlo
    go_wp2_with fail
    refine HK6.out _ _ ?_
    exact merge_loop k L enc cf tg hT g cb w0 blk off cap a m b mid n lo mid d w eg R HC.out S0.out HP.out ham hmb hsz N hN IH.out HM.out.1 HM.out.2 HL.out _ _ _ _ _ _ _ _ _ _ _ _ _ _ _ _ _ _ _ _ _ _ _ _ _ _ _ _ _ _ _ _ _ _ _ _ _ _ _ _ _ _ _ _ _ _ _ _ _ _ _ _ _ _ _ _ _ _ _ _ _ _ _ _ _ _ _ _ _ _ _ _ _ _ _ _ _ _ _ _ _ _ _ _ _ _ _ _ _ _ _ _ _ _ _ _ _ _ _ _ _ _ _ _ _ _ _ _ _ _ _ _ _ _ _ _ _ _ _ _ _ _ _ _ _ _ _ _ _ _ _ _ _ _ _ _ _ _ _ _ _ _ _ _ _ _ _ _ _ _ _ _ _ _ _ _ _ _ _ _ _ _ _ _ _ _ _ _ _ _ _ _ _ _ _ _ _ _ _ _ _ _ _ _ _ _ _ _ _ _ _ _ _ _ _ _ _ _ _ _ _ _ _ _ _ _ _ _ _ _ _ _ FIN.out
  · have hmz' : ¬ (mid : Int) < (m : Int) := by omega
    have HL := Lib.hid (lohi2 HM.out.1 (by omega) (by omega) hm)
    go_wp2_with fail
    refine HK6.out _ _ ?_
    exact merge_loop k L enc cf tg hT g cb w0 blk off cap a m b mid n a m d w eg R HC.out S0.out HP.out ham hmb hsz N hN IH.out HM.out.1 HM.out.2 HL.out _ _ _ _ _ _ _ _ _ _ _ _ _ _ _ _ _ _ _ _ _ _ _ _ _ _ _ _ _ _ _ _ _ _ _ _ _ _ _ _ _ _ _ _ _ _ _ _ _ _ _ _ _ _ _ _ _ _ _ _ _ _ _ _ _ _ _ _ _ _ _ _ _ _ _ _ _ _ _ _ _ _ _ _ _ _ _ _ _ _ _ _ _ _ _ _ _ _ _ _ _ _ _ _ _ _ _ _ _ _ _ _ _ _ _ _ _ _ _ _ _ _ _ _ _ _ _ _ _ _ _ _ _ _ _ _ _ _ _ _ _ _ _ _ _ _ _ _ _ _ _ _ _ _ _ _ _ _ _ _ _ _ _ _ _ _ _ _ _ _ _ _ _ _ _ _ _ _ _ _ _ _ _ _ _ _ _ _ _ _ _ _ _ _ _ _ _ _ _ _ _ _ _ _ _ _ _ _ _ _ _ _ FIN.out

/-- All of it. -/
theorem merge_says (k : Nat) (L : LO P k) (enc : α → List Value) (cf : α → α → Int) (tg : α → Nat) (hT : Tot cf) (g : Nat) (cb : Array Value) (w0 : World) (blk off cap n : Nat)
    (eg : ∀ args w, (callFunc g args).run P w = .ok (.enter g args) w) (R : RowB enc k w0 blk) (C : CmpB P g cb enc k cf w0 blk off n) (hsz : n < 4611686018427387904) : ∀ N, MergeSays P k enc cf tg g cb w0 blk off cap n N
  | 0 => fun a m b d w S p h1 h2 h3 hn => by omega
  | N + 1 => fun a m b d w S p h1 h2 h3 hn => by
    subst hn
    by_cases c1 : m = a + 1
    · subst c1
      have h := mergeL_at (P := P) k L enc cf tg hT g cb w0 blk off cap a b d w eg R C S p h2 hsz
      rwa [show ((a : Int) + 1) = ((a + 1 : Nat) : Int) by omega] at h
    · by_cases c2 : b = m + 1
      · subst c2
        have h := mergeR_at (P := P) k L enc cf tg hT g cb w0 blk off cap a m d w eg R C S p (by omega) hsz
        rwa [show ((m : Int) + 1) = ((m + 1 : Nat) : Int) by omega] at h
      · exact mergeG_at k L enc cf tg hT g cb w0 blk off cap a m b d w eg R C S p (by omega) (by omega) hsz N h3 (merge_says k L enc cf tg hT g cb w0 blk off cap d.size eg R C hsz N)
end
end Go.Proofs.Ytnkfjomnpnbidaa
