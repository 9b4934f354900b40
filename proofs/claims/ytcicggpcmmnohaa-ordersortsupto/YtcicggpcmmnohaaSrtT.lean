/-
  slices.symMergeCmpFunc: its last three tests, each by itself, from whatever frame.
-/
import Derived.Test.YtcicggpcmmnohaaSrtD
import Derived.Test.YtcicggpcmmnohaaSrtE
namespace Go.Proofs.Ytcicggpcmmnohaa
open Go.Shelf Go.RowKit Go.Lib Go.Sort
set_option linter.unusedVariables false

def seqSnd : Code → Code
  | .seq _ b => b
  | c => c
noncomputable def tailOne : Code := seqSnd (seqSnd (seqSnd (seqSnd (seqSnd (seqSnd (seqSnd (seqSnd (seqSnd ((Try.f74.body).getD .skip)))))))))
noncomputable def tailTwo : Code := seqSnd tailOne
noncomputable def tailThree : Code := seqSnd tailTwo
section
variable {P : Program} {α : Type} [Inhabited α]

theorem Pre.same {cf : α → α → Int} {tg : α → Nat} {d1 d2 : Array α} {a mid e b : Nat} (p : Pre cf tg d1 mid e b) (h : PermIn a mid d1 d2) : Pre cf tg d2 mid e b := by
  obtain ⟨h1, h2, h3, h4, h5, h6⟩ := p
  refine ⟨h1, h2, by rw [h.1]; exact h3, fun i j k1 k2 k3 => ?_, fun i j k1 k2 k3 => ?_, fun i j k1 k2 k3 k4 => ?_⟩
  · rw [h.2.1 i (by omega), h.2.1 j (by omega)]; exact h4 i j k1 k2 k3
  · rw [h.2.1 i (by omega), h.2.1 j (by omega)]; exact h5 i j k1 k2 k3
  · rw [h.2.1 i (by omega), h.2.1 j (by omega)]; exact h6 i j k1 k2 k3 k4
/-- What the merge of two parts does, of at most N elements. -/
def MergeSays (P : Program) (k : Nat) (enc : α → List Value) (cf : α → α → Int) (tg : α → Nat) (g : Nat) (cb : Array Value) (w0 : World) (blk off cap n N : Nat) : Prop :=
  ∀ (a m b : Nat) (d : Array α) (w : World), SWb enc k w0 blk off d w → Pre cf tg d a m b → a < m → m < b → b - a ≤ N → d.size = n →
    Calls P 74 #[.slice (some ⟨blk, off, none⟩) n cap, .int .i64 a, .int .i64 m, .int .i64 b, .func (.func g) #[] cb] w fun e w' => e = .returned (.tuple #[]) ∧ ∃ d', SWb enc k w0 blk off d' w' ∧ PermIn a b d d' ∧ SortedIn (ltT cf tg) a b d'

set_option maxHeartbeats 8000000 in
set_option maxRecDepth 1000000 in
theorem tail_three (k : Nat) (L : LO P k) (enc : α → List Value) (cf : α → α → Int) (tg : α → Nat) (g : Nat) (cb : Array Value) (w0 : World) (blk off cap a m b s e mid : Nat) (d d2 : Array α) (wr : World)
    (N : Nat) (ih : MergeSays P k enc cf tg g cb w0 blk off cap d.size N) (hN : b - mid ≤ N) (hd2 : d2.size = d.size) (S : SWb enc k w0 blk off d2 wr) (p : Pre cf tg d2 mid e b) (Q : Exit → Act → World → Prop)
    (u5 u6 u7 u8 u9 u10 u11 u12 u13 u14 u15 u16 u17 u19 u21 u22 u23 u25 u26 u27 u28 u29 u30 u31 u32 u33 u34 u35 u36 u37 u38 u39 u40 u41 u42 u43 u44 u45 u46 u47 u48 u49 u50 u51 u52 u53 u54 u55 u56 u57 u58 u59 u60 u61 u62 u63 u64 u65 u66 u67 u68 u69 u70 u71 u72 u73 u74 u75 u76 u77 u78 u79 u80 u81 u82 u83 u84 u85 u86 u87 u88 u89 u90 u91 u92 u93 u94 u95 u96 u97 u98 u99 u100 u101 u102 u103 u104 u105 u106 u107 u108 u109 u110 u111 u112 u113 u114 u115 u116 u117 u118 u119 u120 u121 u122 u123 u124 u125 u126 u127 u128 u129 u130 u131 u132 u133 u134 u135 u136 u137 u138 u139 u140 u141 u142 u143 u144 u145 u146 u147 u148 u149 u150 u151 u152 u153 u154 u155 u156 u157 u158 u159 u160 u161 u162 u163 u164 u165 u166 u167 u168 u169 u170 u171 u172 u173 u174 u175 u176 u177 u178 u179 u180 u181 u182 u183 u184 u185 u186 u187 u188 u189 u190 u191 u192 u193 u194 u195 u196 u197 u198 u199 u200 u201 u202 u203 u204 u205 u206 u207 u208 u209 u210 u211 u212 u213 u214 u215 u216 u217 u218 u219 : Value)
    (hQ : ∀ (A : Act) (w' : World), A.defers = [] → (∃ d3, SWb enc k w0 blk off d3 w' ∧ PermIn mid b d2 d3 ∧ SortedIn (ltT cf tg) mid b d3) → Q .normal A w') :
    Code.wp P tailThree Q ⟨#[.slice (some ⟨blk, off, none⟩) d.size cap, .int .i64 a, .int .i64 m, .int .i64 b, .func (.func g) #[] cb, u5, u6, u7, u8, u9, u10, u11, u12, u13, u14, u15, u16, u17, .int .i64 mid, u19, .int .i64 s, u21, u22, u23, .int .i64 e, u25, u26, u27, u28, u29, u30, u31, u32, u33, u34, u35, u36, u37, u38, u39, u40, u41, u42, u43, u44, u45, u46, u47, u48, u49, u50, u51, u52, u53, u54, u55, u56, u57, u58, u59, u60, u61, u62, u63, u64, u65, u66, u67, u68, u69, u70, u71, u72, u73, u74, u75, u76, u77, u78, u79, u80, u81, u82, u83, u84, u85, u86, u87, u88, u89, u90, u91, u92, u93, u94, u95, u96, u97, u98, u99, u100, u101, u102, u103, u104, u105, u106, u107, u108, u109, u110, u111, u112, u113, u114, u115, u116, u117, u118, u119, u120, u121, u122, u123, u124, u125, u126, u127, u128, u129, u130, u131, u132, u133, u134, u135, u136, u137, u138, u139, u140, u141, u142, u143, u144, u145, u146, u147, u148, u149, u150, u151, u152, u153, u154, u155, u156, u157, u158, u159, u160, u161, u162, u163, u164, u165, u166, u167, u168, u169, u170, u171, u172, u173, u174, u175, u176, u177, u178, u179, u180, u181, u182, u183, u184, u185, u186, u187, u188, u189, u190, u191, u192, u193, u194, u195, u196, u197, u198, u199, u200, u201, u202, u203, u204, u205, u206, u207, u208, u209, u210, u211, u212, u213, u214, u215, u216, u217, u218, u219], []⟩ wr := by
  have mixed := L.mixed; have t0 := L.t0; have a0 := L.a0; have z0 := L.z0; have v0 := L.v0; have t3 := L.t3; have a3 := L.a3; have z3 := L.z3; have v3 := L.v3; have t4 := L.t4; have a4 := L.a4; have z4 := L.z4; have v4 := L.v4; have t57 := L.t57; have a57 := L.a57; have z57 := L.z57; have v57 := L.v57; have t61 := L.t61; have a61 := L.a61; have z61 := L.z61; have v61 := L.v61
  have e74 : ∀ args w, (callFunc 74 args).run P w = .ok (.enter 74 args) w := enters_of L.f74 (by kernel_rfl) rfl
  have IH : Aside _ := ih
  have S0 : Aside _ := S
  have P0 := Lib.hid p
  have HQ : Aside _ := hQ
  have hme := p.am
  have heb := p.mb
  clear ih S p hQ
  conv => arg 2; whnf
  by_cases c1 : mid < e
  · have c1z : (mid : Int) < (e : Int) := by omega
    by_cases c2 : e < b
    · have c2z : (e : Int) < (b : Int) := by omega
      have hrec := IH.out mid e b d2 _ S0.out P0.out c1 c2 hN hd2
      clear IH S0
      go_wp2_with (go_at_fn 74; refine hrec.mono ?_; clear hrec; rintro e' w2 ⟨rfl, d3, S4, hp, hs⟩)
      exact HQ.out _ _ rfl ⟨d3, S4, hp, hs⟩
    · have c2z : ¬ (e : Int) < (b : Int) := by omega
      have hE := Lib.hid (show e = b by omega)
      go_wp2_with fail
      exact HQ.out _ _ rfl ⟨d2, S0.out, permIn_refl d2 mid b, by have t := P0.out.l; rw [hE.out] at t; exact t⟩
  · have c1z : ¬ (mid : Int) < (e : Int) := by omega
    have hE := Lib.hid (show e = mid by omega)
    go_wp2_with fail
    exact HQ.out _ _ rfl ⟨d2, S0.out, permIn_refl d2 mid b, by have t := P0.out.r; rw [hE.out] at t; exact t⟩

set_option maxHeartbeats 8000000 in
set_option maxRecDepth 1000000 in
theorem tail_two (k : Nat) (L : LO P k) (enc : α → List Value) (cf : α → α → Int) (tg : α → Nat) (g : Nat) (cb : Array Value) (w0 : World) (blk off cap a m b s e mid : Nat) (d d1 : Array α) (wr : World)
    (N : Nat) (ih : MergeSays P k enc cf tg g cb w0 blk off cap d.size N) (hN : b - mid ≤ N) (hN2 : mid - a ≤ N) (hd1 : d1.size = d.size) (S : SWb enc k w0 blk off d1 wr) (p : Turned cf tg d1 a s mid e b) (Q : Exit → Act → World → Prop)
    (u5 u6 u7 u8 u9 u10 u11 u12 u13 u14 u15 u16 u17 u19 u21 u22 u23 u25 u26 u27 u28 u29 u30 u31 u32 u33 u34 u35 u36 u37 u38 u39 u40 u41 u42 u43 u44 u45 u46 u47 u48 u49 u50 u51 u52 u53 u54 u55 u56 u57 u58 u59 u60 u61 u62 u63 u64 u65 u66 u67 u68 u69 u70 u71 u72 u73 u74 u75 u76 u77 u78 u79 u80 u81 u82 u83 u84 u85 u86 u87 u88 u89 u90 u91 u92 u93 u94 u95 u96 u97 u98 u99 u100 u101 u102 u103 u104 u105 u106 u107 u108 u109 u110 u111 u112 u113 u114 u115 u116 u117 u118 u119 u120 u121 u122 u123 u124 u125 u126 u127 u128 u129 u130 u131 u132 u133 u134 u135 u136 u137 u138 u139 u140 u141 u142 u143 u144 u145 u146 u147 u148 u149 u150 u151 u152 u153 u154 u155 u156 u157 u158 u159 u160 u161 u162 u163 u164 u165 u166 u167 u168 u169 u170 u171 u172 u173 u174 u175 u176 u177 u178 u179 u180 u181 u182 u183 u184 u185 u186 u187 u188 u189 u190 u191 u192 u193 u194 u195 u196 u197 u198 u199 u200 u201 u202 u203 u204 u205 u206 u207 u208 u209 u210 u211 u212 u213 u214 u215 u216 u217 u218 u219 : Value)
    (hQ : ∀ (A : Act) (w' : World), A.defers = [] → (∃ d3, SWb enc k w0 blk off d3 w' ∧ PermIn a b d1 d3 ∧ SortedIn (ltT cf tg) a b d3) → Q .normal A w') :
    Code.wp P tailTwo Q ⟨#[.slice (some ⟨blk, off, none⟩) d.size cap, .int .i64 a, .int .i64 m, .int .i64 b, .func (.func g) #[] cb, u5, u6, u7, u8, u9, u10, u11, u12, u13, u14, u15, u16, u17, .int .i64 mid, u19, .int .i64 s, u21, u22, u23, .int .i64 e, u25, u26, u27, u28, u29, u30, u31, u32, u33, u34, u35, u36, u37, u38, u39, u40, u41, u42, u43, u44, u45, u46, u47, u48, u49, u50, u51, u52, u53, u54, u55, u56, u57, u58, u59, u60, u61, u62, u63, u64, u65, u66, u67, u68, u69, u70, u71, u72, u73, u74, u75, u76, u77, u78, u79, u80, u81, u82, u83, u84, u85, u86, u87, u88, u89, u90, u91, u92, u93, u94, u95, u96, u97, u98, u99, u100, u101, u102, u103, u104, u105, u106, u107, u108, u109, u110, u111, u112, u113, u114, u115, u116, u117, u118, u119, u120, u121, u122, u123, u124, u125, u126, u127, u128, u129, u130, u131, u132, u133, u134, u135, u136, u137, u138, u139, u140, u141, u142, u143, u144, u145, u146, u147, u148, u149, u150, u151, u152, u153, u154, u155, u156, u157, u158, u159, u160, u161, u162, u163, u164, u165, u166, u167, u168, u169, u170, u171, u172, u173, u174, u175, u176, u177, u178, u179, u180, u181, u182, u183, u184, u185, u186, u187, u188, u189, u190, u191, u192, u193, u194, u195, u196, u197, u198, u199, u200, u201, u202, u203, u204, u205, u206, u207, u208, u209, u210, u211, u212, u213, u214, u215, u216, u217, u218, u219], []⟩ wr := by
  have mixed := L.mixed; have t0 := L.t0; have a0 := L.a0; have z0 := L.z0; have v0 := L.v0; have t3 := L.t3; have a3 := L.a3; have z3 := L.z3; have v3 := L.v3; have t4 := L.t4; have a4 := L.a4; have z4 := L.z4; have v4 := L.v4; have t57 := L.t57; have a57 := L.a57; have z57 := L.z57; have v57 := L.v57; have t61 := L.t61; have a61 := L.a61; have z61 := L.z61; have v61 := L.v61
  have e74 : ∀ args w, (callFunc 74 args).run P w = .ok (.enter 74 args) w := enters_of L.f74 (by kernel_rfl) rfl
  have IH : Aside _ := ih
  have S0 : Aside _ := S
  have P0 := Lib.hid p
  have HQ : Aside _ := hQ
  have has := p.lo.am
  have hsm := p.lo.mb
  have HN := Lib.hid (And.intro hN hd1)
  clear ih S p hQ hN
  conv => arg 2; whnf
  refine wp_seq_k fun K hK => ?_
  have HK : Aside _ := hK
  clear hK
  have fin : ∀ (d2 : Array α) (w' : World), PermIn a mid d1 d2 → SortedIn (ltT cf tg) a mid d2 → ∀ (A : Act) (w2 : World), A.defers = [] → (∃ d3, SWb enc k w0 blk off d3 w2 ∧ PermIn mid b d2 d3 ∧ SortedIn (ltT cf tg) mid b d3) → Q .normal A w2 := fun d2 w' hp hs A w2 hA ⟨d3, S3, hp3, hs3⟩ => by
    have hm := merged (d := d1) P0.out hp hs hp3 hs3
    exact HQ.out A w2 hA ⟨d3, S3, hm.1, hm.2⟩
  have FIN : Aside _ := fin
  clear fin
  by_cases c1 : a < s
  · have c1z : (a : Int) < (s : Int) := by omega
    by_cases c2 : s < mid
    · have c2z : (s : Int) < (mid : Int) := by omega
      have hrec := IH.out a s mid d1 _ S0.out P0.out.lo c1 c2 hN2 HN.out.2
      clear S0
      go_wp2_with (go_at_fn 74; refine hrec.mono ?_; clear hrec; rintro e' w2 ⟨rfl, d2, S4, hp, hs⟩)
      refine HK.out _ _ ?_
      exact tail_three k L enc cf tg g cb w0 blk off cap a m b s e mid d d2 w2 N IH.out HN.out.1 (hp.1.trans HN.out.2) S4 (Pre.same P0.out.hi hp) Q _ _ _ _ _ _ _ _ _ _ _ _ _ _ _ _ _ _ _ _ _ _ _ _ _ _ _ _ _ _ _ _ _ _ _ _ _ _ _ _ _ _ _ _ _ _ _ _ _ _ _ _ _ _ _ _ _ _ _ _ _ _ _ _ _ _ _ _ _ _ _ _ _ _ _ _ _ _ _ _ _ _ _ _ _ _ _ _ _ _ _ _ _ _ _ _ _ _ _ _ _ _ _ _ _ _ _ _ _ _ _ _ _ _ _ _ _ _ _ _ _ _ _ _ _ _ _ _ _ _ _ _ _ _ _ _ _ _ _ _ _ _ _ _ _ _ _ _ _ _ _ _ _ _ _ _ _ _ _ _ _ _ _ _ _ _ _ _ _ _ _ _ _ _ _ _ _ _ _ _ _ _ _ _ _ _ _ _ _ _ _ _ _ _ _ _ _ _ _ _ _ _ _ _ _ _ _ _ _ _ _ _ (FIN.out d2 w2 hp hs)
    · have c2z : ¬ (s : Int) < (mid : Int) := by omega
      have hE := Lib.hid (show s = mid by omega)
      go_wp2_with fail
      refine HK.out _ _ ?_
      exact tail_three k L enc cf tg g cb w0 blk off cap a m b s e mid d d1 wr N IH.out HN.out.1 HN.out.2 S0.out P0.out.hi Q _ _ _ _ _ _ _ _ _ _ _ _ _ _ _ _ _ _ _ _ _ _ _ _ _ _ _ _ _ _ _ _ _ _ _ _ _ _ _ _ _ _ _ _ _ _ _ _ _ _ _ _ _ _ _ _ _ _ _ _ _ _ _ _ _ _ _ _ _ _ _ _ _ _ _ _ _ _ _ _ _ _ _ _ _ _ _ _ _ _ _ _ _ _ _ _ _ _ _ _ _ _ _ _ _ _ _ _ _ _ _ _ _ _ _ _ _ _ _ _ _ _ _ _ _ _ _ _ _ _ _ _ _ _ _ _ _ _ _ _ _ _ _ _ _ _ _ _ _ _ _ _ _ _ _ _ _ _ _ _ _ _ _ _ _ _ _ _ _ _ _ _ _ _ _ _ _ _ _ _ _ _ _ _ _ _ _ _ _ _ _ _ _ _ _ _ _ _ _ _ _ _ _ _ _ _ _ _ _ _ _ _ (FIN.out d1 wr (permIn_refl d1 a mid) (by have t := P0.out.lo.l; rw [hE.out] at t; exact t))
  · have c1z : ¬ (a : Int) < (s : Int) := by omega
    have hE := Lib.hid (show s = a by omega)
    go_wp2_with fail
    refine HK.out _ _ ?_
    exact tail_three k L enc cf tg g cb w0 blk off cap a m b s e mid d d1 wr N IH.out HN.out.1 HN.out.2 S0.out P0.out.hi Q _ _ _ _ _ _ _ _ _ _ _ _ _ _ _ _ _ _ _ _ _ _ _ _ _ _ _ _ _ _ _ _ _ _ _ _ _ _ _ _ _ _ _ _ _ _ _ _ _ _ _ _ _ _ _ _ _ _ _ _ _ _ _ _ _ _ _ _ _ _ _ _ _ _ _ _ _ _ _ _ _ _ _ _ _ _ _ _ _ _ _ _ _ _ _ _ _ _ _ _ _ _ _ _ _ _ _ _ _ _ _ _ _ _ _ _ _ _ _ _ _ _ _ _ _ _ _ _ _ _ _ _ _ _ _ _ _ _ _ _ _ _ _ _ _ _ _ _ _ _ _ _ _ _ _ _ _ _ _ _ _ _ _ _ _ _ _ _ _ _ _ _ _ _ _ _ _ _ _ _ _ _ _ _ _ _ _ _ _ _ _ _ _ _ _ _ _ _ _ _ _ _ _ _ _ _ _ _ _ _ _ _ (FIN.out d1 wr (permIn_refl d1 a mid) (by have t := P0.out.lo.r; rw [hE.out] at t; exact t))

set_option maxHeartbeats 8000000 in
set_option maxRecDepth 1000000 in
theorem tail_one (k : Nat) (L : LO P k) (enc : α → List Value) (cf : α → α → Int) (tg : α → Nat) (hT : Tot cf) (g : Nat) (cb : Array Value) (w0 : World) (blk off cap a m b s e mid : Nat) (d : Array α) (wr : World) (R : RowB enc k w0 blk)
    (N : Nat) (ih : MergeSays P k enc cf tg g cb w0 blk off cap d.size N) (hN : b - mid ≤ N) (hN2 : mid - a ≤ N) (hsz : d.size < 4611686018427387904) (S : SWb enc k w0 blk off d wr) (p : Pre cf tg d a m b) (c : Cut cf tg d a m b s e) (hmid : s + (e - m) = mid) (Q : Exit → Act → World → Prop)
    (u5 u6 u7 u8 u9 u10 u11 u12 u13 u14 u15 u16 u17 u19 u21 u22 u23 u25 u26 u27 u28 u29 u30 u31 u32 u33 u34 u35 u36 u37 u38 u39 u40 u41 u42 u43 u44 u45 u46 u47 u48 u49 u50 u51 u52 u53 u54 u55 u56 u57 u58 u59 u60 u61 u62 u63 u64 u65 u66 u67 u68 u69 u70 u71 u72 u73 u74 u75 u76 u77 u78 u79 u80 u81 u82 u83 u84 u85 u86 u87 u88 u89 u90 u91 u92 u93 u94 u95 u96 u97 u98 u99 u100 u101 u102 u103 u104 u105 u106 u107 u108 u109 u110 u111 u112 u113 u114 u115 u116 u117 u118 u119 u120 u121 u122 u123 u124 u125 u126 u127 u128 u129 u130 u131 u132 u133 u134 u135 u136 u137 u138 u139 u140 u141 u142 u143 u144 u145 u146 u147 u148 u149 u150 u151 u152 u153 u154 u155 u156 u157 u158 u159 u160 u161 u162 u163 u164 u165 u166 u167 u168 u169 u170 u171 u172 u173 u174 u175 u176 u177 u178 u179 u180 u181 u182 u183 u184 u185 u186 u187 u188 u189 u190 u191 u192 u193 u194 u195 u196 u197 u198 u199 u200 u201 u202 u203 u204 u205 u206 u207 u208 u209 u210 u211 u212 u213 u214 u215 u216 u217 u218 u219 : Value)
    (hQ : ∀ (A : Act) (w' : World), A.defers = [] → (∃ d3, SWb enc k w0 blk off d3 w' ∧ PermIn a b d d3 ∧ SortedIn (ltT cf tg) a b d3) → Q .normal A w') :
    Code.wp P tailOne Q ⟨#[.slice (some ⟨blk, off, none⟩) d.size cap, .int .i64 a, .int .i64 m, .int .i64 b, .func (.func g) #[] cb, u5, u6, u7, u8, u9, u10, u11, u12, u13, u14, u15, u16, u17, .int .i64 mid, u19, .int .i64 s, u21, u22, u23, .int .i64 e, u25, u26, u27, u28, u29, u30, u31, u32, u33, u34, u35, u36, u37, u38, u39, u40, u41, u42, u43, u44, u45, u46, u47, u48, u49, u50, u51, u52, u53, u54, u55, u56, u57, u58, u59, u60, u61, u62, u63, u64, u65, u66, u67, u68, u69, u70, u71, u72, u73, u74, u75, u76, u77, u78, u79, u80, u81, u82, u83, u84, u85, u86, u87, u88, u89, u90, u91, u92, u93, u94, u95, u96, u97, u98, u99, u100, u101, u102, u103, u104, u105, u106, u107, u108, u109, u110, u111, u112, u113, u114, u115, u116, u117, u118, u119, u120, u121, u122, u123, u124, u125, u126, u127, u128, u129, u130, u131, u132, u133, u134, u135, u136, u137, u138, u139, u140, u141, u142, u143, u144, u145, u146, u147, u148, u149, u150, u151, u152, u153, u154, u155, u156, u157, u158, u159, u160, u161, u162, u163, u164, u165, u166, u167, u168, u169, u170, u171, u172, u173, u174, u175, u176, u177, u178, u179, u180, u181, u182, u183, u184, u185, u186, u187, u188, u189, u190, u191, u192, u193, u194, u195, u196, u197, u198, u199, u200, u201, u202, u203, u204, u205, u206, u207, u208, u209, u210, u211, u212, u213, u214, u215, u216, u217, u218, u219], []⟩ wr := by
  have mixed := L.mixed; have t0 := L.t0; have a0 := L.a0; have z0 := L.z0; have v0 := L.v0; have t3 := L.t3; have a3 := L.a3; have z3 := L.z3; have v3 := L.v3; have t4 := L.t4; have a4 := L.a4; have z4 := L.z4; have v4 := L.v4; have t57 := L.t57; have a57 := L.a57; have z57 := L.z57; have v57 := L.v57; have t61 := L.t61; have a61 := L.a61; have z61 := L.z61; have v61 := L.v61
  have e81 : ∀ args w, (callFunc 81 args).run P w = .ok (.enter 81 args) w := enters_of L.f81 (by kernel_rfl) rfl
  have IH : Aside _ := ih
  have S0 : Aside _ := S
  have P0 := Lib.hid p
  have C0 := Lib.hid c
  have HQ : Aside _ := hQ
  have hsm := c.sm
  have hme := c.me
  have heb := c.eb
  have has := c.sa
  have hbd := p.bs
  have HN := Lib.hid (And.intro hN (And.intro hN2 hmid))
  clear ih S p c hQ hN hN2 hmid
  conv => arg 2; whnf
  refine wp_seq_k fun K hK => ?_
  have HK : Aside _ := hK
  clear hK
  have trn : ∀ d1, Rot d s m e d1 → Turned cf tg d1 a s mid e b := fun d1 hr => by have t := turned hT P0.out C0.out hr; rw [HN.out.2.2] at t; exact t
  have TRN : Aside _ := trn
  have fin : ∀ (d1 : Array α), PermIn a b d d1 → ∀ (A : Act) (w2 : World), A.defers = [] → (∃ d3, SWb enc k w0 blk off d3 w2 ∧ PermIn a b d1 d3 ∧ SortedIn (ltT cf tg) a b d3) → Q .normal A w2 := fun d1 hp A w2 hA ⟨d3, S3, hp3, hs3⟩ =>
    HQ.out A w2 hA ⟨d3, S3, permIn_trans _ _ _ _ _ hp hp3, hs3⟩
  have FIN : Aside _ := fin
  clear fin trn
  by_cases c1 : s < m
  · have c1z : (s : Int) < (m : Int) := by omega
    by_cases c2 : m < e
    · have c2z : (m : Int) < (e : Int) := by omega
      have hrot := rotate_at (P := P) k L enc (.func (.func g) #[] cb) w0 blk off cap s m e d _ R S0.out c1 c2 (by omega) hsz
      clear S0
      go_wp2_with (go_at_fn 81; refine hrot.mono ?_; clear hrot; rintro e' w2 ⟨rfl, d1, S2, hr, hp⟩)
      refine HK.out _ _ ?_
      exact tail_two k L enc cf tg g cb w0 blk off cap a m b s e mid d d1 w2 N IH.out HN.out.1 HN.out.2.1 hp.1 S2 (TRN.out d1 hr) Q _ _ _ _ _ _ _ _ _ _ _ _ _ _ _ _ _ _ _ _ _ _ _ _ _ _ _ _ _ _ _ _ _ _ _ _ _ _ _ _ _ _ _ _ _ _ _ _ _ _ _ _ _ _ _ _ _ _ _ _ _ _ _ _ _ _ _ _ _ _ _ _ _ _ _ _ _ _ _ _ _ _ _ _ _ _ _ _ _ _ _ _ _ _ _ _ _ _ _ _ _ _ _ _ _ _ _ _ _ _ _ _ _ _ _ _ _ _ _ _ _ _ _ _ _ _ _ _ _ _ _ _ _ _ _ _ _ _ _ _ _ _ _ _ _ _ _ _ _ _ _ _ _ _ _ _ _ _ _ _ _ _ _ _ _ _ _ _ _ _ _ _ _ _ _ _ _ _ _ _ _ _ _ _ _ _ _ _ _ _ _ _ _ _ _ _ _ _ _ _ _ _ _ _ _ _ _ _ _ _ _ _ (FIN.out d1 (permIn_mono _ _ _ _ _ _ has heb hbd hp))
    · have c2z : ¬ (m : Int) < (e : Int) := by omega
      have hE := Lib.hid (show m = e by omega)
      go_wp2_with fail
      refine HK.out _ _ ?_
      exact tail_two k L enc cf tg g cb w0 blk off cap a m b s e mid d d wr N IH.out HN.out.1 HN.out.2.1 rfl S0.out (TRN.out d (Rot.none d s m e hsm hme (.inr hE.out))) Q _ _ _ _ _ _ _ _ _ _ _ _ _ _ _ _ _ _ _ _ _ _ _ _ _ _ _ _ _ _ _ _ _ _ _ _ _ _ _ _ _ _ _ _ _ _ _ _ _ _ _ _ _ _ _ _ _ _ _ _ _ _ _ _ _ _ _ _ _ _ _ _ _ _ _ _ _ _ _ _ _ _ _ _ _ _ _ _ _ _ _ _ _ _ _ _ _ _ _ _ _ _ _ _ _ _ _ _ _ _ _ _ _ _ _ _ _ _ _ _ _ _ _ _ _ _ _ _ _ _ _ _ _ _ _ _ _ _ _ _ _ _ _ _ _ _ _ _ _ _ _ _ _ _ _ _ _ _ _ _ _ _ _ _ _ _ _ _ _ _ _ _ _ _ _ _ _ _ _ _ _ _ _ _ _ _ _ _ _ _ _ _ _ _ _ _ _ _ _ _ _ _ _ _ _ _ _ _ _ _ _ _ (FIN.out d (permIn_refl d a b))
  · have c1z : ¬ (s : Int) < (m : Int) := by omega
    have hE := Lib.hid (show s = m by omega)
    go_wp2_with fail
    refine HK.out _ _ ?_
    exact tail_two k L enc cf tg g cb w0 blk off cap a m b s e mid d d wr N IH.out HN.out.1 HN.out.2.1 rfl S0.out (TRN.out d (Rot.none d s m e hsm hme (.inl hE.out))) Q _ _ _ _ _ _ _ _ _ _ _ _ _ _ _ _ _ _ _ _ _ _ _ _ _ _ _ _ _ _ _ _ _ _ _ _ _ _ _ _ _ _ _ _ _ _ _ _ _ _ _ _ _ _ _ _ _ _ _ _ _ _ _ _ _ _ _ _ _ _ _ _ _ _ _ _ _ _ _ _ _ _ _ _ _ _ _ _ _ _ _ _ _ _ _ _ _ _ _ _ _ _ _ _ _ _ _ _ _ _ _ _ _ _ _ _ _ _ _ _ _ _ _ _ _ _ _ _ _ _ _ _ _ _ _ _ _ _ _ _ _ _ _ _ _ _ _ _ _ _ _ _ _ _ _ _ _ _ _ _ _ _ _ _ _ _ _ _ _ _ _ _ _ _ _ _ _ _ _ _ _ _ _ _ _ _ _ _ _ _ _ _ _ _ _ _ _ _ _ _ _ _ _ _ _ _ _ _ _ _ _ _ (FIN.out d (permIn_refl d a b))
end
end Go.Proofs.Ytcicggpcmmnohaa
