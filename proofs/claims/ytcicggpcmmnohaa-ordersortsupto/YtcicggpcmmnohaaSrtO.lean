/-
  The stable sort of 20 to 39 elements: two blocks, merged; order.Sort of at most 39 terms.
-/
import Derived.Test.YtcicggpcmmnohaaSrtF
import Derived.Test.YtcicggpcmmnohaaOShow
namespace Go.Proofs.Ytcicggpcmmnohaa
open Go.Shelf Go.RowKit Go.Lib Go.Sort
set_option linter.unusedVariables false
section
variable {P : Program} {α : Type} [Inhabited α]

/-- Two blocks, each sorted. -/
theorem two_blocks {cf : α → α → Int} {tg : α → Nat} (hT : Tot cf) (d : Array α) (h20 : 20 ≤ d.size) (ht : ∀ p q, p < q → q < d.size → tg d[p]! < tg d[q]!) :
    PermIn 0 d.size d (insertionSort (ltOf cf) (insertionSort (ltOf cf) d 0 20) 20 d.size) ∧ Pre cf tg (insertionSort (ltOf cf) (insertionSort (ltOf cf) d 0 20) 20 d.size) 0 20 d.size := by
  have h1 := inserted hT d 0 20 (by omega) h20 fun p q _ h2 h3 => ht p q h2 (by omega)
  generalize insertionSort (ltOf cf) d 0 20 = d1 at h1 ⊢
  have e1 : d1.size = d.size := h1.1.1
  have o1 : ∀ i, 20 ≤ i → d1[i]! = d[i]! := fun i hi => h1.1.2.1 i (.inr hi)
  have h2 := inserted hT d1 20 d.size h20 (by omega) fun p q k1 k2 k3 => by rw [o1 p k1, o1 q (by omega)]; exact ht p q k2 k3
  generalize insertionSort (ltOf cf) d1 20 d.size = d2 at h2 ⊢
  have e2 : d2.size = d.size := h2.1.1.trans e1
  have o2 : ∀ i, i < 20 → d2[i]! = d1[i]! := fun i hi => h2.1.2.1 i (.inl hi)
  refine ⟨permIn_trans _ _ _ _ _ (permIn_mono _ _ _ _ _ _ (Nat.le_refl _) h20 (Nat.le_refl _) h1.1) (permIn_mono _ _ _ _ _ _ (Nat.zero_le _) (Nat.le_refl _) (by omega) h2.1), by omega, h20, by omega, fun i j k1 k2 k3 => ?_, h2.2, fun i j k1 k2 k3 k4 => ?_⟩
  · rw [o2 i (by omega), o2 j k3]; exact h1.2 i j k1 k2 k3
  · rw [o2 i k2]
    refine permIn_all d1 d2 20 d.size (fun x => tg d1[i]! < tg x) (by omega) h2.1 (fun q g1 g2 => ?_) j k3 k4
    rw [o1 q g1]
    exact permIn_all d d1 0 20 (fun x => tg x < tg d[q]!) h20 h1.1 (fun r g3 g4 => ht r q (by omega) g2) i k1 k2

set_option maxHeartbeats 4000000 in
set_option maxRecDepth 1000000 in
theorem stable_mid (k : Nat) (L : LO P k) (enc : α → List Value) (cf : α → α → Int) (tg : α → Nat) (hT : Tot cf) (g : Nat) (cb : Array Value) (w0 : World) (blk off cap n : Nat) (h20 : 20 ≤ n) (h40 : n < 40)
    (eg : ∀ args w, (callFunc g args).run P w = .ok (.enter g args) w) (R : RowB enc k w0 blk) (C : CmpB P g cb enc k cf w0 blk off n) : StableSays P k enc cf tg g cb w0 blk off cap n := by
  intro d w S hn ht
  have mixed := L.mixed; have t0 := L.t0; have a0 := L.a0; have z0 := L.z0; have v0 := L.v0; have t3 := L.t3; have a3 := L.a3; have z3 := L.z3; have v3 := L.v3; have t4 := L.t4; have a4 := L.a4; have z4 := L.z4; have v4 := L.v4; have t57 := L.t57; have a57 := L.a57; have z57 := L.z57; have v57 := L.v57; have t61 := L.t61; have a61 := L.a61; have z61 := L.z61; have v61 := L.v61; have aE := L.aE; have zE := L.zE
  have e73 : ∀ args w, (callFunc 73 args).run P w = .ok (.enter 73 args) w := enters_of L.f73 (by kernel_rfl) rfl
  have e74 : ∀ args w, (callFunc 74 args).run P w = .ok (.enter 74 args) w := enters_of L.f74 (by kernel_rfl) rfl
  subst hn
  have hc : Calls P 73 #[.slice (some ⟨blk, off, none⟩) d.size cap, .int .i64 0, .int .i64 20, .func (.func g) #[] cb] w fun e w' => e = .returned (.tuple #[]) ∧ SWb enc k w0 blk off (Sort.insertionSort (ltOf cf) d 0 20) w' := insertion_at (P := P) k L enc cf g cb w0 blk off cap 0 20 d w eg R C S (by omega) h20 (by omega)
  have hB := two_blocks hT d h20 ht
  have e1 : (Sort.insertionSort (ltOf cf) d 0 20).size = d.size := (inserted hT d 0 20 (by omega) h20 fun p q _ h2 h3 => ht p q h2 (by omega)).1.1
  have hc2 : ∀ w1, SWb enc k w0 blk off (Sort.insertionSort (ltOf cf) d 0 20) w1 → Calls P 73 #[.slice (some ⟨blk, off, none⟩) d.size cap, .int .i64 20, .int .i64 d.size, .func (.func g) #[] cb] w1 fun e w' => e = .returned (.tuple #[]) ∧ SWb enc k w0 blk off (Sort.insertionSort (ltOf cf) (Sort.insertionSort (ltOf cf) d 0 20) 20 d.size) w' := fun w1 S1 => by
    have h := insertion_at (P := P) k L enc cf g cb w0 blk off cap 20 d.size (Sort.insertionSort (ltOf cf) d 0 20) w1 eg R (by rw [e1]; exact C) S1 h20 (by omega) (by omega)
    rwa [e1] at h
  generalize Sort.insertionSort (ltOf cf) (Sort.insertionSort (ltOf cf) d 0 20) 20 d.size = d2 at hB hc2
  generalize Sort.insertionSort (ltOf cf) d 0 20 = d1 at hc hc2 e1
  have hm : ∀ w1, SWb enc k w0 blk off d2 w1 → 20 < d.size → Calls P 74 #[.slice (some ⟨blk, off, none⟩) d.size cap, .int .i64 0, .int .i64 20, .int .i64 d.size, .func (.func g) #[] cb] w1 fun e w' => e = .returned (.tuple #[]) ∧ ∃ d', SWb enc k w0 blk off d' w' ∧ PermIn 0 d.size d2 d' ∧ SortedIn (ltT cf tg) 0 d.size d' := fun w1 S1 h =>
    merge_says k L enc cf tg hT g cb w0 blk off cap d.size eg R C (by omega) d.size 0 20 d.size d2 w1 S1 hB.2 (by omega) h (by omega) hB.1.1
  have HI := Lib.hid hB
  have HC2 := Lib.hid hc2
  have HMM := Lib.hid hm
  have z1 : (20 : Int) ≤ (d.size : Int) := by omega
  have z2 : ¬ (40 : Int) ≤ (d.size : Int) := by omega
  have z3' : ¬ (40 : Int) < (d.size : Int) := by omega
  clear S C ht hB e1 hc2 hm
  by_cases hn : 20 < d.size
  · have z4' : (20 : Int) < (d.size : Int) := by omega
    go_enter L.f63, Try.ntmps63
    go_wp2
    refine wp_loop_rounds 2 ?_
    rw [rounds_succ]
    go_wp2_with (go_at_fn 73; refine hc.mono ?_; clear hc; rintro e w1 ⟨rfl, S1⟩)
    rw [rounds_succ]
    go_wp2_with (go_at_fn 73; refine (HC2.out _ S1).mono ?_; rintro e w2 ⟨rfl, S2⟩)
    refine wp_loop_rounds 2 ?_
    rw [rounds_succ]
    go_wp2_with fail
    refine wp_loop_rounds 1 ?_
    rw [rounds_succ]
    go_wp2_with (go_at_fn 74; refine (HMM.out _ S2 hn).mono ?_; rintro e w3 ⟨rfl, d3, S3, hp, hs⟩)
    rw [rounds_succ]
    go_wp2_with fail
    go_end0
    exact ⟨rfl, d3, S3, permIn_trans _ _ _ _ _ HI.out.1 hp, hs⟩
  · have z4' : ¬ (20 : Int) < (d.size : Int) := by omega
    go_enter L.f63, Try.ntmps63
    go_wp2
    refine wp_loop_rounds 2 ?_
    rw [rounds_succ]
    go_wp2_with (go_at_fn 73; refine hc.mono ?_; clear hc; rintro e w1 ⟨rfl, S1⟩)
    rw [rounds_succ]
    go_wp2_with (go_at_fn 73; refine (HC2.out _ S1).mono ?_; rintro e w2 ⟨rfl, S2⟩)
    refine wp_loop_rounds 1 ?_
    rw [rounds_succ]
    go_wp2_with fail
    go_end0
    have e : d.size = 20 := by omega
    exact ⟨rfl, d2, S2, HI.out.1, by have h := HI.out.2.l; rwa [e]⟩
end
theorem sort39_at (v : Value) (ks : List Tm) (w : World) (hv : HasTs w v ks) (hn : ks.length < 40) (hs : ∀ t ∈ ks, t.size ≤ 1000000000000) : Calls Try.prog 15 #[v] w (NewTs w (sortT ks)) :=
  sort_at ks.length (by omega) (fun w0 blk hb => by
    by_cases h : ks.length < 20
    · exact stable_small (P := Try.prog) 8 Try.lo Ent.enc Ent.cf Ent.tag Ent.tot 36 #[] w0 blk 0 ks.length ks.length h (enters_of Try.func36 (by kernel_rfl) rfl) (Ent.row hb) Ent.cmp_says
    · exact stable_mid (P := Try.prog) 8 Try.lo Ent.enc Ent.cf Ent.tag Ent.tot 36 #[] w0 blk 0 ks.length ks.length (by omega) hn (enters_of Try.func36 (by kernel_rfl) rfl) (Ent.row hb) Ent.cmp_says) v ks w hv rfl hs
end Go.Proofs.Ytcicggpcmmnohaa
