/-
  The walk of latt's closeUp: behind it the rows up are the reflexive and transitive closure of what they were.
-/
import Derived.Test.YtnkfjomnpnbidaaZLatt2n3
import Derived.ScopeJumps
namespace Go.Proofs.Ytnkfjomnpnbidaa
open Go.RowKit

/-- How many bits are missing in the rows up, read off memory. -/
def missW (b : Nat) (w : World) : Nat := sumTo (fun a => match w.cell? ⟨b, 1 + a, none⟩ with | some (.int _ x) => missRow (fun i => x.toNat.testBit i) 16 | _ => 0) 16

theorem missW_eq {w : World} {b : Nat} {n : Int} {U D : Nat → Nat → Bool} (L : LatAt w b n U D) : missW b w = miss U := by
  unfold missW miss
  refine sumTo_congr 16 fun a ha => ?_
  rw [L.up a ha]
  refine missRow_congr 16 fun i hi => ?_
  rw [S_toNat, testBit_encTo]; simp [hi]

/-- What holds when the rows up have each level in its own row: at the label. -/
def AtLabel (w : World) (b n : Nat) (U0 D : Nat → Nat → Bool) (w' : World) : Prop :=
  ∃ U, LatAt w' b n U D ∧ Only b w w' ∧ Inv n U0 U ∧ ∀ a, a < n → U a a = true

/-- What holds in the midst of a pass that began at Us. -/
def PassAt (w : World) (b n : Nat) (U0 D Us : Nat → Nat → Bool) (g : Bool) (k j : Nat) (w' : World) : Prop :=
  ∃ U, LatAt w' b n U D ∧ Only b w w' ∧ Inv n U0 U ∧ (∀ a, a < n → U a a = true) ∧ (g = true → miss U < miss Us) ∧
    (g = false → U = Us ∧ ∀ x y, x < n → y < n → (x < k ∨ x = k ∧ y < j) → ok Us x y)

/-- The closure, in memory. -/
def Closed (w : World) (b n : Nat) (U0 D : Nat → Nat → Bool) (w' : World) : Prop :=
  ∃ U, LatAt w' b n U D ∧ Only b w w' ∧ Inv n U0 U ∧ (∀ a, a < n → U a a = true) ∧ ∀ x y, x < n → y < n → ok U x y

theorem PassAt.start {w w' : World} {b n : Nat} {U0 D U : Nat → Nat → Bool} (L : LatAt w' b n U D) (o : Only b w w') (i : Inv n U0 U) (r : ∀ a, a < n → U a a = true) : PassAt w b n U0 D U false 0 0 w' :=
  ⟨U, L, o, i, r, by simp, fun _ => ⟨rfl, fun x y _ _ h => by omega⟩⟩
theorem PassAt.next {w w' : World} {b n k : Nat} {g : Bool} {U0 D Us : Nat → Nat → Bool} (h : PassAt w b n U0 D Us g k n w') : PassAt w b n U0 D Us g (k + 1) 0 w' := by
  obtain ⟨U, L, o, i, r, h1, h2⟩ := h
  exact ⟨U, L, o, i, r, h1, fun e => ⟨(h2 e).1, fun x y hx hy hxy => (h2 e).2 x y hx hy (by omega)⟩⟩
theorem PassAt.drewN {w w' : World} {b n k j : Nat} {g : Bool} {U0 D Us : Nat → Nat → Bool} (h : PassAt w b n U0 D Us g k j w') (m : Nat) : PassAt w b n U0 D Us g k j (w'.drewN m) := by
  obtain ⟨U, L, o, i, r, h1, h2⟩ := h
  exact ⟨U, L.drewN m, o.drewN m, i, r, h1, h2⟩
theorem PassAt.stay {w w' : World} {b n k j : Nat} {g : Bool} {U0 D Us U : Nat → Nat → Bool} (L : LatAt w' b n U D) (o : Only b w w') (i : Inv n U0 U) (r : ∀ a, a < n → U a a = true) (h1 : g = true → miss U < miss Us)
    (h2 : g = false → U = Us ∧ ∀ x y, x < n → y < n → (x < k ∨ x = k ∧ y < j) → ok Us x y) (hok : ok U k j) : PassAt w b n U0 D Us g k (j + 1) w' := by
  refine ⟨U, L, o, i, r, h1, fun e => ⟨(h2 e).1, fun x y hx hy hxy => ?_⟩⟩
  by_cases e2 : x = k ∧ y = j
  · obtain ⟨rfl, rfl⟩ := e2; rw [← (h2 e).1]; exact hok
  · exact (h2 e).2 x y hx hy (by omega)
theorem PassAt.grow {w w' : World} {b n k j : Nat} {g : Bool} {U0 D Us U : Nat → Nat → Bool} (hn : n ≤ 16) (hk : k < n) (hj : j < n) (L : LatAt w' b n U D) (o : Only b w w') (i : Inv n U0 U) (r : ∀ a, a < n → U a a = true) (h1 : g = true → miss U < miss Us)
    (h2 : g = false → U = Us ∧ ∀ x y, x < n → y < n → (x < k ∨ x = k ∧ y < j) → ok Us x y) (hkj : U k j = true) (hm : (S (minus (U j) (U k)) != 0) = true) :
    PassAt w b n U0 D Us true k (j + 1) (w'.setCell ⟨b, 1 + k, none⟩ (.int .u16 (S (union (U k) (U j))))) := by
  have hlt : miss (upd U k (union (U k) (U j))) < miss U := by
    have hne : S (minus (U j) (U k)) ≠ 0 := by simpa using hm
    have : ∃ q, q < 16 ∧ minus (U j) (U k) q = true := by
      apply Classical.byContradiction
      intro hno
      refine hne ((S_zero_iff _).2 fun q hq => ?_)
      cases hq2 : minus (U j) (U k) q
      · rfl
      · exact absurd ⟨q, hq, hq2⟩ hno
    obtain ⟨q, hq, hq2⟩ := this
    simp [minus] at hq2
    exact miss_upd (by omega) (fun i _ hi => by simp [union, hi]) hq hq2.2 (by simp [union, hq2.1])
  refine ⟨upd U k (union (U k) (U j)), L.setUp k (by omega) _, o.setCell _ _, i.upd hk hj hn hkj, fun a ha => ?_, fun _ => ?_, by simp⟩
  · by_cases e : a = k
    · subst e; simp [upd, union, r a ha]
    · simp [upd, e, r a ha]
  · cases g
    · rw [← (h2 rfl).1]; exact hlt
    · exact Nat.lt_trans hlt (h1 rfl)
theorem ok_of_no {U : Nat → Nat → Bool} {k j : Nat} (h : U k j = false) : ok U k j := fun e => by rw [h] at e; cases e
theorem ok_of_all {U : Nat → Nat → Bool} {k j : Nat} (h : (S (minus (U j) (U k)) != 0) = false) : ok U k j := fun _ i hi hji => by
  have h0 : S (minus (U j) (U k)) = 0 := by simpa using h
  have := (S_zero_iff _).1 h0 i hi
  simp [minus, hji] at this
  exact this
theorem PassAt.done {w w' : World} {b n : Nat} {U0 D Us : Nat → Nat → Bool} (h : PassAt w b n U0 D Us false n 0 w') : Closed w b n U0 D w' := by
  obtain ⟨U, L, o, i, r, _, h2⟩ := h
  obtain ⟨rfl, h3⟩ := h2 rfl
  exact ⟨U, L, o, i, r, fun x y hx hy => h3 x y hx hy (Or.inl hx)⟩
theorem PassAt.label {w w' : World} {b n k j : Nat} {g : Bool} {U0 D Us : Nat → Nat → Bool} (h : PassAt w b n U0 D Us g k j w') : AtLabel w b n U0 D w' := by
  obtain ⟨U, L, o, i, r, _, _⟩ := h
  exact ⟨U, L, o, i, r⟩
theorem PassAt.less {w w' ws : World} {b n k j : Nat} {U0 D Us : Nat → Nat → Bool} (h : PassAt w b n U0 D Us true k j w') (Ls : LatAt ws b n Us D) : missW b w' < missW b ws := by
  obtain ⟨U, L, o, i, r, h1, _⟩ := h
  rw [missW_eq L, missW_eq Ls]; exact h1 rfl

/-- Each level in its own row, as far as that has been done. -/
def reflTo (U : Nat → Nat → Bool) (k : Nat) : Nat → Nat → Bool := fun a i => U a i || (decide (a < k) && i == a)
theorem reflTo_zero (U : Nat → Nat → Bool) (a i : Nat) : U a i = reflTo U 0 a i := by simp [reflTo]
theorem reflTo_succ (U : Nat → Nat → Bool) (k a i : Nat) : upd (reflTo U k) k (union (reflTo U k k) (one k)) a i = reflTo U (k + 1) a i := by
  rw [Bool.eq_iff_iff]
  by_cases e : a = k
  · subst e; simp [upd, union, one, reflTo]
  · have : (a < k + 1) ↔ a < k := by omega
    simp [upd, reflTo, e, this]
theorem reflTo_inv (n : Nat) (U : Nat → Nat → Bool) (hU : ∀ a i, a < n → i < 16 → U a i = true → i < n) : Inv n U (reflTo U n) := by
  refine ⟨fun a i _ _ h => by simp [reflTo, h], fun a i ha hi h => ?_⟩
  simp [reflTo] at h
  rcases h with h | h
  · exact .one ⟨ha, hU a i ha hi h, h⟩
  · rw [h.2]; exact .refl a

def ReflAt (w : World) (b n : Nat) (U D : Nat → Nat → Bool) (k : Nat) (w' : World) : Prop := LatAt w' b n (reflTo U k) D ∧ Only b w w'

def JumpAt (w : World) (b n : Nat) (U0 D : Nat → Nat → Bool) (a' : Act) (w' : World) : Prop :=
  AtLabel w b n U0 D w' ∧ ∃ u2 u3 u4 u5 u6 u7 u8 u9 u10 u11 u12 u13 u14 u15 u16 u17 u18 u19 u20 u21 u22 u23 u24 u25 u26 u27 u28 u29 u30 u31 u32 u33 u34 u35 u36 u37 u38 u39 u40 u41 u42 u43 u44 u45 u46 u47 u48 u49 u50 u51 u52 u53 u54 u55 u56 u57 u58 u59 u60 u61 u62 u63 u64 u65 u66 u67 u68 u69 u70 u71 u72 u73 u74 u75 u76 u77 u78 : Value, a' = { tmps := #[.pointer (some ⟨b, 0, none⟩), undef, u2, u3, u4, u5, u6, u7, u8, u9, u10, u11, u12, u13, u14, u15, u16, u17, u18, u19, u20, u21, u22, u23, u24, u25, u26, u27, u28, u29, u30, u31, u32, u33, u34, u35, u36, u37, u38, u39, u40, u41, u42, u43, u44, u45, u46, u47, u48, u49, u50, u51, u52, u53, u54, u55, u56, u57, u58, u59, u60, u61, u62, u63, u64, u65, u66, u67, u68, u69, u70, u71, u72, u73, u74, u75, u76, u77, u78], defers := [] }

set_option maxRecDepth 100000 in
set_option maxHeartbeats 4000000 in
theorem closeUp_at (b n : Nat) (U D : Nat → Nat → Bool) (w : World) (hn : n ≤ 16) (hU : ∀ a i, a < n → i < 16 → U a i = true → i < n) (L : LatAt w b n U D) :
    Calls Try.prog 48 #[.pointer (some ⟨b, 0, none⟩)] w fun e w' => e = .returned (.tuple #[]) ∧ Closed w b n U D w' := by
  have hlen := L.len
  have hn' : (n : Int) ≤ 16 := by omega
  have HI := Lib.hid (reflTo_inv n U hU)
  clear hU
  go_enter Try.func48, Try.ntmps48
  go_wp2
  refine wp_scope_jumps 0 (JumpAt w b n U D) (fun _ w' => missW b w') rfl ?_ ?_
  · go_wp2
    go_loopw [10] (fun i w2 => ∃ k : Nat, k ≤ n ∧ i = .int .i64 k ∧ ReflAt w b n U D k w2) (fun i _ => n - (intOf i).toNat)
    case atStart => exact ⟨0, Nat.zero_le _, rfl, L.congr (fun a i _ _ => reflTo_zero U a i) (fun _ _ _ _ => rfl), Only.refl b w⟩
    case round =>
      clear hlen
      obtain ⟨k, hk, rfl, R1, R2⟩ := hrel
      have HR2 := Lib.hid R2
      clear R2
      by_cases hlt : k < n
      · have hk1 := R1.up k (by omega)
        have k0 : (0 : Int) ≤ (k : Int) := by omega
        have k1 : (k : Int) < 16 := by omega
        go_wp2
        go_still_tail 12, (by kernel_rfl)
        still_call (only_still _ _ k0 k1)
        repeat still_step
        refine wpStill_nil ?_
        change wpList _ _ _ _ _ wr.drew
        have L3 : LatAt wr.drew b n (reflTo U k) D := R1.drewN 1
        have HO3 : Hid (Only b w wr.drew) := HR2.out.drewN 1
        have hk3 := L3.up k (by omega)
        have hf3 := L3.nf (1 + k)
        clear hk1 R1 HR2
        generalize wr.drew = w3 at *
        go_wp2
        go_roundw
        case rel => exact ⟨k + 1, by omega, by go_num, (L3.setUp k (by omega) _).congr (fun a i _ _ => reflTo_succ U k a i) (fun _ _ _ _ => rfl), HO3.out.setCell _ _⟩
        case measure => simp [intOf]; omega
      · obtain rfl : n = k := by omega
        have A : AtLabel w b n U D wr := ⟨reflTo U n, R1, HR2.out, HI.out, fun a ha => by simp [reflTo, ha]⟩
        clear R1 HR2
        go_wp2
        go_step3
        obtain ⟨Us, Ls, Os, Is, Rs⟩ := A
        have HP := Lib.hid (PassAt.start Ls Os Is Rs)
        have hlen := Ls.len
        clear Ls Os Is Rs
        go_wp2
        go_loopw [3, 30] (fun gv i w2 => ∃ (k : Nat) (g : Bool), k ≤ n ∧ i = .int .i64 k ∧ gv = .bool g ∧ PassAt w b n U D Us g k 0 w2) (fun _ i _ => n - (intOf i).toNat)
        case atStart => exact ⟨0, false, Nat.zero_le _, rfl, rfl, HP.out⟩
        case round =>
          obtain ⟨k, g, hk, rfl, rfl, F⟩ := hrel
          clear hlen
          have hlen : wr.cell? ⟨b, 0, none⟩ = some (.int .i64 n) := by obtain ⟨U1, L1, _⟩ := F; exact L1.len
          by_cases hlt : k < n
          · go_wp2
            go_loopw [3, 37] (fun gv i w2 => ∃ (j : Nat) (g : Bool), j ≤ n ∧ i = .int .i64 j ∧ gv = .bool g ∧ PassAt w b n U D Us g k j w2) (fun _ i _ => n - (intOf i).toNat)
            case atStart => exact ⟨0, g, Nat.zero_le _, rfl, rfl, F⟩
            case round =>
              clear hlen F
              obtain ⟨j, g, hj, rfl, rfl, F⟩ := hrel
              by_cases hlt2 : j < n
              · obtain ⟨U1, L1, O1, I1, R1, G1, G2⟩ := F
                have HO := Lib.hid O1
                have HI1 := Lib.hid I1
                have HR := Lib.hid R1
                have HG1 := Lib.hid G1
                have HG2 := Lib.hid G2
                have hk1 := L1.up k (by omega)
                have hj1 := L1.up j (by omega)
                have hf1 := L1.nf (1 + k)
                have k1 : (k : Int) < 16 := by omega
                have j1 : (j : Int) < 16 := by omega
                clear O1 I1 R1 G1 G2
                cases hu : U1 k j
                · have HQ := Lib.hid (show leqB n U1 k j = false by rw [leqB_in hlt hlt2, hu])
                  have HU := Lib.hid hu
                  clear hu
                  go_wp2
                  go_quiet ((go_at_call 22; (with_reducible refine Reads.quiet (leq_is b n k j U1 D _ _ hn' ?_ HQ.out)); exact L1.drewN _))
                  go_wp2
                  go_roundw
                  case rel => exact ⟨j + 1, g, by omega, by go_num, rfl, (PassAt.stay L1 HO.out HI1.out HR.out HG1.out HG2.out (ok_of_no HU.out)).drewN _⟩
                  case measure => simp [intOf]; omega
                · have HQ := Lib.hid (show leqB n U1 k j = true by rw [leqB_in hlt hlt2, hu])
                  have HU := Lib.hid hu
                  clear hu
                  by_cases hm : (S (minus (U1 j) (U1 k)) != 0) = true
                  · have HM := Lib.hid hm
                    go_wp2
                    go_quiet ((go_at_call 22; (with_reducible refine Reads.quiet (leq_is b n k j U1 D _ _ hn' ?_ HQ.out)); exact L1.drewN _))
                    go_wp2
                    obtain ⟨w2, hw2⟩ : ∃ w2, w2 = wr.drewN nq := ⟨_, rfl⟩
                    rw [← hw2]
                    have L2 : LatAt w2 b n U1 D := by rw [hw2]; exact L1.drewN nq
                    have HO2 : Hid (Only b w w2) := by rw [hw2]; exact HO.out.drewN nq
                    clear hw2 hk1 hj1 hf1 L1 HO
                    have hk2 := L2.up k (by omega)
                    have hj2 := L2.up j (by omega)
                    go_still_tail 16, (by kernel_rfl)
                    change wpList _ _ _ _ _ w2.drew
                    have L3 : LatAt w2.drew b n U1 D := L2.drewN 1
                    have HO3 : Hid (Only b w w2.drew) := HO2.out.drewN 1
                    have hk3 := L3.up k (by omega)
                    have hf3 := L3.nf (1 + k)
                    clear hk2 hj2 L2 HO2
                    generalize w2.drew = w3 at *
                    go_wp2
                    go_roundw
                    case rel => exact ⟨j + 1, true, by omega, by go_num, rfl, PassAt.grow hn hlt hlt2 L3 HO3.out HI1.out HR.out HG1.out HG2.out HU.out HM.out⟩
                    case measure => simp [intOf]; omega
                  · have hm' : (S (minus (U1 j) (U1 k)) != 0) = false := by simpa using hm
                    clear hm
                    have HM := Lib.hid hm'
                    go_wp2
                    go_quiet ((go_at_call 22; (with_reducible refine Reads.quiet (leq_is b n k j U1 D _ _ hn' ?_ HQ.out)); exact L1.drewN _))
                    go_wp2
                    go_roundw
                    case rel => exact ⟨j + 1, g, by omega, by go_num, rfl, (PassAt.stay L1 HO.out HI1.out HR.out HG1.out HG2.out (ok_of_all HM.out)).drewN _⟩
                    case measure => simp [intOf]; omega
              · obtain rfl : j = n := by omega
                have FN := F.next
                go_wp2
                go_roundw
                case rel => exact ⟨k + 1, g, by omega, by go_num, rfl, FN⟩
                case measure => simp [intOf]; omega
          · obtain rfl : k = n := by omega
            cases g
            · have FD := F.done
              go_wp2
              simp only [Exit.jump]
              go_end0
              exact ⟨rfl, FD⟩
            · have FA := F.label
              go_wp2
              go_step3
              exact ⟨rfl, FA, _, _, _, _, _, _, _, _, _, _, _, _, _, _, _, _, _, _, _, _, _, _, _, _, _, _, _, _, _, _, _, _, _, _, _, _, _, _, _, _, _, _, _, _, _, _, _, _, _, _, _, _, _, _, _, _, _, _, _, _, _, _, _, _, _, _, _, _, _, _, _, _, _, _, _, _, _, rfl⟩
  · rintro a' w' ⟨A, u2, u3, u4, u5, u6, u7, u8, u9, u10, u11, u12, u13, u14, u15, u16, u17, u18, u19, u20, u21, u22, u23, u24, u25, u26, u27, u28, u29, u30, u31, u32, u33, u34, u35, u36, u37, u38, u39, u40, u41, u42, u43, u44, u45, u46, u47, u48, u49, u50, u51, u52, u53, u54, u55, u56, u57, u58, u59, u60, u61, u62, u63, u64, u65, u66, u67, u68, u69, u70, u71, u72, u73, u74, u75, u76, u77, u78, rfl⟩
    obtain ⟨Us, Ls, Os, Is, Rs⟩ := A
    have HP := Lib.hid (PassAt.start Ls Os Is Rs)
    have HLs := Lib.hid Ls
    have hlen := Ls.len
    clear Ls Os Is Rs
    go_wp2
    go_loopw [3, 30] (fun gv i w2 => ∃ (k : Nat) (g : Bool), k ≤ n ∧ i = .int .i64 k ∧ gv = .bool g ∧ PassAt w b n U D Us g k 0 w2) (fun _ i _ => n - (intOf i).toNat)
    case atStart => exact ⟨0, false, Nat.zero_le _, rfl, rfl, HP.out⟩
    case round =>
      obtain ⟨k, g, hk, rfl, rfl, F⟩ := hrel
      clear hlen
      have hlen : wr.cell? ⟨b, 0, none⟩ = some (.int .i64 n) := by obtain ⟨U1, L1, _⟩ := F; exact L1.len
      by_cases hlt : k < n
      · go_wp2
        go_loopw [3, 37] (fun gv i w2 => ∃ (j : Nat) (g : Bool), j ≤ n ∧ i = .int .i64 j ∧ gv = .bool g ∧ PassAt w b n U D Us g k j w2) (fun _ i _ => n - (intOf i).toNat)
        case atStart => exact ⟨0, g, Nat.zero_le _, rfl, rfl, F⟩
        case round =>
          clear hlen F
          obtain ⟨j, g, hj, rfl, rfl, F⟩ := hrel
          by_cases hlt2 : j < n
          · obtain ⟨U1, L1, O1, I1, R1, G1, G2⟩ := F
            have HO := Lib.hid O1
            have HI1 := Lib.hid I1
            have HR := Lib.hid R1
            have HG1 := Lib.hid G1
            have HG2 := Lib.hid G2
            have hk1 := L1.up k (by omega)
            have hj1 := L1.up j (by omega)
            have hf1 := L1.nf (1 + k)
            have k1 : (k : Int) < 16 := by omega
            have j1 : (j : Int) < 16 := by omega
            clear O1 I1 R1 G1 G2
            cases hu : U1 k j
            · have HQ := Lib.hid (show leqB n U1 k j = false by rw [leqB_in hlt hlt2, hu])
              have HU := Lib.hid hu
              clear hu
              go_wp2
              go_quiet ((go_at_call 22; (with_reducible refine Reads.quiet (leq_is b n k j U1 D _ _ hn' ?_ HQ.out)); exact L1.drewN _))
              go_wp2
              go_roundw
              case rel => exact ⟨j + 1, g, by omega, by go_num, rfl, (PassAt.stay L1 HO.out HI1.out HR.out HG1.out HG2.out (ok_of_no HU.out)).drewN _⟩
              case measure => simp [intOf]; omega
            · have HQ := Lib.hid (show leqB n U1 k j = true by rw [leqB_in hlt hlt2, hu])
              have HU := Lib.hid hu
              clear hu
              by_cases hm : (S (minus (U1 j) (U1 k)) != 0) = true
              · have HM := Lib.hid hm
                go_wp2
                go_quiet ((go_at_call 22; (with_reducible refine Reads.quiet (leq_is b n k j U1 D _ _ hn' ?_ HQ.out)); exact L1.drewN _))
                go_wp2
                obtain ⟨w2, hw2⟩ : ∃ w2, w2 = wr.drewN nq := ⟨_, rfl⟩
                rw [← hw2]
                have L2 : LatAt w2 b n U1 D := by rw [hw2]; exact L1.drewN nq
                have HO2 : Hid (Only b w w2) := by rw [hw2]; exact HO.out.drewN nq
                clear hw2 hk1 hj1 hf1 L1 HO
                have hk2 := L2.up k (by omega)
                have hj2 := L2.up j (by omega)
                go_still_tail 16, (by kernel_rfl)
                change wpList _ _ _ _ _ w2.drew
                have L3 : LatAt w2.drew b n U1 D := L2.drewN 1
                have HO3 : Hid (Only b w w2.drew) := HO2.out.drewN 1
                have hk3 := L3.up k (by omega)
                have hf3 := L3.nf (1 + k)
                clear hk2 hj2 L2 HO2
                generalize w2.drew = w3 at *
                go_wp2
                go_roundw
                case rel => exact ⟨j + 1, true, by omega, by go_num, rfl, PassAt.grow hn hlt hlt2 L3 HO3.out HI1.out HR.out HG1.out HG2.out HU.out HM.out⟩
                case measure => simp [intOf]; omega
              · have hm' : (S (minus (U1 j) (U1 k)) != 0) = false := by simpa using hm
                clear hm
                have HM := Lib.hid hm'
                go_wp2
                go_quiet ((go_at_call 22; (with_reducible refine Reads.quiet (leq_is b n k j U1 D _ _ hn' ?_ HQ.out)); exact L1.drewN _))
                go_wp2
                go_roundw
                case rel => exact ⟨j + 1, g, by omega, by go_num, rfl, (PassAt.stay L1 HO.out HI1.out HR.out HG1.out HG2.out (ok_of_all HM.out)).drewN _⟩
                case measure => simp [intOf]; omega
          · obtain rfl : j = n := by omega
            have FN := F.next
            go_wp2
            go_roundw
            case rel => exact ⟨k + 1, g, by omega, by go_num, rfl, FN⟩
            case measure => simp [intOf]; omega
      · obtain rfl : k = n := by omega
        cases g
        · have FD := F.done
          go_wp2
          simp only [Exit.jump]
          go_end0
          exact ⟨rfl, FD⟩
        · have FA := F.label
          have FL := F.less HLs.out
          go_wp2
          go_step3
          exact ⟨rfl, ⟨FA, _, _, _, _, _, _, _, _, _, _, _, _, _, _, _, _, _, _, _, _, _, _, _, _, _, _, _, _, _, _, _, _, _, _, _, _, _, _, _, _, _, _, _, _, _, _, _, _, _, _, _, _, _, _, _, _, _, _, _, _, _, _, _, _, _, _, _, _, _, _, _, _, _, _, _, _, _, rfl⟩, FL⟩
end Go.Proofs.Ytnkfjomnpnbidaa
