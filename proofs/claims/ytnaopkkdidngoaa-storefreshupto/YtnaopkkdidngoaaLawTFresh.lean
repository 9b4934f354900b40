/-
  The law StoreFresh, walked.
-/
import Derived.Test.YtnaopkkdidngoaaStoO
namespace Go.Proofs.Ytnaopkkdidngoaa
open Go.RowKit Go.Shelf
set_option linter.unusedVariables false
set_option linter.unusedSimpArgs false

def U16At (n₀ : Nat) (w : World) (a : Option Addr) (len : Nat) : Prop := ∀ i, i < len → ∃ ad x, a = some ad ∧ ad.block < n₀ ∧ w.cell? (ad.add i) = some (.int .u16 x) ∧ 0 ≤ x ∧ x ≤ 65535
theorem adB (ad : Addr) (i : Nat) : (ad.add i).block = ad.block := by unfold Addr.add; split <;> rfl
def numT : Tm := .mk 2 1 (ByteArray.mk #[]) []
abbrev vL (i : Nat) : Tm := .mk 1 (i : Int) (ByteArray.mk #[]) []
theorem numT_met (σ : St) (v : Int) : ¬ Met σ v numT := by
  rintro ⟨n, h⟩
  cases h with
  | var _ h1 _ => cases h1
  | bound h _ => have := (St.val_some h).1; cases this
  | kid _ _ hU g => cases hU
theorem last_free {σ : St} {n : Nat} (hn : 0 < n) : (σ.fresh n).vs[σ.vs.length + n - 1]? = some none := by
  show (σ.vs ++ List.replicate n none)[_]? = _
  rw [List.getElem?_append_right (by omega), List.getElem?_replicate, if_pos (by omega)]
theorem last_fin {σ : St} {n : Nat} (hn : 0 < n) : (σ.fresh n).fin (vL (σ.vs.length + n - 1)) = vL (σ.vs.length + n - 1) := by
  refine St.fin_free ?_
  unfold St.val
  rw [if_pos (by rfl)]
  show (σ.fresh n).look ((σ.vs.length + n - 1 : Nat) : Int) = none
  rw [St.look_nat, last_free hn]; rfl
theorem fresh_len (σ : St) (n : Nat) : (σ.fresh n).vs.length = σ.vs.length + n := by
  show (σ.vs ++ List.replicate n none).length = _
  rw [List.length_append, List.length_replicate]
theorem bind_len (σ : St) (v : Nat) (T : Tm) : (σ.bind v T).vs.length = σ.vs.length := by
  show (σ.vs.set v (some T)).length = _
  rw [List.length_set]

set_option maxRecDepth 100000 in
set_option maxHeartbeats 8000000 in
theorem storeFresh_at (a : Option Addr) (len cap : Nat) (w : World) (hl : len ≤ cap) (hc : cap ≤ maxLen) (hU : U16At w.heap.size w a len) : Calls Try.prog 7 #[.slice a len cap] w (Gets w (.bool true)) := by
  have hlm : len ≤ 9223372036854775807 := by unfold maxLen at hc; omega
  go_enter Try.func7, Try.ntmps7
  go_wp2_with fail
  refine (shown10_at _).mono ?_
  rintro e w1 ⟨rfl, hB1⟩
  have H1 := Lib.hid hB1
  clear hB1
  go_wp2_with fail
  refine (new_at10 w1 w.heap.size H1.out.size).mono ?_
  rintro e w2 ⟨rfl, hB2, hlt2, hS2⟩
  have H2 := Lib.hid (And.intro (H1.out.trans (hB2.mono H1.out.size)) hS2)
  have HU := Lib.hid hU
  have HLC := Lib.hid (And.intro hl hc)
  generalize w1.heap.size = b at *
  clear hB2 hS2 hlt2 H1 hU hl hc
  go_wp2_with fail
  go_loopw [5, 6] (fun sm i wr => ∃ (c : Nat) (σ : St) (V L : Value), i = .int .i64 c ∧ sm = .int .i64 (σ.vs.length : Int) ∧ c ≤ len ∧ σ.vs.length ≤ 4096 ∧ Below w.heap.size w wr ∧ Hid (StAt (Oth wr b V L) w.heap.size wr b V L σ)) (fun _ i _ => len - (intOf i).toNat)
  case atStart => exact ⟨0, ⟨[], []⟩, _, _, rfl, rfl, Nat.zero_le _, Nat.zero_le _, H2.out.1, H2.out.2⟩
  case round =>
    obtain ⟨c, σ, V, L, rfl, rfl, hcl, hsl, hB, hS⟩ := hrel
    clear H2
    obtain ⟨sm, hsm⟩ : ∃ sm, sm = σ.vs.length := ⟨_, rfl⟩
    rw [← hsm] at hsl ⊢
    have HSM := Lib.hid hsm
    clear hsm
    by_cases hgo : c < len ∧ c < 50
    · obtain ⟨hlt, h50⟩ := hgo
      have hlti : (c : Int) < (len : Int) := by omega
      have h50i : (c : Int) < 50 := by omega
      obtain ⟨ad, x, rfl, hadb, hce, hx0, hx1⟩ := HU.out c hlt
      have hcell : wr.cell? (ad.add c) = some (.int .u16 x) := (hB.cell (p := ad.add c) (by rw [adB]; exact hadb)).trans hce
      clear hce
      obtain ⟨N, hN, hN6⟩ : ∃ N : Nat, x % 600 = (N : Int) ∧ N < 600 := ⟨(x % 600).toNat, by omega, by omega⟩
      go_wp2_with fail
      by_cases hbig : 4096 < sm + N
      · have hfb : σ.freshBad (N : Int) = 3 := by
          unfold St.freshBad
          rw [if_neg (by omega), ← HSM.out, if_pos (by omega)]
        refine (fresh_bad hS.out (N : Int) (by rw [hfb]; decide)).mono ?_
        rw [hfb]
        rintro e w5 ⟨rfl, rfl⟩
        have hbi : (sm : Int) + (N : Int) > 4096 := by omega
        have HN := Lib.hid (And.intro hN (And.intro hx0 hx1))
        clear hfb hcell hN hx0 hx1
        go_wp2_with fail
        go_roundw
        case rel => exact ⟨c + 1, σ, V, L, by simp, by rw [HSM.out], by omega, by rw [← HSM.out]; exact hsl, hB, hS⟩
        case measure => simp [intOf]; omega
      · refine (fresh_at10 hS.out hB.size N (by rw [← HSM.out]; omega)).mono ?_
        rw [← HSM.out]
        rintro e w5 ⟨rfl, V5, hS5, hM5⟩
        have H5 := Lib.hid (And.intro (hB.trans (Mut.below hS.out hM5 hB.size)) hS5)
        have hbi : ¬ ((sm : Int) + (N : Int) > 4096) := by omega
        have HN := Lib.hid (And.intro hN (And.intro hx0 hx1))
        clear hcell hN hx0 hx1 hB hS hS5 hM5
        have hfl : (σ.fresh N).vs.length = sm + N := by rw [fresh_len, HSM.out]
        by_cases hN0 : N = 0
        · have hnz : ¬ ((N : Int) > 0) := by omega
          have HFL := Lib.hid hfl
          clear hfl hN0
          go_wp2_with fail
          go_roundw
          case rel => exact ⟨c + 1, σ.fresh N, V5, L, by simp, by rw [HFL.out]; simp, by omega, by rw [HFL.out]; omega, H5.out.1, H5.out.2⟩
          case measure => simp [intOf]; omega
        · have hnz : (N : Int) > 0 := by omega
          have hN1 : 0 < N := by omega
          have hs1 : (sm : Int) + (N : Int) - 1 = ((sm + N - 1 : Nat) : Int) := by omega
          have HFL := Lib.hid (And.intro hfl (And.intro (show (σ.fresh N).vs[sm + N - 1]? = some none by rw [HSM.out]; exact last_free hN1) (show (σ.fresh N).fin (vL (sm + N - 1)) = vL (sm + N - 1) by rw [HSM.out]; exact last_fin hN1)))
          have hsz : ∀ i, (vL i).size ≤ 1000000000000 := fun i => by rw [vL, Tm.size_mk, Tm.sizes_nil]; omega
          clear hfl hN0 hN1
          go_wp2_with fail
          refine (let_at ((sm + N - 1 : Nat) : Int) w5 ⟨by omega, by omega⟩).mono ?_
          intro e w6 h6
          obtain ⟨k6, n6, s6, a6, l6, c6, rfl, hT6, hB6⟩ := h6.has
          have H6 := Lib.hid (And.intro (H5.out.1.trans (hB6.mono H5.out.1.size)) (And.intro (H5.out.2.step hB6) (show Has w6 _ (vL (sm + N - 1)) from hT6)))
          clear h6 hT6 hB6 H5
          go_wp2_with fail
          refine (walk_at H6.out.2.1 _ (vL (sm + N - 1)) H6.out.2.2 (by rw [HFL.out.2.2]; exact hsz _)).mono ?_
          intro e w7 h7
          rw [HFL.out.2.2] at h7
          obtain ⟨k7, n7, s7, a7, l7, c7, rfl, hT7, hB7⟩ := h7.has
          have H7 := Lib.hid (And.intro (H6.out.1.trans (hB7.mono H6.out.1.size)) (And.intro (H6.out.2.1.step hB7) hT7))
          clear h7 hT7 hB7 H6
          go_wp2_with fail
          refine (let_at ((sm + N - 1 : Nat) : Int) w7 ⟨by omega, by omega⟩).mono ?_
          intro e w8 h8
          obtain ⟨k8, n8, s8, a8, l8, c8, rfl, hT8, hB8⟩ := h8.has
          have H8 := Lib.hid (And.intro (H7.out.1.trans (hB8.mono H7.out.1.size)) (And.intro (H7.out.2.1.step hB8) (And.intro (Has.below H7.out.2.2 hB8) (show Has w8 _ (vL (sm + N - 1)) from hT8))))
          clear h8 hT8 hB8 H7
          go_wp2_with fail
          refine (same_at (vL (sm + N - 1)) (vL (sm + N - 1)) _ _ w8 H8.out.2.2.1 H8.out.2.2.2 (hsz _) (hsz _)).mono ?_
          rintro e w9 ⟨he, hB9⟩
          obtain rfl : e = .returned (.bool true) := he.trans (by simp)
          have H9 := Lib.hid (And.intro (H8.out.1.trans (hB9.mono H8.out.1.size)) (H8.out.2.1.step hB9))
          clear he hB9 H8
          go_wp2_with fail
          refine (num_at 1 w9 ⟨by omega, by omega⟩).mono ?_
          intro e w10 h10
          obtain ⟨k10, n10, s10, a10, l10, c10, rfl, hT10, hB10⟩ := h10.has
          have H10 := Lib.hid (And.intro (H9.out.1.trans (hB10.mono H9.out.1.size)) (And.intro (H9.out.2.step hB10) (show Has w10 _ numT from hT10)))
          clear h10 hT10 hB10 H9
          go_wp2_with fail
          refine (bind_at10 H10.out.2.1 H10.out.1.size (sm + N - 1) _ numT H10.out.2.2 (by rw [numT, Tm.size_mk, Tm.sizes_nil]; omega) HFL.out.2.1 (numT_met _ _)).mono ?_
          rintro e w11 ⟨rfl, L11, hS11, hM11⟩
          have H11 := Lib.hid (And.intro (H10.out.1.trans (Mut.below H10.out.2.1 hM11 H10.out.1.size)) hS11)
          clear hS11 hM11 H10
          go_wp2_with fail
          go_roundw
          case rel => exact ⟨c + 1, (σ.fresh N).bind (sm + N - 1) numT, V5, L11, by simp, by rw [bind_len, HFL.out.1]; simp, by omega, by rw [bind_len, HFL.out.1]; omega, H11.out.1, H11.out.2⟩
          case measure => simp [intOf]; omega
    · have hH := Lib.hid (And.intro hB hS.out)
      clear hB hS
      have fin : Calls Try.prog 11 #[.pointer (some ⟨b, 0, none⟩), .int .i64 (-1)] wr fun e w' => e = .returned (.tuple #[.int .i64 0, .int .i64 1]) ∧ w' = wr := by
        have hfb : σ.freshBad (-1) = 1 := by unfold St.freshBad; rw [if_pos (by decide)]
        have := fresh_bad hH.out.2 (-1) (by rw [hfb]; decide)
        rw [hfb] at this
        exact this
      have fin2 : ∀ w5, Below wr.heap.size wr w5 → ∀ k n s a l c, Has w5 (.agg #[.int .i64 k, .int .i64 n, .string s, .slice a l c]) numT → Calls Try.prog 12 #[.pointer (some ⟨b, 0, none⟩), .int .i64 (sm : Int), .agg #[.int .i64 k, .int .i64 n, .string s, .slice a l c]] w5 (Gets w5 (.int .i64 5)) := fun w5 hb5 k n s a l c hT => by
        have hbe : σ.bindE (sm : Int) numT = 5 := by
          unfold St.bindE
          rw [if_pos (by rw [← HSM.out]; omega)]
        have := bind_bad (hH.out.2.step hb5) (sm : Int) _ numT hT (by rw [numT, Tm.size_mk, Tm.sizes_nil]; omega) (by rw [hbe]; decide)
        rw [hbe] at this
        exact this
      have endW : ∀ w5, Below wr.heap.size wr w5 → Hid (Below w.heap.size w w5) := fun w5 hb => hH.out.1.trans (hb.mono hH.out.1.size)
      by_cases hlt : c < len
      · have hlti : (c : Int) < (len : Int) := by omega
        have h50i : ¬ ((c : Int) < 50) := by omega
        clear hgo hcl
        go_wp2_with fail
        refine fin.mono ?_
        rintro e w5 ⟨rfl, rfl⟩
        go_wp2_with fail
        refine (num_at 1 w5 ⟨by omega, by omega⟩).mono ?_
        intro e w6 h6
        obtain ⟨k6, n6, s6, a6, l6, c6, rfl, hT6, hB6⟩ := h6.has
        have HB6 := Lib.hid hB6
        have hT6 : Has w6 (.agg #[.int .i64 k6, .int .i64 n6, .string s6, .slice a6 l6 c6]) numT := hT6
        have HT6 := Lib.hid hT6
        clear h6 hB6 hT6
        go_wp2_with fail
        refine (fin2 w6 HB6.out _ _ _ _ _ _ HT6.out).mono ?_
        rintro e w7 ⟨rfl, hB7⟩
        have HE := endW w7 (HB6.out.trans (hB7.mono HB6.out.size))
        clear hB7
        go_wp2_with fail
        go_ret
        exact ⟨rfl, HE.out⟩
      · have hlti : ¬ ((c : Int) < (len : Int)) := by omega
        clear hgo hcl
        go_wp2_with fail
        refine fin.mono ?_
        rintro e w5 ⟨rfl, rfl⟩
        go_wp2_with fail
        refine (num_at 1 w5 ⟨by omega, by omega⟩).mono ?_
        intro e w6 h6
        obtain ⟨k6, n6, s6, a6, l6, c6, rfl, hT6, hB6⟩ := h6.has
        have HB6 := Lib.hid hB6
        have hT6 : Has w6 (.agg #[.int .i64 k6, .int .i64 n6, .string s6, .slice a6 l6 c6]) numT := hT6
        have HT6 := Lib.hid hT6
        clear h6 hB6 hT6
        go_wp2_with fail
        refine (fin2 w6 HB6.out _ _ _ _ _ _ HT6.out).mono ?_
        rintro e w7 ⟨rfl, hB7⟩
        have HE := endW w7 (HB6.out.trans (hB7.mono HB6.out.size))
        clear hB7
        go_wp2_with fail
        go_ret
        exact ⟨rfl, HE.out⟩
end Go.Proofs.Ytnaopkkdidngoaa
