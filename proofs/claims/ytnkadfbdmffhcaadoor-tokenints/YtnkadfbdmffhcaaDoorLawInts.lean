/-
  The walk of TokenInts.
-/
import Derived.Test.YtnkadfbdmffhcaaDoorTokFig
import Derived.Test.YtnkadfbdmffhcaaDoorTokAw
namespace Go.Proofs.YtnkadfbdmffhcaaDoor
open Go.RowKit Go.Lib
set_option linter.unusedVariables false

theorem wrap_back (n : Nat) (h : n < 18446744073709551616) : IntKind.u64.wrap (IntKind.i64.wrap (n : Int)) = (n : Int) := by
  rw [IntKind.wrap_u64, IntKind.wrap_i64]; omega

set_option maxRecDepth 100000 in
set_option maxHeartbeats 8000000 in
theorem tokenInts_at (a b : Int) (w : World) (L : Laid w) (E : ErrT w) (ha : 0 ≤ a ∧ a ≤ 18446744073709551615) (hb : 0 ≤ b ∧ b ≤ 255) :
    Calls Tryd.prog 7 #[.int .u64 a, .int .u8 b] w (Ans w (.bool true)) := by
  obtain ⟨n, rfl⟩ : ∃ n : Nat, a = n := ⟨a.toNat, by omega⟩
  obtain ⟨m, rfl⟩ : ∃ m : Nat, b = m := ⟨b.toNat, by omega⟩
  have hn : n < 18446744073709551616 := by omega
  have hm : m < 18446744073709551616 := by omega
  have h0 := shown_at w L
  have fn := fun W => figures_at n hn W
  have fm := fun W => figures_at m hm W
  have ln : (fig n).length ≤ 20 := fig_length 19 n (by omega)
  have lm : (fig m).length ≤ 20 := fig_length 19 m (by omega)
  have fa : ({ data := #[32] } ++ strV (fig n) : ByteArray).data.toList = 32 :: fig n := by rw [app_list, strV_list]; rfl
  have fb : (strV (fig n) ++ { data := #[46] } ++ strV (fig m)).data.toList = fig n ++ [46] ++ fig m := by rw [app_list, app_list, strV_list, strV_list]
  have za : ({ data := #[32] } ++ strV (fig n) : ByteArray).size ≤ 4096 := by rw [len_of fa]; simp; omega
  have zb : (strV (fig n) ++ { data := #[46] } ++ strV (fig m)).size ≤ 4096 := by rw [len_of fb]; simp; omega
  have sa := fun W hW => scan_at _ _ fa W (L.later hW) (by omega)
  have sb := fun W hW => scan_at _ _ fb W (L.later hW) (by omega)
  rw [full_int n hn] at sa
  rw [full_point n m ln lm] at sb
  have wb := wrap_back n hn
  have zn : (strV (fig n)).size ≤ 20 := by rw [strV_size]; exact ln
  have zm : (strV (fig m)).size ≤ 20 := by rw [strV_size]; exact lm
  have HE := Lib.hid E
  clear fa fb za zb L E ln lm
  generalize strV (fig n) = S at *
  generalize strV (fig m) = T at *
  by_cases hbig : 9223372036854775808 < n
  · rw [if_pos hbig] at sa
    have hbig' : (9223372036854775808 : Int) < (n : Int) := by omega
    clear hbig wb
    go_enter Tryd.func7, Tryd.ntmps7
    go_wp2_with (first
      | (go_at_call 17; with_reducible refine (code_at x3 2 _ (HE.out.later b5)).mono ?_; rintro e w6 ⟨rfl, hb6⟩; have b6 := bel b5 hb6)
      | (go_at_call 16; with_reducible refine (sb _ ?_).mono ?_; exact b4; intro e w5 hsp; obtain ⟨x5, rfl, hb5⟩ := hsp.bad; clear hsp; have b5 := bel b4 hb5)
      | (go_at_call 19; (with_reducible refine (fm _).mono ?_); rintro e w4 ⟨rfl, hb4⟩; have b4 := bel b3 hb4)
      | (go_at_call 16; with_reducible refine (sa _ ?_).mono ?_; exact b2; intro e w3 hsp; obtain ⟨x3, rfl, hb3⟩ := hsp.bad; clear hsp; have b3 := bel b2 hb3)
      | (go_at_call 19; (with_reducible refine (fn _).mono ?_); rintro e w2 ⟨rfl, hb2⟩; have b2 := bel hb1 hb2)
      | (go_at_call 10; refine h0.mono ?_; rintro e w1 ⟨rfl, hb1⟩))
    go_ret
    exact ⟨rfl, b6⟩
  · rw [if_neg hbig] at sa
    have hbig' : ¬ (9223372036854775808 : Int) < (n : Int) := by omega
    clear hbig
    generalize IntKind.i64.wrap (n : Int) = z at *
    go_enter Tryd.func7, Tryd.ntmps7
    go_wp2_with (first
      | (go_at_call 17; with_reducible refine (code_at x5 4 _ (HE.out.later b5)).mono ?_; rintro e w6 ⟨rfl, hb6⟩; have b6 := bel b5 hb6)
      | (go_at_call 16; with_reducible refine (sb _ ?_).mono ?_; exact b4; intro e w5 hsp; obtain ⟨x5, rfl, hb5⟩ := hsp.bad; clear hsp; have b5 := bel b4 hb5; obtain ⟨g, cp, e1, -, -, q0, -, q2, -, -⟩ := (OwnTk.below (OwnTk.below o3 hb4) hb5).cells (i := 0) rfl; cases e1; dsimp only at q0 q2; simp only [Nat.zero_mul, Nat.zero_add] at q0 q2)
      | (go_at_call 19; (with_reducible refine (fm _).mono ?_); rintro e w4 ⟨rfl, hb4⟩; have b4 := bel b3 hb4)
      | (go_at_call 16; with_reducible refine (sa _ ?_).mono ?_; exact b2; intro e w3 hsp; obtain ⟨a3, c3, rfl, o3, hb3⟩ := hsp.ok; clear hsp; have b3 := bel b2 hb3)
      | (go_at_call 19; (with_reducible refine (fn _).mono ?_); rintro e w2 ⟨rfl, hb2⟩; have b2 := bel hb1 hb2)
      | (go_at_call 10; refine h0.mono ?_; rintro e w1 ⟨rfl, hb1⟩))
    go_ret
    exact ⟨rfl, b6⟩
end Go.Proofs.YtnkadfbdmffhcaaDoor
