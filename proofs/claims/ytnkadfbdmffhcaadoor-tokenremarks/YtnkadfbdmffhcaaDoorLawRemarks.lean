/-
  The walk of TokenRemarks.
-/
import Derived.Test.YtnkadfbdmffhcaaDoorTokSame
import Derived.Test.YtnkadfbdmffhcaaDoorTokMR
import Derived.Test.YtnkadfbdmffhcaaDoorTokN
namespace Go.Proofs.YtnkadfbdmffhcaaDoor
open Go.RowKit Go.Lib
set_option linter.unusedVariables false

set_option maxRecDepth 100000 in
set_option maxHeartbeats 8000000 in
theorem tokenRemarks_at (s t : ByteArray) (w : World) (L : Laid w) (hs : s.size ≤ 9223372036854775807) (ht : t.size ≤ 9223372036854775807) :
    Calls Tryd.prog 9 #[.string s, .string t] w (Ans w (.bool true)) := by
  have h0 := shown_at w L
  by_cases g1 : 1000 < s.size
  · have g1' : (1000 : Int) < (s.size : Int) := by omega
    go_enter Tryd.func9, Tryd.ntmps9
    go_wp2_with (go_at_call 10; refine h0.mono ?_; rintro e w1 ⟨rfl, hb1⟩)
    go_ret
    exact ⟨rfl, hb1⟩
  · have g1' : decide ((1000 : Int) < (s.size : Int)) = false := by simp; omega
    by_cases g2 : 1000 < t.size
    · have g2' : (1000 : Int) < (t.size : Int) := by omega
      go_enter Tryd.func9, Tryd.ntmps9
      go_wp2_with (go_at_call 10; refine h0.mono ?_; rintro e w1 ⟨rfl, hb1⟩)
      go_ret
      exact ⟨rfl, hb1⟩
    · have g2' : decide ((1000 : Int) < (t.size : Int)) = false := by simp; omega
      obtain ⟨u, hu⟩ : ∃ u, s.data.toList = u := ⟨_, rfl⟩
      obtain ⟨n, hn⟩ : ∃ n, t.data.toList = n := ⟨_, rfl⟩
      obtain ⟨lu1, lu2⟩ := len_le hu
      obtain ⟨ln1, ln2⟩ := len_le hn
      have fa : (s ++ { data := #[10] }).data.toList = u ++ [10] := by rw [app_list, hu]
      have fb : (s ++ { data := #[10, 37] } ++ t ++ { data := #[10] }).data.toList = u ++ [10, 37] ++ n ++ [10] := by rw [app_list, app_list, app_list, hu, hn]
      have fc : (s ++ { data := #[10, 37] } ++ t).data.toList = u ++ [10, 37] ++ n := by rw [app_list, app_list, hu, hn]
      have za : (s ++ { data := #[10] }).size ≤ 4096 := by rw [len_of fa]; simp; omega
      have zb : (s ++ { data := #[10, 37] } ++ t ++ { data := #[10] }).size ≤ 4096 := by rw [len_of fb]; simp; omega
      have zc : (s ++ { data := #[10, 37] } ++ t).size ≤ 4096 := by rw [len_of fc]; simp; omega
      have sa := fun W hW => scan_at _ _ fa W (L.later hW) (by omega)
      have sb := fun W hW => scan_at _ _ fb W (L.later hW) (by omega)
      have sc := fun W hW => scan_at _ _ fc W (L.later hW) (by omega)
      have hR := full_remarks u n (by omega) (by omega)
      have HR := Lib.hid hR
      clear hR fa fb fc za zb zc
      go_enter Tryd.func9, Tryd.ntmps9
      go_wp2_with (go_at_call 10; refine h0.mono ?_; rintro e w1 ⟨rfl, hb1⟩)
      go_loopw [6] (fun i wr => ∃ j : Nat, i = .int .i64 j ∧ j ≤ t.size ∧ (∀ c ∈ n.take j, c ≠ 10) ∧ wr = w1) (fun i _ => t.size - (intOf i).toNat)
      case atStart => exact ⟨0, rfl, Nat.zero_le _, by simp, rfl⟩
      case round =>
        obtain ⟨j, rfl, hj, hno, hw⟩ := hrel
        have hw := hw.symm
        subst hw
        have HN := Lib.hid hno
        clear hno
        by_cases hlt : j < t.size
        · obtain ⟨c, hc, hg⟩ := get_of hn hlt
          by_cases h10 : c = 10
          · subst h10
            go_wp2_with fail
            go_ret
            exact ⟨rfl, hb1⟩
          · have n10 := ne_int h10
            simp only [show ((10 : UInt8).toNat : Int) = 10 from rfl] at n10
            have HN2 : Hid (∀ c ∈ n.take (j + 1), c ≠ 10) := Lib.hid (by
              obtain ⟨h, e⟩ := List.getElem?_eq_some_iff.1 hc
              rw [List.take_succ_eq_append_getElem h, e]
              intro d hd
              rcases List.mem_append.1 hd with hd | hd
              · exact HN.out d hd
              · obtain rfl : d = c := by simpa using hd
                exact h10)
            go_wp2_with fail
            go_roundw
            case rel => exact ⟨j + 1, by go_num, hlt, HN2.out, by trivial⟩
            case measure => simp [intOf]; omega
        · have hno : ∀ c ∈ n, c ≠ 10 := by
            have := HN.out
            rwa [List.take_of_length_le (by omega)] at this
          obtain ⟨r1, r2⟩ := HR.out hno
          rw [r1] at sb
          rw [r2] at sc
          clear HR HN hno r1 r2 h0
          cases hf : full (u ++ [10]) with
          | bad p cd =>
            rw [hf] at sa sb sc
            clear hf
            go_wp2_with (first
              | (go_at_call 16; with_reducible refine (sc _ ?_).mono ?_; exact bel (bel hb1 hb2) hb3; intro e w4 hsp; obtain ⟨x4, rfl, hb4⟩ := hsp.bad; clear hsp)
              | (go_at_call 16; with_reducible refine (sb _ ?_).mono ?_; exact bel hb1 hb2; intro e w3 hsp; obtain ⟨x3, rfl, hb3⟩ := hsp.bad; clear hsp)
              | (go_at_call 16; with_reducible refine (sa _ ?_).mono ?_; exact hb1; intro e w2 hsp; obtain ⟨x2, rfl, hb2⟩ := hsp.bad; clear hsp))
            go_ret
            exact ⟨rfl, bel (bel (bel hb1 hb2) hb3) hb4⟩
          | ok ts =>
            rw [hf] at sa sb sc
            have hl : ts.length ≤ 1000000 := by
              have h1 := (full_facts hf).2.2.2.1
              simp at h1; omega
            have sm := fun W m1 m2 v u' (h1 : OwnTk W m1 v ts) (h2 : OwnTk W m2 u' ts) => same_tight W m1 m2 v u' ts h1 h2 hl
            clear hf hl
            go_wp2_with (first
              | (go_at_call 18; with_reducible refine (sm _ _ _ _ _ (OwnTk.below (OwnTk.below (OwnTk.below o2 hb3) hb4) hb5) (OwnTk.below o4 hb5)).mono ?_; rintro e w6 ⟨rfl, hb6⟩)
              | (go_at_call 18; with_reducible refine (sm _ _ _ _ _ (OwnTk.below (OwnTk.below o2 hb3) hb4) (OwnTk.below o3 hb4)).mono ?_; rintro e w5 ⟨rfl, hb5⟩)
              | (go_at_call 16; with_reducible refine (sc _ ?_).mono ?_; exact bel (bel hb1 hb2) hb3; intro e w4 hsp; obtain ⟨a4, c4, rfl, o4, hb4⟩ := hsp.ok; clear hsp)
              | (go_at_call 16; with_reducible refine (sb _ ?_).mono ?_; exact bel hb1 hb2; intro e w3 hsp; obtain ⟨a3, c3, rfl, o3, hb3⟩ := hsp.ok; clear hsp)
              | (go_at_call 16; with_reducible refine (sa _ ?_).mono ?_; exact hb1; intro e w2 hsp; obtain ⟨a2, c2, rfl, o2, hb2⟩ := hsp.ok; clear hsp))
            go_ret
            exact ⟨rfl, bel (bel (bel (bel (bel hb1 hb2) hb3) hb4) hb5) hb6⟩
end Go.Proofs.YtnkadfbdmffhcaaDoor
