/-
  ReaderCuts: a sentence without its end, or with a bracket more, is refused.
-/
import Derived.Test.YtgodbmmhkmockaaGreatDoorRShown
import Derived.Test.YtgodbmmhkmockaaGreatDoorReadV
namespace Go.Proofs.YtgodbmmhkmockaaGreatDoor
open Go.RowKit Go.Maps
set_option linter.unusedVariables false

theorem rd_app (a b : ByteArray) : (a ++ b).data.toList = a.data.toList ++ b.data.toList := by
  rw [ByteArray.data_append]; simp
/-- What All answers, whatever the text comes to. -/
def AllAny (w : World) (R : AllR) (e : Ending) (w' : World) : Prop := ∃ a n cap p c, e = .returned (.tuple #[.slice a n cap, .int .i64 p, .int .i64 c]) ∧ Below w.heap.size w w' ∧ ((∀ Us, R ≠ .ok Us) → c ≠ 0)
theorem all_any (s : ByteArray) (l : List UInt8) (hs : s.data.toList = l) (hl : l.length ≤ 4096) (lv : Int) {R : AllR} (hR : allG l lv = R) (w : World) (L : Laid w) (T : Tab w) (E : ErrT w) : Calls Tryz.prog 9 #[.string s, .int .i64 lv] w (AllAny w R) := by
  subst hR
  refine (all_at s l hs w L T E (by have : s.size = l.length := by rw [← hs]; rfl
                                    omega) lv).mono fun e w' h => ?_
  cases hg : allG l lv with
  | ok Ts =>
    rw [hg] at h
    obtain ⟨a, cap, rfl, hb, -⟩ := h
    exact ⟨a, Ts.length, cap, 0, 0, rfl, hb, fun h => absurd rfl (h Ts)⟩
  | bad p c =>
    rw [hg] at h
    obtain ⟨rfl, hb⟩ := h
    exact ⟨none, 0, 0, p, c, rfl, hb, fun _ => allG_nz hg⟩
def plnE (l : List UInt8) : Bool := l.any fun c => c == 37 || c == 46
theorem plnE_no {l : List UInt8} (h : plnE l = false) : 37 ∉ l ∧ 46 ∉ l := by
  unfold plnE at h
  rw [List.any_eq_false] at h
  exact ⟨fun e => by simpa using h _ e, fun e => by simpa using h _ e⟩
set_option maxHeartbeats 1000000 in
theorem plain_at (s : ByteArray) (l : List UInt8) (hs : s.data.toList = l) (hm : s.size ≤ 1000000) (w : World) : Calls Tryz.prog 11 #[.string s] w fun e w' => e = .returned (.bool (plnE l)) ∧ w' = w := by
  have hl := len_of hs
  go_enter Tryz.func11, Tryz.ntmps11
  go_wp2
  go_loopw [3] (fun i wr => ∃ k : Nat, i = .int .i64 k ∧ k ≤ s.size ∧ plnE l = plnE (l.drop k) ∧ wr = w) (fun i _ => s.size - (intOf i).toNat)
  case atStart => exact ⟨0, rfl, Nat.zero_le _, rfl, rfl⟩
  case round =>
    obtain ⟨k, rfl, hk, hd, rfl⟩ := hrel
    by_cases hlt : k < s.size
    · obtain ⟨c, hc, hg⟩ := get_of hs hlt
      have hdr : plnE (l.drop k) = ((c == 37 || c == 46) || plnE (l.drop (k + 1))) := by
        rw [List.drop_eq_getElem_cons (by rw [← hl]; exact hlt)]
        have : l[k]'(by rw [← hl]; exact hlt) = c := by
          have := List.getElem?_eq_getElem (l := l) (i := k) (by rw [← hl]; exact hlt)
          rw [hc] at this; exact (Option.some.inj this).symm
        rw [this]; rfl
      by_cases h7 : c = 37
      · subst h7
        go_wp2
        go_ret
        exact ⟨by rw [hd, hdr]; rfl, rfl⟩
      · have n7 := ne_int h7
        rw [show ((37 : UInt8).toNat : Int) = 37 from rfl] at n7
        by_cases h6 : c = 46
        · subst h6
          go_wp2
          go_ret
          exact ⟨by rw [hd, hdr]; rfl, rfl⟩
        · have n6 := ne_int h6
          rw [show ((46 : UInt8).toNat : Int) = 46 from rfl] at n6
          go_wp2
          go_roundw
          case rel => exact ⟨k + 1, by go_num, hlt, by rw [hd, hdr]; simp [h7, h6], by trivial⟩
          case measure => simp [intOf]; omega
    · go_wp2
      go_ret
      have e : k = l.length := by omega
      exact ⟨by rw [hd, e]; simp [plnE], rfl⟩
set_option maxRecDepth 100000 in
set_option maxHeartbeats 4000000 in
theorem cuts_at (s : ByteArray) (hs : s.size ≤ maxLen) (w : World) (L : Laid w) (T : Tab w) (E : ErrT w) : Calls Tryz.prog 6 #[.string s] w (Gets w (.bool true)) := by
  have hsh := shown7_at w L T E
  have hsz : s.size ≤ 9223372036854775807 := by unfold maxLen at hs; omega
  by_cases hbig : 1000 < s.size
  · have hbig' : (1000 : Int) < (s.size : Int) := by omega
    go_enter Tryz.func6, Tryz.ntmps6
    go_wp2_with (first | (go_at_call 8; refine hsh.mono ?_; rintro e W1 ⟨rfl, hb1⟩))
    go_ret
    exact ⟨rfl, hb1⟩
  · have hsm : (s.size : Int) ≤ 1000 := by omega
    have hll : s.data.toList.length ≤ 1000 := by
      have := len_of (s := s) rfl
      omega
    have hA := fun W (L : Laid W) (T : Tab W) (E : ErrT W) => all_at (s ++ ByteArray.mk #[32, 46]) (s.data.toList ++ [32, 46]) (rd_app _ _) W L T E (by rw [ByteArray.size_append]; have : (ByteArray.mk #[32, 46]).size = 2 := rfl; omega) 4
    cases hg : allG (s.data.toList ++ [32, 46]) 4 with
    | bad p c =>
      have hc0 := allG_nz hg
      simp only [hg] at hA
      unfold AllPost at hA
      clear hg
      go_enter Tryz.func6, Tryz.ntmps6
      go_wp2_with (first | (go_at_call 8; refine hsh.mono ?_; rintro e W1 ⟨rfl, hb1⟩) | (go_at_call 9; refine (hA _ (L.later hb1) (T.later hb1) (E.later hb1)).mono ?_; rintro e W2 ⟨rfl, hb2⟩))
      go_ret
      exact ⟨rfl, bel hb1 hb2⟩
    | ok Ts =>
      simp only [hg] at hA
      unfold AllPost at hA
      by_cases h1 : Ts.length = 1
      · have hp := fun W => plain_at s s.data.toList rfl (by omega) W
        have H1 := fun W (L : Laid W) (T : Tab W) (E : ErrT W) => all_any (ByteArray.mk #[40, 32] ++ s ++ ByteArray.mk #[32, 46]) ([40, 32] ++ s.data.toList ++ [32, 46]) (by rw [rd_app, rd_app]) (by simp; omega) 4 rfl W L T E
        have H2 := fun W (L : Laid W) (T : Tab W) (E : ErrT W) => all_any (s ++ ByteArray.mk #[32, 41, 32, 46]) (s.data.toList ++ [32, 41, 32, 46]) (by rw [rd_app]) (by simp; omega) 4 rfl W L T E
        have H3 := fun W (L : Laid W) (T : Tab W) (E : ErrT W) => all_any s s.data.toList rfl (by omega) 4 rfl W L T E
        unfold AllAny at H1 H2 H3
        have hgh : plnE s.data.toList = false → (∀ Us, allG ([40, 32] ++ s.data.toList ++ [32, 46]) 4 ≠ .ok Us) ∧ (∀ Us, allG (s.data.toList ++ [32, 41, 32, 46]) 4 ≠ .ok Us) ∧ ∀ Us, allG s.data.toList 4 ≠ .ok Us := fun h => cuts_ghost hll h1 (plnE_no h).1 (plnE_no h).2 hg
        clear hg
        simp only [h1] at hA
        cases hpl : plnE s.data.toList with
        | true =>
          simp only [hpl] at hp
          have HA := Lib.hid hA; have HH1 := Lib.hid H1; have HH2 := Lib.hid H2; have HH3 := Lib.hid H3; have HP := Lib.hid hp
          clear hA H1 H2 H3 hp hgh hpl
          go_enter Tryz.func6, Tryz.ntmps6
          go_wp2_with (first
            | (go_at_call 8; refine hsh.mono ?_; rintro e W1 ⟨rfl, hb1⟩)
            | (go_at_call 9; (with_reducible refine (HA.out _ (L.later hb1) (T.later hb1) (E.later hb1)).mono ?_); rintro e W2 ⟨a, cap, rfl, hb2', hts⟩; have hb2 := bel hb1 hb2')
            | (go_at_call 9; (with_reducible refine (HH1.out _ (L.later hb2) (T.later hb2) (E.later hb2)).mono ?_); rintro e W3 ⟨a1, n1, k1, p1, c1, rfl, hb3', -⟩; have hb3 := bel hb2 hb3')
            | (go_at_call 9; (with_reducible refine (HH2.out _ (L.later hb3) (T.later hb3) (E.later hb3)).mono ?_); rintro e W4 ⟨a2, n2, k2, p2, c2, rfl, hb4', -⟩; have hb4 := bel hb3 hb4')
            | (go_at_call 9; (with_reducible refine (HH3.out _ (L.later hb4) (T.later hb4) (E.later hb4)).mono ?_); rintro e W5 ⟨a3, n3, k3, p3, c3, rfl, hb5', -⟩; have hb5 := bel hb4 hb5')
            | (go_at_call 11; refine (HP.out _).mono ?_; rintro e W6 ⟨rfl, rfl⟩))
          all_goals
            go_ret
            exact ⟨rfl, hb5⟩
        | false =>
          obtain ⟨g1, g2, g3⟩ := hgh hpl
          have HA := Lib.hid hA; have HH1 := Lib.hid H1; have HH2 := Lib.hid H2; have HH3 := Lib.hid H3
          have G1 := Lib.hid g1; have G2 := Lib.hid g2; have G3 := Lib.hid g3
          clear hA H1 H2 H3 hp hgh hpl g1 g2 g3
          go_enter Tryz.func6, Tryz.ntmps6
          go_wp2_with (first
            | (go_at_call 8; refine hsh.mono ?_; rintro e W1 ⟨rfl, hb1⟩)
            | (go_at_call 9; (with_reducible refine (HA.out _ (L.later hb1) (T.later hb1) (E.later hb1)).mono ?_); rintro e W2 ⟨a, cap, rfl, hb2', hts⟩; have hb2 := bel hb1 hb2')
            | (go_at_call 9; (with_reducible refine (HH1.out _ (L.later hb2) (T.later hb2) (E.later hb2)).mono ?_); rintro e W3 ⟨a1, n1, k1, p1, c1, rfl, hb3', hz1⟩; have hb3 := bel hb2 hb3'; have hz1 := hz1 G1.out)
            | (go_at_call 9; (with_reducible refine (HH2.out _ (L.later hb3) (T.later hb3) (E.later hb3)).mono ?_); rintro e W4 ⟨a2, n2, k2, p2, c2, rfl, hb4', hz2⟩; have hb4 := bel hb3 hb4'; have hz2 := hz2 G2.out)
            | (go_at_call 9; (with_reducible refine (HH3.out _ (L.later hb4) (T.later hb4) (E.later hb4)).mono ?_); rintro e W5 ⟨a3, n3, k3, p3, c3, rfl, hb5', hz3⟩; have hb5 := bel hb4 hb5'; have hz3 := hz3 G3.out))
          go_ret
          exact ⟨rfl, hb5⟩
      · have h1' : ¬ ((Ts.length : Int) = 1) := by omega
        clear hg
        go_enter Tryz.func6, Tryz.ntmps6
        go_wp2_with (first | (go_at_call 8; refine hsh.mono ?_; rintro e W1 ⟨rfl, hb1⟩) | (go_at_call 9; refine (hA _ (L.later hb1) (T.later hb1) (E.later hb1)).mono ?_; rintro e W2 ⟨a, cap, rfl, hb2, hts⟩))
        go_ret
        exact ⟨rfl, bel hb1 hb2⟩
end Go.Proofs.YtgodbmmhkmockaaGreatDoor
