/-
  The walk of TokenBack.
-/
import Derived.Test.YtnkadfbdmffhcaaDoorTokMB
import Derived.Test.YtnkadfbdmffhcaaDoorTokN
import Derived.Deep.RegionHeld3
namespace Go.Proofs.YtnkadfbdmffhcaaDoor
open Go.RowKit Go.Lib
set_option linter.unusedVariables false

def okB (c : UInt8) : Bool := decide (32 ≤ c.toNat) || c == 10
set_option maxRecDepth 100000 in
set_option maxHeartbeats 4000000 in
theorem may_at (s : ByteArray) (l : List UInt8) (hs : s.data.toList = l) (hm : s.size ≤ 9223372036854775807) (w : World) :
    Calls Tryd.prog 15 #[.string s] w fun e w' => e = .returned (.bool (l.all okB && decide (l.length ≤ 64))) ∧ w' = w := by
  obtain ⟨hl1, hl2⟩ := len_le hs
  go_enter Tryd.func15, Tryd.ntmps15
  go_wp2_with fail
  go_loopw [3] (fun i wr => ∃ j : Nat, i = .int .i64 j ∧ j ≤ s.size ∧ (l.take j).all okB = true ∧ wr = w) (fun i _ => s.size - (intOf i).toNat)
  case atStart => exact ⟨0, rfl, Nat.zero_le _, by simp, rfl⟩
  case round =>
    obtain ⟨j, rfl, hj, ha, hw⟩ := hrel
    have hw := hw.symm
    subst hw
    have HA := Lib.hid ha
    clear ha
    by_cases hlt : j < s.size
    · obtain ⟨c, hc, hg⟩ := get_of hs hlt
      have hts : (l.take (j + 1)).all okB = ((l.take j).all okB && okB c) := by
        obtain ⟨h, e⟩ := List.getElem?_eq_some_iff.1 hc
        rw [List.take_succ_eq_append_getElem h, e]; simp
      have hmem : c ∈ l := List.mem_of_getElem? hc
      by_cases h32 : 32 ≤ c.toNat
      · have e32 : decide ((c.toNat : Int) < 32) = false := by simp; omega
        have HT : Hid ((l.take (j + 1)).all okB = true) := Lib.hid (by rw [hts, HA.out]; simp [okB, h32])
        clear hts hmem
        go_wp2_with fail
        go_roundw
        case rel => exact ⟨j + 1, by go_num, hlt, HT.out, by trivial⟩
        case measure => simp [intOf]; omega
      · have e32 : (c.toNat : Int) < 32 := by omega
        by_cases h10 : c = 10
        · subst h10
          have HT : Hid ((l.take (j + 1)).all okB = true) := Lib.hid (by rw [hts, HA.out]; decide)
          clear hts hmem
          go_wp2_with fail
          go_roundw
          case rel => exact ⟨j + 1, by go_num, hlt, HT.out, by trivial⟩
          case measure => simp [intOf]; omega
        · have n10 := ne_int h10
          simp only [show ((10 : UInt8).toNat : Int) = 10 from rfl] at n10
          have n10' : ((c.toNat : Int) != 10) = true := by simp only [bne, n10]; rfl
          have HF : Hid (l.all okB = false) := Lib.hid (by
            rw [List.all_eq_false]
            exact ⟨c, hmem, by simp [okB, h10]; omega⟩)
          clear hts hmem
          go_wp2_with fail
          go_ret
          exact ⟨by rw [HF.out]; rfl, by trivial⟩
    · have HF : Hid (l.all okB = true) := Lib.hid (by
        have := HA.out
        rwa [List.take_of_length_le (by omega)] at this)
      have e64 : decide ((s.size : Int) ≤ 64) = decide (l.length ≤ 64) := by rw [decide_eq_decide]; omega
      go_wp2_with fail
      go_ret
      exact ⟨by rw [HF.out]; simp, by trivial⟩

set_option maxRecDepth 100000 in
set_option maxHeartbeats 8000000 in
theorem tokenBack_at (s : ByteArray) (w : World) (L : Laid w) (hm : s.size ≤ 9223372036854775807) :
    Calls Tryd.prog 4 #[.string s] w (Ans w (.bool true)) := by
  obtain ⟨l, hs⟩ : ∃ l, s.data.toList = l := ⟨_, rfl⟩
  have h0 := shown_at w L
  have hmy := fun W => may_at s l hs hm W
  have q2 := toList_beq hs [91, 93]
  by_cases hb : (l.all okB && decide (l.length ≤ 64)) = true
  · rw [hb] at hmy
    by_cases hbr : l = [91, 93]
    · have q2' : (s.toList == [91, 93]) = true := by rw [q2]; simp [hbr]
      clear q2 hb
      go_enter Tryd.func4, Tryd.ntmps4
      go_wp2_with (first | (go_at_call 10; refine h0.mono ?_; rintro e w1 ⟨rfl, hb1⟩) | (go_at_call 15; refine (hmy _).mono ?_; rintro e w2 ⟨rfl, hw2⟩; have hw2 := hw2.symm; subst hw2))
      go_ret
      exact ⟨rfl, hb1⟩
    · have q2' : (s.toList == [91, 93]) = false := by rw [q2]; simp [hbr]
      have hb1' : l.all okB = true ∧ l.length ≤ 64 := by simpa using hb
      have hfb := full_back l hb1'.2 (fun c hc => by
        have := List.all_eq_true.1 hb1'.1 c hc
        simpa [okB] using this) hbr
      have hsz : s.size ≤ 64 := by rw [len_of hs]; exact hb1'.2
      have hQ := fun W => quote_at s l hs W (by omega)
      have fx : (strV (quoteL l) ++ { data := #[32] }).data.toList = quoteL l ++ [32] := by rw [app_list, strV_list]
      have hql : (quoteL l).length ≤ 200 := by
        have := escL_length l
        have := hb1'.2
        unfold quoteL
        split <;> simp <;> omega
      have hz : (strV (quoteL l)).size ≤ 200 := by rw [strV_size]; exact hql
      have hS := fun W hW => scan_at _ _ fx W (L.later hW) (by rw [len_of fx]; simp; omega)
      rw [hfb] at hS
      have hP := fun W => plain_at s l hs W (by omega)
      have hSl : strV l = s := (strV_of hs).symm
      clear q2 hb hb1' hfb fx hql hbr
      generalize strV (quoteL l) = Q at *
      generalize plainB l = pb at *
      go_enter Tryd.func4, Tryd.ntmps4
      go_wp2_with (first
        | (go_at_call 16; with_reducible refine (hS _ ?_).mono ?_; exact bel hb1 hb3; intro e w4 hsp; obtain ⟨a4, c4, rfl, o4, hb4⟩ := hsp.ok; clear hsp)
        | (go_at_call 13; refine (hQ _).mono ?_; rintro e w3 ⟨rfl, hb3⟩)
        | (go_at_call 15; refine (hmy _).mono ?_; rintro e w2 ⟨rfl, hw2⟩; have hw2 := hw2.symm; subst hw2)
        | (go_at_call 10; refine h0.mono ?_; rintro e w1 ⟨rfl, hb1⟩))
      obtain ⟨g, cp, e1, -, hg, x0, x1, x2, x3, x4⟩ := o4.cells (i := 0) rfl
      cases e1
      dsimp only at x0 x1 x2 x3 x4
      rw [hSl] at x1
      simp only [Nat.zero_mul, Nat.zero_add] at x0 x1 x2 x3 x4
      have HB4 := Lib.hid (bel (bel hb1 hb3) hb4)
      have HS : ∀ w', Below w4.heap.size w4 w' → (fun w' => w'.cell? ⟨g, 0, none⟩ = some (.int .i64 1) ∧ w'.cell? ⟨g, 1, none⟩ = some (.string s) ∧ w'.cell? ⟨g, 3, none⟩ = some (.bool (!pb)) ∧ Below w4.heap.size w4 w') w' := fun w' h => ⟨(h.cell (p := ⟨g, 0, none⟩) hg).trans x0, (h.cell (p := ⟨g, 1, none⟩) hg).trans x1, (h.cell (p := ⟨g, 3, none⟩) hg).trans x3, h⟩
      have d1 : ∀ W, Below w4.heap.size w4 W → Calls Tryd.prog 11 #[.string s] W fun e w' => e = .returned (.bool pb) ∧ Below w4.heap.size w4 w' := fun W hW => (hP W).mono fun e w' ⟨he, h⟩ => ⟨he, bel hW h⟩
      have es : (s.toList == s.toList) = true := by simp
      have ep : ((!pb) == (!pb)) = true := by simp
      clear x0 x1 x2 x3 x4 o4 hb1 hb3 hb4 hS hQ hP hmy h0 hs hSl
      go_region_held3 (fun w' => w'.cell? ⟨g, 0, none⟩ = some (.int .i64 1) ∧ w'.cell? ⟨g, 1, none⟩ = some (.string s) ∧ w'.cell? ⟨g, 3, none⟩ = some (.bool (!pb)) ∧ Below w4.heap.size w4 w')
        (first | exact HS _ (Below.refl _ _).drew | (go_split_ands; exact HS _ (by assumption)))
        (first
          | (go_at_call 11; (with_reducible refine (d1 _ (by go_split_ands; assumption)).mono ?_); rintro r w5 ⟨rfl, hb5⟩))
      all_goals go_wp2_with fail
      all_goals go_ret
      all_goals exact ⟨by simp, bel HB4.out hb5⟩
  · have hb' : (l.all okB && decide (l.length ≤ 64)) = false := by simpa using hb
    rw [hb'] at hmy
    clear hb hb' q2
    go_enter Tryd.func4, Tryd.ntmps4
    go_wp2_with (first | (go_at_call 10; refine h0.mono ?_; rintro e w1 ⟨rfl, hb1⟩) | (go_at_call 15; refine (hmy _).mono ?_; rintro e w2 ⟨rfl, hw2⟩; have hw2 := hw2.symm; subst hw2))
    go_ret
    exact ⟨rfl, hb1⟩
end Go.Proofs.YtnkadfbdmffhcaaDoor
