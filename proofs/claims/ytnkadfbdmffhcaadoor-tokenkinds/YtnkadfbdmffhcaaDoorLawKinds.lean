/-
  The walk of TokenKinds.
-/
import Derived.Test.YtnkadfbdmffhcaaDoorTokN
namespace Go.Proofs.YtnkadfbdmffhcaaDoor
open Go.RowKit Go.Lib
set_option linter.unusedVariables false

theorem sumU_take {ts : List Tok} {i : Nat} {t : Tok} (h : ts[i]? = some t) : sumU (ts.take (i + 1)) = sumU (ts.take i) + (if t.q then 0 else t.s.length) := by
  obtain ⟨hi, e⟩ := List.getElem?_eq_some_iff.1 h
  rw [List.take_succ_eq_append_getElem hi, e, sumU_append]
  simp [sumU]
theorem sumU_le (ts : List Tok) (i : Nat) : sumU (ts.take i) ≤ sumU ts := by
  have h : sumU ts = sumU (ts.take i) + sumU (ts.drop i) := by rw [← sumU_append, List.take_append_drop]
  omega

set_option maxRecDepth 100000 in
set_option maxHeartbeats 4000000 in
theorem tokenKinds_at (s : ByteArray) (w : World) (L : Laid w) (hm : s.size ≤ 9223372036854775807) :
    Calls Tryd.prog 8 #[.string s] w (Ans w (.bool true)) := by
  have h0 := shown_at w L
  have h1 := fun W hW => scan_any s s.data.toList rfl W (L.later hW) hm
  have hlen := len_of (s := s) rfl
  cases hf : full s.data.toList with
  | bad p c =>
    rw [hf] at h1
    clear hlen hf
    go_enter Tryd.func8, Tryd.ntmps8
    go_wp2_with (first
      | (go_at_call 10; refine h0.mono ?_; rintro e w1 ⟨rfl, hb1⟩)
      | (go_at_call 16; refine (h1 _ hb1).mono ?_; intro e w2 hsp; obtain ⟨x, rfl, hb2⟩ := hsp.bad; clear hsp))
    go_ret
    exact ⟨rfl, bel hb1 hb2⟩
  | ok ts =>
    rw [hf] at h1
    obtain ⟨F1, F2, F3, F4, F5⟩ := full_facts hf
    have hs1 : s.size ≤ 4096 := by omega
    have hs2 : sumU ts ≤ s.size := by omega
    have hs3 : ts.length ≤ s.size := by omega
    clear hlen hf F1 F3 F4
    go_enter Tryd.func8, Tryd.ntmps8
    go_wp2_with (first
      | (go_at_call 10; refine h0.mono ?_; rintro e w1 ⟨rfl, hb1⟩)
      | (go_at_call 16; refine (h1 _ hb1).mono ?_; intro e w2 hsp; obtain ⟨a, cp, rfl, ho, hb2⟩ := hsp.ok; clear hsp))
    have HB2 := Lib.hid (bel hb1 hb2)
    have HO := Lib.hid ho
    clear h0 h1 hb1 hb2 ho
    go_loopw [7, 8] (fun x i wr => ∃ j : Nat, x = .int .i64 (sumU (ts.take j) : Nat) ∧ i = .int .i64 j ∧ j ≤ ts.length ∧ Below w2.heap.size w2 wr) (fun _ i _ => ts.length - (intOf i).toNat)
    case atStart => exact ⟨0, by simp [sumU], rfl, Nat.zero_le _, Below.refl _ _⟩
    case round =>
      obtain ⟨j, rfl, rfl, hj, hbr⟩ := hrel
      have hsl := sumU_le ts j
      by_cases hlt : j < ts.length
      · have ht : ts[j]? = some ts[j] := List.getElem?_eq_getElem hlt
        have M := F2 ts[j] (List.getElem_mem hlt)
        have hst := sumU_take ht
        have hsl2 := sumU_le ts (j + 1)
        obtain ⟨g, cp', e1, -, hg, x0, x1, x2, x3, x4⟩ := HO.out.cells ht
        cases e1
        have c0 := (hbr.cell (p := ⟨g, j * 5, none⟩) hg).trans x0
        have c1 := (hbr.cell (p := ⟨g, j * 5 + 1, none⟩) hg).trans x1
        have c2 := (hbr.cell (p := ⟨g, j * 5 + 2, none⟩) hg).trans x2
        have c3 := (hbr.cell (p := ⟨g, j * 5 + 3, none⟩) hg).trans x3
        have c4 := (hbr.cell (p := ⟨g, j * 5 + 4, none⟩) hg).trans x4
        have hj0 : j = 0 → ts[j].tight = false := fun e => F5 ts[j] (by subst e; exact ht)
        have hsz := strV_size ts[j].s
        have hnil : ts[j].s = [] → strV ts[j].s = ⟨#[]⟩ := fun e => by rw [e]; rfl
        have HBr := Lib.hid hbr
        generalize ts[j] = t at *
        obtain ⟨tk, tss, tn, tq, tt⟩ := t
        obtain ⟨⟨m1, m2⟩, m3, m4, m5, m6⟩ := M
        dsimp only at *
        generalize hS : sumU (ts.take j) = SJ at *
        have HST := Lib.hid hst
        clear x0 x1 x2 x3 x4 ht hst hbr HO F2 F5 hS
        have hj1 : (j : Int) < (ts.length : Int) := by omega
        have hj2 : (0 : Int) ≤ (j : Int) := by omega
        by_cases k3 : tk = 3
        · subst k3
          obtain rfl : tq = false := by
            cases tq with
            | false => rfl
            | true => have := m5 rfl; omega
          have hS0 := hnil (m4 rfl)
          rw [hS0] at c1
          have htss := m4 rfl
          subst htss
          clear m3 m4 m5 hnil hS0 hsz
          by_cases hz : j = 0
          · subst hz
            have htt := hj0 rfl
            subst htt
            clear hj0
            simp only [Nat.zero_mul, Nat.zero_add] at c0 c1 c2 c3 c4
            go_wp2_with fail
            go_roundw
            case rel => exact ⟨0 + 1, by rw [HST.out]; simp, by go_num, hlt, bel_al HBr.out _⟩
            case measure => simp [intOf]; omega
          · have hz' : ((j : Int) == 0) = false := by simp; omega
            clear hj0
            go_wp2_with fail
            go_roundw
            case rel => exact ⟨j + 1, by rw [HST.out]; simp, by go_num, hlt, bel_al HBr.out _⟩
            case measure => simp [intOf]; omega
        · have hn0 := m3 k3
          subst hn0
          have k3' : (tk != 3) = true := by simp [k3]
          have k3'' : (tk == 3) = false := by simp [k3]
          clear m3 m4 hnil
          have m6' : decide ((64 : Int) < ((strV tss).size : Int)) = false := by simp; omega
          generalize strV tss = S at *
          cases tq
          · clear m5
            by_cases hz : j = 0
            · subst hz
              have htt := hj0 rfl
              subst htt
              clear hj0
              simp only [Nat.zero_mul, Nat.zero_add] at c0 c1 c2 c3 c4
              go_wp2_with fail
              go_roundw
              case rel => exact ⟨0 + 1, by rw [HST.out]; simp, by go_num, hlt, bel_al HBr.out _⟩
              case measure => simp [intOf]; omega
            · have hz' : ((j : Int) == 0) = false := by simp; omega
              clear hj0
              go_wp2_with fail
              go_roundw
              case rel => exact ⟨j + 1, by rw [HST.out]; simp, by go_num, hlt, bel_al HBr.out _⟩
              case measure => simp [intOf]; omega
          · obtain rfl := m5 rfl
            clear k3 k3' k3'' m5
            by_cases hz : j = 0
            · subst hz
              have htt := hj0 rfl
              subst htt
              clear hj0
              simp only [Nat.zero_mul, Nat.zero_add] at c0 c1 c2 c3 c4
              go_wp2_with fail
              go_roundw
              case rel => exact ⟨0 + 1, by rw [HST.out]; simp, by go_num, hlt, bel_al HBr.out _⟩
              case measure => simp [intOf]; omega
            · have hz' : ((j : Int) == 0) = false := by simp; omega
              clear hj0
              go_wp2_with fail
              go_roundw
              case rel => exact ⟨j + 1, by rw [HST.out]; simp, by go_num, hlt, bel_al HBr.out _⟩
              case measure => simp [intOf]; omega
      · have hj' : j = ts.length := by omega
        have HF : Hid (sumU (ts.take j) ≤ s.size) := Lib.hid (by omega)
        generalize sumU (ts.take j) = SJ at *
        have h1 : (SJ : Int) ≤ (s.size : Int) := by have := HF.out; omega
        have h2 : (ts.length : Int) ≤ (s.size : Int) := by omega
        clear hsl HO F2 F5
        go_wp2_with fail
        go_ret
        exact ⟨rfl, bel HB2.out hbr⟩
end Go.Proofs.YtnkadfbdmffhcaaDoor
