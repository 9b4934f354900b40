/-
  All: the sentences of a text.
-/
import Derived.Test.YtfencolokfghfaaGreatDoorReadR
import Derived.Test.YtfencolokfghfaaGreatDoorTokAw
import Derived.Test.YtfencolokfghfaaGreatDoorReadT
import Derived.Test.YtfencolokfghfaaGreatDoorReadE
import Derived.Deep.LoopGhost
namespace Go.Proofs.YtfencolokfghfaaGreatDoor
open Go.RowKit Go.Maps
set_option linter.unusedVariables false
set_option linter.unusedSectionVars false

def AllPost (w : World) : AllR → Ending → World → Prop
  | .ok Ts, e, w' => ∃ a cap, e = .returned (.tuple #[.slice a Ts.length cap, .int .i64 0, .int .i64 0]) ∧ Below w.heap.size w w' ∧ HasTs w' (.slice a Ts.length cap) Ts
  | .bad p c, e, w' => e = .returned (.tuple #[.slice none 0 0, .int .i64 p, .int .i64 c]) ∧ Below w.heap.size w w'

set_option maxRecDepth 100000 in
set_option maxHeartbeats 4000000 in
theorem all_bad (s : ByteArray) (l : List UInt8) (hs : s.data.toList = l) (w : World) (L : Laid w) (E : ErrT w) (hm : s.size ≤ 9223372036854775807) (lv : Int) {p : Nat} {c : Int} (hf : full l = .bad p c) :
    Calls Tryz.prog 10 #[.string s, .int .i64 lv] w (AllPost w (.bad p c)) := by
  have hsc := (scan_any s l hs w L hm).mono (fun e w' h => (by rw [hf] at h; exact h.bad : ∃ x, e = .returned (.tuple #[.slice none 0 0, .int .i64 p, .iface 80 (.agg #[.string x, .iface 27 (.int .i64 c)])]) ∧ Below w.heap.size w w'))
  go_enter Tryz.func10, Tryz.ntmps10
  go_wp2_with (first
    | (go_at_call 26; refine hsc.mono ?_; rintro e W1 ⟨x, rfl, hb1⟩)
    | (go_at_call 27; refine (code_at x c W1 (E.later hb1)).mono ?_; rintro e W2 ⟨rfl, hb2⟩))
  exact bodyPost_ret (v := .tuple #[.slice none 0 0, .int .i64 p, .int .i64 c]) (by simp [results, Tryz.f10, go_sem]) rfl ⟨rfl, bel hb1 hb2⟩
set_option maxRecDepth 100000 in
set_option maxHeartbeats 4000000 in
theorem all_good (s : ByteArray) (l : List UInt8) (hs : s.data.toList = l) (w : World) (L : Laid w) (T : Tab w) (hm : s.size ≤ 9223372036854775807) (lv : Int) {ts : List Tok} (hf : full l = .ok ts) :
    Calls Tryz.prog 10 #[.string s, .int .i64 lv] w (AllPost w (allF ts lv (ts.length + 1) [] 0)) := by
  have hsc := (scan_any s l hs w L hm).mono (fun e w' h => (by rw [hf] at h; exact h.ok : ∃ a c, e = .returned (.tuple #[.slice a ts.length c, .int .i64 0, .nilIface]) ∧ OwnTk w' w.heap.size (.slice a ts.length c) ts ∧ Below w.heap.size w w'))
  obtain ⟨hts1, hts2⟩ := full_tok hf
  have hz := zeroTerm
  have hw00 : 0 < w.heap.size := by
    obtain ⟨t, fr, h⟩ := T
    have := (Array.getElem?_eq_some_iff.1 h).1; omega
  go_enter Tryz.func10, Tryz.ntmps10
  go_wp2_with (go_at_call 26; refine hsc.mono ?_; rintro e W1 ⟨ta, tc, rfl, hO1, hb1⟩)
  go_loopg [10, 11] (ts.length + 1) (fun g x y wr => ∃ acc i, y = .int .i64 (i : Nat) ∧ OwnTs wr W1.heap.size 0 x acc ∧ Below W1.heap.size W1 wr ∧ allF ts lv (ts.length + 1) [] 0 = allF ts lv g acc i ∧ ts.length + 1 ≤ i + g ∧ acc.length ≤ i ∧ i ≤ ts.length)
  case atStart => exact ⟨[], 0, rfl, OwnTs.nil _ _ _, Below.refl _ _, rfl, by omega, by simp, by omega⟩
  case round =>
    obtain ⟨acc, i, rfl, hOA, hbr, hgh, hfu, hal, hil⟩ := hrel
    obtain ⟨xa, xc, rfl⟩ := hOA.form
    obtain ⟨m, rfl⟩ : ∃ m, gk = m + 1 := ⟨gk - 1, by omega⟩
    have e9 : allF ts lv (m + 1) acc i = if ts.length ≤ i then .ok acc else match readG ts lv i with
      | .bad j c => .bad j c
      | .ok t j _ => allF ts lv m (acc ++ [t]) j := rfl
    rw [e9] at hgh
    by_cases hlt : ts.length ≤ i
    · rw [if_pos hlt] at hgh
      have HG := Lib.hid hgh
      have hii : ¬ ((i : Int) < (ts.length : Int)) := by omega
      clear hgh e9
      go_wp2_with fail
      rw [HG.out]
      exact bodyPost_ret (v := .tuple #[.slice xa acc.length xc, .int .i64 0, .int .i64 0]) (by simp [results, Tryz.f10, go_sem]) rfl ⟨xa, xc, rfl, bel hb1 hbr, hOA.ts⟩
    · rw [if_neg hlt] at hgh
      have hii : (i : Int) < (ts.length : Int) := by omega
      have hrd := read_at wr ((T.later hb1).later hbr) (hO1.below hbr) hts1 hts2 lv (i := i) hil
      clear e9
      cases hu : readG ts lv i with
      | bad j c =>
        rw [hu] at hgh hrd
        dsimp only at hgh
        unfold RPost at hrd
        have HG := Lib.hid hgh
        have hc0 := readG_nz hu
        clear hgh hu
        go_wp2_with (go_at_call 28; refine hrd.mono ?_; rintro e W5 ⟨rfl, hb5⟩)
        rw [HG.out]
        exact bodyPost_ret (v := .tuple #[.slice none 0 0, .int .i64 j, .int .i64 c]) (by simp [results, Tryz.f10, go_sem]) rfl ⟨rfl, bel_al (bel hb1 (bel hbr hb5)) _⟩
      | ok T1 j ns1 =>
        rw [hu] at hgh hrd
        dsimp only at hgh
        unfold RPost at hrd
        have HG := Lib.hid hgh
        clear hgh
        obtain ⟨i1, -, -, -, rfl, hi1, hi2⟩ := readG_ok hu
        clear hu
        have hxb : ∀ g, (Value.slice xa acc.length xc).ownBlock = some g → W1.heap.size ≤ g ∧ g < wr.heap.size := fun g hg => ⟨hOA.lt g hg, hOA.lt2 g hg⟩
        have h1r := hbr.size
        have hw1 := hb1.size
        go_wp2_with (first
          | (go_at_call 28; refine hrd.mono ?_; rintro e W5 ⟨k, n, s', a, l', cp, na, ll, cap', rfl, hb5, hT5⟩; have h5r := hb5.size)
          | (at_builtin; refine wpList_append_ts rfl _ _ rfl W1.heap.size 0 (.slice xa acc.length xc) (.slice (some ⟨W5.heap.size + 1, 0, none⟩) 1 1) acc [T1] rfl rfl (OwnTs.kept (w := wr) hOA (by simp <;> omega) (fun b hb _ => (Below.block (bel_al (bel_al hb5 _) _) b hb)) (fun e => by have := (hxb 0 e).1; omega)) (one_ts (by simpa using alloc_new (W5.alloc (.cells #[.int .i64 k, .int .i64 n, .string s', .slice a l' cp] 24)) (.cells #[.int .i64 k, .int .i64 n, .string s', .slice a l' cp] 24)) ⟨by simp, fun e => by have := (hxb _ e).2; omega, by omega⟩ (hT5.carry (fun b hb => Below.block (bel_al (bel_al (Below.refl W5.heap.size W5) _) _) b hb.2) (fun b hb => ⟨by simp <;> omega, fun e => by have := (hxb _ e).2; omega, by omega⟩))) (by simp <;> omega) (by simp <;> omega) (by simp <;> omega) ?_; intro v6 W6 ho6 hg6 hat6))
        have hb6 : Below W1.heap.size W1 W6 := by
          have hb7 := bel_al (bel_al (bel hbr hb5) (.cells #[.int .i64 k, .int .i64 n, .string s', .slice a l' cp] 24)) (.cells #[.int .i64 k, .int .i64 n, .string s', .slice a l' cp] 24)
          exact ⟨hg6.os.trans hb7.os, hg6.tape.trans hb7.tape, hg6.output.trans hb7.output, Nat.le_trans hb7.size hg6.size, fun b hb => (hg6.block b (Nat.lt_of_lt_of_le hb hb7.size) (fun e => by have := (hxb b e.symm).1; omega)).trans (hb7.block b hb)⟩
        go_roundg m
        case measure => omega
        case rel => exact ⟨acc ++ [T1], i1 + 1, by simp, ho6, hb6, HG.out, by omega, by simp; omega, by omega⟩
theorem all_at (s : ByteArray) (l : List UInt8) (hs : s.data.toList = l) (w : World) (L : Laid w) (T : Tab w) (E : ErrT w) (hm : s.size ≤ 9223372036854775807) (lv : Int) : Calls Tryz.prog 10 #[.string s, .int .i64 lv] w (AllPost w (allG l lv)) := by
  unfold allG
  cases hf : full l with
  | bad p c => exact all_bad s l hs w L E hm lv hf
  | ok ts => exact all_good s l hs w L T hm lv hf
end Go.Proofs.YtfencolokfghfaaGreatDoor
