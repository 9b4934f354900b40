/-
  The walk of names in quotation marks.
-/
import Derived.Test.YtfencolokfghfaaGreatDoorTokO
namespace Go.Proofs.YtfencolokfghfaaGreatDoor
open Go.RowKit Go.Lib
set_option linter.unusedVariables false

set_option maxRecDepth 100000 in
set_option maxHeartbeats 4000000 in
theorem quoted_at (s : ByteArray) (l : List UInt8) (hs : s.data.toList = l) (w : World) (hm : s.size ≤ 1000000) (hne : 0 < s.size) :
    Calls Tryz.prog 61 #[.string s] w (Ans w (resV (quo [] (l.drop 1) 1))) := by
  obtain ⟨hl1, hl2⟩ := len_le hs
  have hb1 : Below w.heap.size w (w.alloc (.cells #[.int .i64 0, .string ⟨#[]⟩, .int .i64 0, .bool false, .bool false] 87)) := bel_al (Below.refl _ _) _
  have y1 := alloc_new w (.cells #[.int .i64 0, .string ⟨#[]⟩, .int .i64 0, .bool false, .bool false] 87)
  have hs1 : (w.alloc (.cells #[.int .i64 0, .string ⟨#[]⟩, .int .i64 0, .bool false, .bool false] 87)).heap.size ≥ w.heap.size + 1 := by simp
  generalize hw1 : w.alloc (.cells #[.int .i64 0, .string ⟨#[]⟩, .int .i64 0, .bool false, .bool false] 87) = w1 at hb1 y1 hs1
  go_enter Tryz.func61, Tryz.ntmps61
  go_wp2
  try rw [hw1]
  clear hw1
  go_loopw [5, 6] (fun x i wr => ∃ (a : Nat) (acc : List UInt8), i = .int .i64 a ∧ 1 ≤ a ∧ a ≤ s.size ∧ acc.length ≤ a ∧ OwnB wr w1.heap.size x acc ∧ quo [] (l.drop 1) 1 = quo acc (l.drop a) a ∧ Below w1.heap.size w1 wr) (fun _ i _ => s.size - (intOf i).toNat)
  case atStart => exact ⟨1, [], rfl, Nat.le_refl _, hne, Nat.zero_le _, OwnB.nil _ _, rfl, Below.refl _ _⟩
  case round =>
    obtain ⟨a, acc, rfl, ha1, ha, hac, hown, hq, hbr⟩ := hrel
    have y := (hbr.block w.heap.size (by omega)).trans y1
    obtain ⟨x0, x1, x2, x3, x4, xf⟩ := box5 y
    have hbw := bel hb1 hbr
    by_cases hlt : a < s.size
    · have hd := ext_drop hs a
      have hlen : 0 < (s.extract a s.size).size := by rw [len_of hd, List.length_drop]; omega
      have hlen2 : (s.extract a s.size).size ≤ 9223372036854775806 := by rw [len_of hd, List.length_drop]; omega
      have hc := closes_at wr _ _ hd hlen2 hlen
      have hmn := meant_at wr _ _ hd hlen2 hlen
      have hne' : l.drop a ≠ [] := by
        intro e; have := congrArg List.length e; simp at this; omega
      have hq2 := quo_eq acc (l.drop a) a
      rw [if_neg hne'] at hq2
      generalize hcl : closB (l.drop a) = cb at hc hq2
      cases cb
      · rw [if_neg (by decide)] at hq2
        cases hme : meanR (l.drop a) with
        | none =>
          have hmv : meanV (l.drop a) = #[.int .u8 0, .int .i64 0] := by rw [meanV, hme]
          rw [hmv] at hmn
          rw [hme] at hq2
          simp only at hq2
          have hfin : quo [] (l.drop 1) 1 = .bad 4 := hq.trans hq2
          have HF := Lib.hid hfin
          clear hfin hq hq2 hmv hme hcl hd hlen hlen2 hown
          go_wp2_with (first | (go_at_call 79; refine hc.mono ?_; rintro e w' ⟨rfl, hw'⟩; have hw' := hw'.symm; subst hw') | (go_at_call 80; refine hmn.mono ?_; rintro e w' ⟨rfl, hw'⟩; have hw' := hw'.symm; subst hw'))
          obtain ⟨W, hW, hx5, -, hB⟩ := set5 y (.int .i64 0) (.string ⟨#[]⟩) (.int .i64 0) (.bool false) (.bool false) hbw (Nat.le_refl _)
          rw [← hW]
          obtain ⟨f0, f1, f2, f3, f4, -⟩ := box5 hx5
          exact bodyPost_ret (v := .tuple #[.agg #[.int .i64 0, .string ⟨#[]⟩, .int .i64 0, .bool false, .bool false], .int .i64 0, .int .i64 4]) (by simp [results, Tryz.f61, go_sem, f0, f1, f2, f3, f4]) rfl ⟨by rw [HF.out]; rfl, hB⟩
        | some cn =>
          obtain ⟨c, n⟩ := cn
          have hmv : meanV (l.drop a) = #[.int .u8 c.toNat, .int .i64 n] := by rw [meanV, hme]
          have hsz := meanR_size hme
          rw [List.length_drop] at hsz
          rw [hmv] at hmn
          rw [hme] at hq2
          simp only [List.drop_drop] at hq2
          have hn0 : ((n : Int) == 0) = false := by simp; omega
          have hq3 := hq.trans hq2
          clear hq hq2 hmv hme hcl hd hlen hlen2
          go_wp2_with (first | (go_at_call 79; refine hc.mono ?_; rintro e w' ⟨rfl, hw'⟩; have hw' := hw'.symm; subst hw') | (go_at_call 80; refine hmn.mono ?_; rintro e w' ⟨rfl, hw'⟩; have hw' := hw'.symm; subst hw') | (at_builtin; refine wpList_append_bytes rfl _ _ rfl w1.heap.size _ acc rfl (hown.alloc _) wr.heap.size 1 [c] rfl rfl ?c1 ?c2 ?c3 ?_))
          case c1 => intro j u hj; rcases j with _ | j <;> simp [bytesV] at hj; subst hj; simp
          case c2 => simp; omega
          case c3 => have := hbr.size; simp; omega
          · intro v' w3 hown' hgrow
            have HO := Lib.hid hown'
            have HB3 := Lib.hid ((bel_al hbr (.cells #[.int .u8 (c.toNat : Int)] 5)).grown hgrow (by simp; have := hbr.size; omega) (OwnB.lt hown))
            have HQ := Lib.hid hq3
            clear hown' hgrow hown hbr hq3 y x0 x1 x2 x3 x4 xf hbw hc hmn
            go_wp2_with fail
            go_roundw
            case rel => exact ⟨a + n, acc ++ [c], by go_num, by omega, by omega, by simp; omega, HO.out, HQ.out, HB3.out⟩
            case measure => simp [intOf]; omega
      · rw [if_pos rfl] at hq2
        have htx := hown.text
        have hlm := limited_at 1 (strV acc) acc (strV_list acc) 0 true false (a + 1) ((a : Int) + 1) (by omega) wr (by rw [strV_size]; omega)
        rw [← hq2, ← hq] at hlm
        obtain ⟨k', s', n', q', t', z', c', hr⟩ := resV_form (quo [] (l.drop 1) 1)
        rw [hr] at hlm ⊢
        clear hq hq2 hr hcl hd hlen hlen2 hmn hown
        go_wp2_with (first | (go_at_call 79; refine hc.mono ?_; rintro e w' ⟨rfl, hw'⟩; have hw' := hw'.symm; subst hw') | (go_at_call 77; refine hlm.mono ?_; rintro e w4 ⟨rfl, hb4⟩; have y4 := (hb4.block w.heap.size (by have := hbr.size; omega)).trans y; clear y; obtain ⟨z0, z1, z2, z3, z4, zf⟩ := box5 y4))
        obtain ⟨W, hW, hx5, -, hB⟩ := set5 y4 (.int .i64 k') (.string s') (.int .i64 n') (.bool q') (.bool t') (bel hbw hb4) (Nat.le_refl _)
        rw [← hW]
        obtain ⟨f0, f1, f2, f3, f4, -⟩ := box5 hx5
        exact bodyPost_ret (v := .tuple #[.agg #[.int .i64 k', .string s', .int .i64 n', .bool q', .bool t'], .int .i64 z', .int .i64 c']) (by simp [results, Tryz.f61, go_sem, f0, f1, f2, f3, f4]) rfl ⟨rfl, hB⟩
    · have hfin : quo [] (l.drop 1) 1 = .bad 4 := by
        rw [hq, quo_eq, if_pos (List.drop_of_length_le (by omega))]
      have HF := Lib.hid hfin
      clear hfin hq hown
      go_wp2_with fail
      obtain ⟨W, hW, hx5, -, hB⟩ := set5 y (.int .i64 0) (.string ⟨#[]⟩) (.int .i64 0) (.bool false) (.bool false) hbw (Nat.le_refl _)
      rw [← hW]
      obtain ⟨f0, f1, f2, f3, f4, -⟩ := box5 hx5
      exact bodyPost_ret (v := .tuple #[.agg #[.int .i64 0, .string ⟨#[]⟩, .int .i64 0, .bool false, .bool false], .int .i64 0, .int .i64 4]) (by simp [results, Tryz.f61, go_sem, f0, f1, f2, f3, f4]) rfl ⟨by rw [HF.out]; rfl, hB⟩
end Go.Proofs.YtfencolokfghfaaGreatDoor
