/-
  The walk of Quote.
-/
import Derived.Test.YtfencolokfghfaaGreatDoorTokP
namespace Go.Proofs.YtfencolokfghfaaGreatDoor
open Go.RowKit Go.Lib
set_option linter.unusedVariables false

theorem lit_bytes (w : World) (r : List UInt8) {B : Nat} (hB : B = w.heap.size) (cs : Array Value) (hcs : cs.toList = bytesV r) : ∀ j u, (bytesV r)[j]? = some u → (w.alloc (.cells cs 5)).cell? ⟨B, j, none⟩ = some u := by
  subst hB
  intro j u h
  rw [cells_at (alloc_new _ _), ← h, ← hcs]
  simp
theorem take_succ_snoc {l : List UInt8} {j : Nat} {c : UInt8} (hc : l[j]? = some c) : l.take (j + 1) = l.take j ++ [c] := by
  obtain ⟨h, e⟩ := List.getElem?_eq_some_iff.1 hc
  rw [List.take_succ_eq_append_getElem h, e]

set_option maxRecDepth 100000 in
set_option maxHeartbeats 4000000 in
theorem quote_at (s : ByteArray) (l : List UInt8) (hs : s.data.toList = l) (w : World) (hm : s.size ≤ 2000000) :
    Calls Tryz.prog 50 #[.string s] w (Ans w (.string (strV (quoteL l)))) := by
  obtain ⟨hl1, hl2⟩ := len_le hs
  have hp := plain_at s l hs w (by omega)
  have hq : quoteL l = if plainB l = true then l else 39 :: escL l ++ [39] := rfl
  generalize plainB l = pb at hp hq
  cases pb
  · rw [if_neg (by decide)] at hq
    have HQ := Lib.hid hq
    clear hq
    go_enter Tryz.func50, Tryz.ntmps50
    go_wp2_with (go_at_call 71; refine hp.mono ?_; rintro e w1 ⟨rfl, hb1⟩)
    go_loopw [3, 12] (fun x i wr => ∃ j : Nat, i = .int .i64 j ∧ j ≤ s.size ∧ OwnB wr w1.heap.size x (39 :: escL (l.take j)) ∧ Below w1.heap.size w1 wr) (fun _ i _ => s.size - (intOf i).toNat)
    case atStart => exact ⟨0, rfl, Nat.zero_le _, OwnB.made w1 w1.heap.size [39] (Nat.le_refl _) (by unfold maxLen; simp), bel_al (Below.refl _ _) _⟩
    case round =>
      obtain ⟨j, rfl, hj, hown, hbr⟩ := hrel
      have hlen : (39 :: escL (l.take j)).length ≤ 2 * s.size + 1 := by
        have h1 := escL_length (l.take j)
        have h2 := List.length_take_le j l
        rw [List.length_cons]; omega
      by_cases hlt : j < s.size
      · obtain ⟨c, hc, hg⟩ := get_of hs hlt
        have hts : 39 :: escL (l.take (j + 1)) = (39 :: escL (l.take j)) ++ escB c := by
          rw [take_succ_snoc hc, escL_append]; simp [escL]
        have HTS := Lib.hid hts
        have HB := Lib.hid hbr
        have HO := Lib.hid hown
        have hsz := hbr.size
        generalize 39 :: escL (l.take j) = acc at *
        clear hts hown hbr hc
        by_cases h1 : c = 39 ∨ c = 92
        · have he : escB c = [c, c] := by unfold escB; rw [if_pos h1]
          rw [he] at HTS
          rcases h1 with rfl | rfl
          · go_wp2_with (at_builtin; refine wpList_append_bytes rfl _ _ rfl w1.heap.size _ acc rfl (HO.out.alloc _) wr.heap.size 2 [39, 39] rfl rfl ?c1 ?c2 ?c3 ?_)
            case c1 => exact lit_bytes wr [39, 39] rfl _ rfl
            case c2 => simp; omega
            case c3 => simp; omega
            · intro v' w3 hown' hgrow
              have HO3 := Lib.hid hown'
              have HB3 := Lib.hid ((bel_al HB.out (.cells #[.int .u8 39, .int .u8 39] 5)).grown hgrow (by simp; omega) (OwnB.lt HO.out))
              clear hown' hgrow HO HB
              go_wp2_with fail
              go_roundw
              case rel => exact ⟨j + 1, by go_num, hlt, HTS.out ▸ HO3.out, HB3.out⟩
              case measure => simp [intOf]; omega
          · go_wp2_with (at_builtin; refine wpList_append_bytes rfl _ _ rfl w1.heap.size _ acc rfl (HO.out.alloc _) wr.heap.size 2 [92, 92] rfl rfl ?c1 ?c2 ?c3 ?_)
            case c1 => exact lit_bytes wr [92, 92] rfl _ rfl
            case c2 => simp; omega
            case c3 => simp; omega
            · intro v' w3 hown' hgrow
              have HO3 := Lib.hid hown'
              have HB3 := Lib.hid ((bel_al HB.out (.cells #[.int .u8 92, .int .u8 92] 5)).grown hgrow (by simp; omega) (OwnB.lt HO.out))
              clear hown' hgrow HO HB
              go_wp2_with fail
              go_roundw
              case rel => exact ⟨j + 1, by go_num, hlt, HTS.out ▸ HO3.out, HB3.out⟩
              case measure => simp [intOf]; omega
        · have n39 := ne_int (fun e => h1 (Or.inl e))
          have n92 := ne_int (fun e => h1 (Or.inr e))
          simp only [show ((39 : UInt8).toNat : Int) = 39 from rfl] at n39
          simp only [show ((92 : UInt8).toNat : Int) = 92 from rfl] at n92
          by_cases h2 : c = 10
          · have he : escB c = [92, 110] := by unfold escB; rw [if_neg h1, if_pos h2]
            rw [he] at HTS
            subst h2
            clear n39 n92 h1
            go_wp2_with (at_builtin; refine wpList_append_bytes rfl _ _ rfl w1.heap.size _ acc rfl (HO.out.alloc _) wr.heap.size 2 [92, 110] rfl rfl ?c1 ?c2 ?c3 ?_)
            case c1 => exact lit_bytes wr [92, 110] rfl _ rfl
            case c2 => simp; omega
            case c3 => simp; omega
            · intro v' w3 hown' hgrow
              have HO3 := Lib.hid hown'
              have HB3 := Lib.hid ((bel_al HB.out (.cells #[.int .u8 92, .int .u8 110] 5)).grown hgrow (by simp; omega) (OwnB.lt HO.out))
              clear hown' hgrow HO HB
              go_wp2_with fail
              go_roundw
              case rel => exact ⟨j + 1, by go_num, hlt, HTS.out ▸ HO3.out, HB3.out⟩
              case measure => simp [intOf]; omega
          · have he : escB c = [c] := by unfold escB; rw [if_neg h1, if_neg h2]
            rw [he] at HTS
            have n10 := ne_int h2
            simp only [show ((10 : UInt8).toNat : Int) = 10 from rfl] at n10
            go_wp2_with (at_builtin; refine wpList_append_bytes rfl _ _ rfl w1.heap.size _ acc rfl (HO.out.alloc _) wr.heap.size 1 [c] rfl rfl ?c1 ?c2 ?c3 ?_)
            case c1 => exact lit_bytes wr [c] rfl _ rfl
            case c2 => simp; omega
            case c3 => simp; omega
            · intro v' w3 hown' hgrow
              have HO3 := Lib.hid hown'
              have HB3 := Lib.hid ((bel_al HB.out (.cells #[.int .u8 (c.toNat : Int)] 5)).grown hgrow (by simp; omega) (OwnB.lt HO.out))
              clear hown' hgrow HO HB
              go_wp2_with fail
              go_roundw
              case rel => exact ⟨j + 1, by go_num, hlt, HTS.out ▸ HO3.out, HB3.out⟩
              case measure => simp [intOf]; omega
      · have hfin : quoteL l = (39 :: escL (l.take j)) ++ [39] := by
          rw [HQ.out, List.take_of_length_le (by omega)]
        have HF := Lib.hid hfin
        have HB := Lib.hid hbr
        have HO := Lib.hid hown
        have hsz := hbr.size
        generalize 39 :: escL (l.take j) = acc at *
        clear hfin hown hbr HQ
        go_wp2_with (at_builtin; refine wpList_append_bytes rfl _ _ rfl w1.heap.size _ acc rfl (HO.out.alloc _) wr.heap.size 1 [39] rfl rfl ?c1 ?c2 ?c3 ?_)
        case c1 => exact lit_bytes wr [39] rfl _ rfl
        case c2 => simp; omega
        case c3 => simp; omega
        · intro v' w3 hown' hgrow
          have htx := hown'.text
          have HB3 := Lib.hid ((bel_al HB.out (.cells #[.int .u8 39] 5)).grown hgrow (by simp; omega) (OwnB.lt HO.out))
          rw [← HF.out] at htx
          clear hown' hgrow HO HB
          go_wp2_with fail
          go_ret
          exact ⟨rfl, bel hb1 HB3.out⟩
  · rw [if_pos rfl] at hq
    rw [hq, ← strV_of hs]
    clear hq
    go_enter Tryz.func50, Tryz.ntmps50
    go_wp2_with (go_at_call 71; refine hp.mono ?_; rintro e w1 ⟨rfl, hb1⟩)
    go_ret
    exact ⟨rfl, hb1⟩
end Go.Proofs.YtfencolokfghfaaGreatDoor
