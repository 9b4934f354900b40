/-
  The walk of the reference's Answer.
-/
import Derived.Test.YtfencolokfghfaaDoorRText
namespace Go.Proofs.YtfencolokfghfaaDoor
open Go.Shelf Go.RowKit Go.Sort
set_option linter.unusedVariables false
set_option linter.unnecessarySimpa false

def outL (ns : List ByteArray) (vs : List Tm) (k : Nat) : List UInt8 := Lib.join ((toldL ns vs k).map (·.data.toList)) [44, 32]
theorem join_snoc8 (sep y : List UInt8) : ∀ xs : List (List UInt8), Lib.join (xs ++ [y]) sep = if xs = [] then y else Lib.join xs sep ++ sep ++ y
  | [] => by rw [if_pos rfl, List.nil_append, Lib.join_one]
  | x :: xs => by
    rw [if_neg (by simp), List.cons_append, Lib.join_cons, Lib.join_cons]
    unfold Lib.joinTail
    simp
theorem join_nil8 {sep : List UInt8} {xs : List (List UInt8)} (h : ∀ x ∈ xs, x ≠ []) : Lib.join xs sep = [] ↔ xs = [] := by
  cases xs with
  | nil => simp [Lib.join_nil]
  | cons x xs =>
    rw [Lib.join_cons]
    simp
    intro e
    exact absurd e (h x (by simp))
theorem told_ne {ns : List ByteArray} {vs : List Tm} {k : Nat} : ∀ x ∈ (toldL ns vs k).map (·.data.toList), x ≠ [] := by
  intro x hx
  obtain ⟨y, hy, rfl⟩ := List.mem_map.1 hx
  unfold toldL at hy
  obtain ⟨z, -, hz⟩ := List.mem_filterMap.1 hy
  unfold tellO at hz
  split at hz
  · cases hz
  · injection hz with hz
    rw [← hz]
    intro e
    have h := congrArg List.length e
    rw [app_list8, app_list8] at h
    simp at h
theorem outL_nil {ns : List ByteArray} {vs : List Tm} {k : Nat} : outL ns vs k = [] ↔ (toldL ns vs k).length = 0 := by
  unfold outL
  rw [join_nil8 told_ne]
  simp
theorem outL_succ {ns : List ByteArray} {vs : List Tm} {k : Nat} {nm : ByteArray} {t : Tm} (h : (ns.zip vs)[k]? = some (nm, t)) : outL ns vs (k + 1) = if Lib.hasPrefix nm.data.toList [95] = true then outL ns vs k else if outL ns vs k = [] then nm.data.toList ++ [32, 61, 32] ++ t.txt else outL ns vs k ++ [44, 32] ++ nm.data.toList ++ [32, 61, 32] ++ t.txt := by
  have hs := toldL_succ h
  split
  · rename_i hp
    have hto : tellO (nm, t) = none := by unfold tellO; rw [if_pos hp]
    unfold outL
    rw [hs, hto]
    simp
  · rename_i hp
    have hto : tellO (nm, t) = some (nm ++ ByteArray.mk #[32, 61, 32] ++ strV t.txt) := by unfold tellO; rw [if_neg hp]
    have hj := join_snoc8 [44, 32] (nm.data.toList ++ [32, 61, 32] ++ t.txt) ((toldL ns vs k).map (·.data.toList))
    have e : outL ns vs (k + 1) = Lib.join ((toldL ns vs k).map (·.data.toList) ++ [nm.data.toList ++ [32, 61, 32] ++ t.txt]) [44, 32] := by
      unfold outL
      rw [hs, hto, List.map_append]
      simp only [Option.toList_some, List.map_cons, List.map_nil]
      rw [app_list8, app_list8, strV_list]
    rw [e, hj]
    by_cases h0 : outL ns vs k = []
    · have h1 := outL_nil.1 h0
      rw [if_pos h0, if_pos (by simpa using h1)]
    · have h1 := fun x => h0 (outL_nil.2 x)
      rw [if_neg h0, if_neg (by simpa using h1)]
      unfold outL
      simp
theorem ans_out (ns : List ByteArray) (vs : List Tm) : ansL ns vs = if outL ns vs (ns.zip vs).length = [] then [121, 101, 115] else outL ns vs (ns.zip vs).length := by
  unfold ansL
  by_cases h0 : (toldL ns vs (ns.zip vs).length).length = 0
  · rw [if_pos h0, if_pos (outL_nil.2 h0)]
  · rw [if_neg h0, if_neg (fun e => h0 (outL_nil.1 e))]
    rfl
set_option maxRecDepth 100000 in
set_option maxHeartbeats 4000000 in
theorem ranswer_at (ns : List ByteArray) (vs : List Tm) (a0 : Option Addr) (cap0 : Nat) (a1 : Option Addr) (cap1 : Nat) (w : World) (hns : StrIn w a0 ns) (hvs : HasTs w (.slice a1 vs.length cap1) vs)
    (hv : ∀ t ∈ vs, t.byt ≤ 2000000 ∧ t.size ≤ 1000000) (hvl : vs.length ≤ 1000) (hnl : ns.length ≤ 9223372036854775807) (hn : ∀ s ∈ ns, s.size ≤ 2000000) : Calls Tryd.prog 10 #[.slice a0 ns.length cap0, .slice a1 vs.length cap1] w (Gets w (.string (strV (ansL ns vs)))) := by
  obtain ⟨m, hm⟩ : ∃ m, m = (ns.zip vs).length := ⟨_, rfl⟩
  have hm2 : m = min ns.length vs.length := by rw [hm, List.length_zip]
  have hTs := hvs
  obtain ⟨a1', cap1', hvv, -, -, -, hel⟩ := hvs
  injection hvv with hv1 hv2 hv3
  subst hv1 hv3
  have htold : ∀ k, ∀ x ∈ toldL ns vs k, x.size ≤ 50000000 := by
    intro k x hx
    unfold toldL at hx
    obtain ⟨y, hy, hyx⟩ := List.mem_filterMap.1 hx
    have hz := List.mem_of_mem_take hy
    obtain ⟨i, hi, e⟩ := List.getElem_of_mem hz
    rw [List.getElem_zip] at e
    have hi1 : i < ns.length := by rw [List.length_zip] at hi; omega
    have hi2 : i < vs.length := by rw [List.length_zip] at hi; omega
    obtain ⟨b, o, k1, n1, s1, a2, l2, c2, -, -, -, -, -, -, hTm⟩ := hel i hi2
    have h1 := hn _ (List.getElem_mem hi1)
    have h2 := txt_bound hTm (hv _ (List.getElem_mem hi2))
    rw [← e] at hyx
    unfold tellO at hyx
    split at hyx
    · cases hyx
    · injection hyx with hyx
      rw [← hyx, ByteArray.size_append, ByteArray.size_append, strV_size]
      have : (ByteArray.mk #[32, 61, 32]).size = 3 := rfl
      simp only at *
      omega
  have hout : ∀ k, k ≤ m → (outL ns vs k).length ≤ 60000000000 := fun k hk => by
    have h1 := List.length_filterMap_le tellO ((ns.zip vs).take k)
    rw [List.length_take] at h1
    have h2 : (toldL ns vs k).length ≤ 1000 := by unfold toldL; omega
    have h3 := join_len (c := 50000000) [44, 32] ((toldL ns vs k).map (·.data.toList)) (fun x hx => by
      obtain ⟨y, hy, rfl⟩ := List.mem_map.1 hx
      exact htold k y hy)
    simp only [List.length_map, List.length_cons, List.length_nil] at h3
    have h4 : (50000000 + (0 + 1 + 1)) * (toldL ns vs k).length ≤ 50000002 * 1000 := Nat.mul_le_mul (by omega) h2
    have h5 : outL ns vs k = Lib.join ((toldL ns vs k).map (·.data.toList)) [44, 32] := rfl
    rw [h5]
    omega
  have HA := Lib.hid (show ansL ns vs = if outL ns vs m = [] then [121, 101, 115] else outL ns vs m by rw [hm]; exact ans_out ns vs)
  have HO := Lib.hid hout
  have HM := Lib.hid hm2
  have HE := Lib.hid hel
  clear htold hout hm hm2 hel
  go_enter Tryd.func10, Tryd.ntmps10
  go_wp2_with fail
  go_loopg [5, 6] m (fun g x z wr => ∃ k : Nat, x = .string (strV (outL ns vs k)) ∧ z = .int .i64 k ∧ g + k = m ∧ Below w.heap.size w wr)
  case atStart => exact ⟨0, rfl, rfl, by omega, Below.refl _ _⟩
  case round =>
    obtain ⟨k, rfl, rfl, hgk, hbr⟩ := hrel
    have hz : (strV (outL ns vs k)).size ≤ 60000000000 := by rw [strV_size]; exact HO.out k (by omega)
    have hbe := toList_beq (strV_list (outL ns vs k)) []
    cases gk with
    | zero =>
      have hkm : k = m := by omega
      have hm2 := HM.out
      by_cases hp : outL ns vs m = []
      · have HA2 := Lib.hid (show ansL ns vs = [121, 101, 115] by rw [HA.out, if_pos hp])
        rw [hkm, decide_eq_true hp] at hbe
        by_cases hk1 : ns.length ≤ k
        · have hkk : ¬ ((k : Int) < (ns.length : Int)) := by omega
          rw [hkm] at hkk
          subst hkm
          clear hm2 HA hp hk1
          go_wp2_with fail
          go_ret
          exact ⟨congrArg (fun x => Ending.returned (Value.string x)) (by rw [HA2.out]; rfl), hbr⟩
        · have hkk : ((k : Int) < (ns.length : Int)) := by omega
          have hkv : ¬ ((k : Int) < (vs.length : Int)) := by omega
          rw [hkm] at hkk hkv
          subst hkm
          clear hm2 HA hp hk1
          go_wp2_with fail
          go_ret
          exact ⟨congrArg (fun x => Ending.returned (Value.string x)) (by rw [HA2.out]; rfl), hbr⟩
      · have HA2 := Lib.hid (show ansL ns vs = outL ns vs m by rw [HA.out, if_neg hp])
        rw [hkm, decide_eq_false hp] at hbe
        by_cases hk1 : ns.length ≤ k
        · have hkk : ¬ ((k : Int) < (ns.length : Int)) := by omega
          rw [hkm] at hkk
          subst hkm
          clear hm2 HA hp hk1
          go_wp2_with fail
          go_ret
          exact ⟨congrArg (fun x => Ending.returned (Value.string x)) (by rw [HA2.out]), hbr⟩
        · have hkk : ((k : Int) < (ns.length : Int)) := by omega
          have hkv : ¬ ((k : Int) < (vs.length : Int)) := by omega
          rw [hkm] at hkk hkv
          subst hkm
          clear hm2 HA hp hk1
          go_wp2_with fail
          go_ret
          exact ⟨congrArg (fun x => Ending.returned (Value.string x)) (by rw [HA2.out]), hbr⟩
    | succ q =>
      have hm2 := HM.out
      have hk1 : k < ns.length := by omega
      have hk2 : k < vs.length := by omega
      have hkk : ((k : Int) < (ns.length : Int)) := by omega
      have hkv : ((k : Int) < (vs.length : Int)) := by omega
      have hzz : (ns.zip vs)[k]? = some (ns[k], vs[k]) := by
        rw [List.getElem?_eq_getElem (by rw [List.length_zip]; omega), List.getElem_zip]
      have hsu := outL_succ hzz
      obtain ⟨g, o, hga, hgl, hgc⟩ := (hns.below hbr) k ns[k] (List.getElem?_eq_getElem hk1)
      subst hga
      obtain ⟨a1', cap1', hvv, -, -, -, hel2⟩ := hTs.below hbr
      injection hvv with hv1 hv2 hv3
      subst hv1 hv3
      obtain ⟨b, o2, k1, n1, s1, a2, l2, c2, he, hbl, q0, q1, q2, q3, hTm⟩ := hel2 k hk2
      subst he
      have hvk := hv _ (List.getElem_mem hk2)
      have hnk := hn _ (List.getElem_mem hk1)
      have HI := Lib.hid (fun W (h : Below wr.heap.size wr W) => rtext_ok vs[k] _ W (Has.below hTm h) hvk.1 hvk.2)
      have htb := txt_bound hTm hvk
      have hts : (strV vs[k].txt).size = vs[k].txt.length := strV_size _
      generalize hnm : ns[k] = nm at *
      generalize htt : vs[k] = t at *
      have HS := Lib.hid hsu
      clear hsu hzz hel2 hm2 hTm HM HE HA HO hTs hns hv hn hvk
      obtain ⟨nl, hnl2⟩ : ∃ nl, nm.data.toList = nl := ⟨_, rfl⟩
      have hsz := len_of hnl2
      have HNL := Lib.hid hnl2
      by_cases hhid : ∃ r, nl = 95 :: r
      · obtain ⟨r, rfl⟩ := hhid
        have hpos : 0 < nm.size := by rw [hsz]; simp
        obtain ⟨d, hd, hg0⟩ := get_of hnl2 hpos
        have hd95 : d = 95 := by simpa using hd.symm
        subst hd95
        have HS2 := Lib.hid (show outL ns vs (k + 1) = outL ns vs k by rw [HS.out, if_pos (by rw [HNL.out]; rfl)])
        have hp2 : (0 : Int) < (nm.size : Int) := by omega
        clear HS hd hsz hnl2 HNL hbe
        generalize outL ns vs k = p at *
        go_wp2_with fail
        go_roundg q
        case measure => omega
        case rel => exact ⟨k + 1, congrArg Value.string (by rw [HS2.out]), by simp, by omega, hbr⟩
      · have HP := Lib.hid (show ¬ Lib.hasPrefix nm.data.toList [95] = true by
          rw [HNL.out]
          cases nl with
          | nil => decide
          | cons c r =>
            intro e
            refine hhid ⟨r, ?_⟩
            unfold Lib.hasPrefix at e
            simp at e
            rw [← e])
        have hsee : nm.size = 0 ∨ ∃ d, 0 < nm.size ∧ (∀ h : 0 < nm.size, nm[0] = d) ∧ ((d.toNat : Int) == 95) = false := by
          cases nl with
          | nil => left; rw [hsz]; rfl
          | cons c r =>
            right
            have hpos : 0 < nm.size := by rw [hsz]; simp
            obtain ⟨d, hd, hg0⟩ := get_of hnl2 hpos
            refine ⟨d, hpos, fun h => hg0, ne_int (c := d) (d := 95) (fun e => hhid ⟨r, ?_⟩)⟩
            simp at hd
            rw [hd, e]
        clear hhid hsz hnl2
        by_cases hp : outL ns vs k = []
        · have HS2 := Lib.hid (show outL ns vs (k + 1) = nm.data.toList ++ [32, 61, 32] ++ t.txt by rw [HS.out, if_neg HP.out, if_pos hp])
          rw [decide_eq_true hp] at hbe
          have HPP := Lib.hid hp
          clear HS HP HNL hp
          generalize outL ns vs k = p at *
          rcases hsee with hs0 | ⟨d, hpos, hg0, hd95⟩
          · have hp2 : ¬ ((0 : Int) < (nm.size : Int)) := by omega
            go_wp2_with fail
            obtain ⟨I, inst, F, n0, hF0, hFb, hFc⟩ := later_family wr
            have K0 := fun i => ((hFb i).cell (p := ⟨g, o + k, none⟩) hgl).trans hgc
            have L0 := fun i => ((hFb i).cell (p := ⟨b, o2 + k * 4, none⟩) hbl).trans q0
            have L1 := fun i => ((hFb i).cell (p := ⟨b, o2 + k * 4 + 1, none⟩) hbl).trans q1
            have L2 := fun i => ((hFb i).cell (p := ⟨b, o2 + k * 4 + 2, none⟩) hbl).trans q2
            have L3 := fun i => ((hFb i).cell (p := ⟨b, o2 + k * 4 + 3, none⟩) hbl).trans q3
            have C1 := Lib.hid (fun i => calls_fam hFc i (HI.out _ (hFb i)))
            have HF := Lib.hid hFb
            clear hFb hFc
            refine wp_region_fam F n0 hF0 (by kernel_rfl) (by kernel_rfl) ?_
            clear hF0
            repeat (go_big_quiet_step (first | (go_at_call 8; (with_reducible exact C1.out _))))
            refine wpQuiet_nil ?_
            intro _ hw'
            obtain ⟨nq, hw''⟩ := hw'
            subst hw''
            clear K0 L0 L1 L2 L3 C1
            go_wp2_with fail
            go_roundg q
            case measure => omega
            case rel => exact ⟨k + 1, congrArg Value.string (strV_of (by rw [app_list8, app_list8, app_list8, strV_list, strV_list, HS2.out, HPP.out]; rfl)), by simp, by omega, bel hbr (HF.out nq)⟩
          · have hp2 : (0 : Int) < (nm.size : Int) := by omega
            have hg1 := hg0 hpos
            clear hg0
            go_wp2_with fail
            obtain ⟨I, inst, F, n0, hF0, hFb, hFc⟩ := later_family wr
            have K0 := fun i => ((hFb i).cell (p := ⟨g, o + k, none⟩) hgl).trans hgc
            have L0 := fun i => ((hFb i).cell (p := ⟨b, o2 + k * 4, none⟩) hbl).trans q0
            have L1 := fun i => ((hFb i).cell (p := ⟨b, o2 + k * 4 + 1, none⟩) hbl).trans q1
            have L2 := fun i => ((hFb i).cell (p := ⟨b, o2 + k * 4 + 2, none⟩) hbl).trans q2
            have L3 := fun i => ((hFb i).cell (p := ⟨b, o2 + k * 4 + 3, none⟩) hbl).trans q3
            have C1 := Lib.hid (fun i => calls_fam hFc i (HI.out _ (hFb i)))
            have HF := Lib.hid hFb
            clear hFb hFc
            refine wp_region_fam F n0 hF0 (by kernel_rfl) (by kernel_rfl) ?_
            clear hF0
            repeat (go_big_quiet_step (first | (go_at_call 8; (with_reducible exact C1.out _))))
            refine wpQuiet_nil ?_
            intro _ hw'
            obtain ⟨nq, hw''⟩ := hw'
            subst hw''
            clear K0 L0 L1 L2 L3 C1
            go_wp2_with fail
            go_roundg q
            case measure => omega
            case rel => exact ⟨k + 1, congrArg Value.string (strV_of (by rw [app_list8, app_list8, app_list8, strV_list, strV_list, HS2.out, HPP.out]; rfl)), by simp, by omega, bel hbr (HF.out nq)⟩
        · have HS2 := Lib.hid (show outL ns vs (k + 1) = outL ns vs k ++ [44, 32] ++ nm.data.toList ++ [32, 61, 32] ++ t.txt by rw [HS.out, if_neg HP.out, if_neg hp])
          rw [decide_eq_false hp] at hbe
          clear HS HP HNL hp
          generalize outL ns vs k = p at *
          rcases hsee with hs0 | ⟨d, hpos, hg0, hd95⟩
          · have hp2 : ¬ ((0 : Int) < (nm.size : Int)) := by omega
            go_wp2_with fail
            obtain ⟨I, inst, F, n0, hF0, hFb, hFc⟩ := later_family wr
            have K0 := fun i => ((hFb i).cell (p := ⟨g, o + k, none⟩) hgl).trans hgc
            have L0 := fun i => ((hFb i).cell (p := ⟨b, o2 + k * 4, none⟩) hbl).trans q0
            have L1 := fun i => ((hFb i).cell (p := ⟨b, o2 + k * 4 + 1, none⟩) hbl).trans q1
            have L2 := fun i => ((hFb i).cell (p := ⟨b, o2 + k * 4 + 2, none⟩) hbl).trans q2
            have L3 := fun i => ((hFb i).cell (p := ⟨b, o2 + k * 4 + 3, none⟩) hbl).trans q3
            have C1 := Lib.hid (fun i => calls_fam hFc i (HI.out _ (hFb i)))
            have HF := Lib.hid hFb
            clear hFb hFc
            refine wp_region_fam F n0 hF0 (by kernel_rfl) (by kernel_rfl) ?_
            clear hF0
            repeat (go_big_quiet_step (first | (go_at_call 8; (with_reducible exact C1.out _))))
            refine wpQuiet_nil ?_
            intro _ hw'
            obtain ⟨nq, hw''⟩ := hw'
            subst hw''
            clear K0 L0 L1 L2 L3 C1
            go_wp2_with fail
            go_roundg q
            case measure => omega
            case rel => exact ⟨k + 1, congrArg Value.string (strV_of (by rw [app_list8, app_list8, app_list8, app_list8, strV_list, strV_list, HS2.out])), by simp, by omega, bel hbr (HF.out nq)⟩
          · have hp2 : (0 : Int) < (nm.size : Int) := by omega
            have hg1 := hg0 hpos
            clear hg0
            go_wp2_with fail
            obtain ⟨I, inst, F, n0, hF0, hFb, hFc⟩ := later_family wr
            have K0 := fun i => ((hFb i).cell (p := ⟨g, o + k, none⟩) hgl).trans hgc
            have L0 := fun i => ((hFb i).cell (p := ⟨b, o2 + k * 4, none⟩) hbl).trans q0
            have L1 := fun i => ((hFb i).cell (p := ⟨b, o2 + k * 4 + 1, none⟩) hbl).trans q1
            have L2 := fun i => ((hFb i).cell (p := ⟨b, o2 + k * 4 + 2, none⟩) hbl).trans q2
            have L3 := fun i => ((hFb i).cell (p := ⟨b, o2 + k * 4 + 3, none⟩) hbl).trans q3
            have C1 := Lib.hid (fun i => calls_fam hFc i (HI.out _ (hFb i)))
            have HF := Lib.hid hFb
            clear hFb hFc
            refine wp_region_fam F n0 hF0 (by kernel_rfl) (by kernel_rfl) ?_
            clear hF0
            repeat (go_big_quiet_step (first | (go_at_call 8; (with_reducible exact C1.out _))))
            refine wpQuiet_nil ?_
            intro _ hw'
            obtain ⟨nq, hw''⟩ := hw'
            subst hw''
            clear K0 L0 L1 L2 L3 C1
            go_wp2_with fail
            go_roundg q
            case measure => omega
            case rel => exact ⟨k + 1, congrArg Value.string (strV_of (by rw [app_list8, app_list8, app_list8, app_list8, strV_list, strV_list, HS2.out])), by simp, by omega, bel hbr (HF.out nq)⟩
end Go.Proofs.YtfencolokfghfaaDoor
