/-
  ReaderLists: figures in square brackets are read as pairs, one in the other.
-/
import Derived.Test.YtgodbmmhkmockaaGreatDoorLawRSums
import Derived.Test.YtgodbmmhkmockaaGreatDoorReadZ
namespace Go.Proofs.YtgodbmmhkmockaaGreatDoor
open Go.RowKit Go.Maps
set_option linter.unusedVariables false
set_option linter.unusedSimpArgs false

def lT : List UInt8 → List UInt8
  | [] => []
  | b :: r => dgt b :: r.flatMap lsT
theorem lT_snoc {l : List UInt8} (h : l ≠ []) (b : UInt8) : lT (l ++ [b]) = lT l ++ lsT b := by
  cases l with
  | nil => exact absurd rfl h
  | cons c l => simp [lT]
theorem lT_len (l : List UInt8) : (lT l).length ≤ 3 * l.length := by
  cases l with
  | nil => simp [lT]
  | cons b l => have := lsT_len l; simp only [lT, List.length_cons]; omega
theorem lsM_size (u : Tm) (hu : Fine u 1 1) (l : List UInt8) : (lsM l u).size ≤ 2 * l.length + 1 := (lsM_fine u hu l).2.1
theorem lists_all {bs : List UInt8} {v : Bool} (hl : bs.length ≤ 20) (hv : v = true → bs ≠ []) : allG ((91 :: lT bs) ++ tlT v) 1 = .ok [lsM bs (lsU v)] := by
  cases bs with
  | nil =>
    cases v with
    | true => exact absurd rfl (hv rfl)
    | false => exact empty_ghost
  | cons b l => exact lists_ghost b l v (by simp at hl; omega)
theorem bel' {B : Nat} {a b c : World} (h : Below B a b) (g : Below b.heap.size b c) (hB : B ≤ b.heap.size) : Below B a c := h.trans (g.mono hB)
set_option maxRecDepth 100000 in
set_option maxHeartbeats 4000000 in
theorem lists_f (a : Option Addr) (cap : Nat) (bs : List UInt8) (w : World) (hm : bs.length ≤ cap) (hcap : cap ≤ maxLen) (hlen : bs.length ≤ 20) (hU : U8At w a bs) (L : Laid w) (T : Tab w) (E : ErrT w) : Calls Tryz.prog 5 #[.slice a bs.length cap, .bool false] w (Gets w (.bool true)) := by
  have hsh := shown7_at w L T E
  have hat := fun W => atom_at (ByteArray.mk #[91, 93]) W (by decide)
  have hlt := fun W => let_at 0 W ⟨by decide, by decide⟩
  have hz := zeroTerm
  have hb9 : ¬ 20 < (bs.length : Int) := by omega
  have hgl : (bs.length : Int) - 1 ≤ 100 := by omega
  have hg0 : -1 ≤ (bs.length : Int) - 1 := by omega
  go_enter Tryz.func5, Tryz.ntmps5
  go_wp2_with (first | (go_at_call 8; refine hsh.mono ?_; rintro e W1 ⟨rfl, hb1⟩) | (go_at_call 15; refine (hat _).mono ?_; rintro e W2 h4; obtain ⟨k1, m1, s1, a1, l1, c1, rfl, hT1, hb2⟩ := h4.form4))
  have hb2w := bel hb1 hb2
  have hBox0 := alloc_new W2 (.cells #[.int .i64 k1, .int .i64 m1, .string s1, .slice a1 l1 c1] 32)
  have hTT : TmIn (fun b => b < (W2.alloc (.cells #[.int .i64 k1, .int .i64 m1, .string s1, .slice a1 l1 c1] 32)).heap.size ∧ b ≠ W2.heap.size) (W2.alloc (.cells #[.int .i64 k1, .int .i64 m1, .string s1, .slice a1 l1 c1] 32)) (.agg #[.int .i64 k1, .int .i64 m1, .string s1, .slice a1 l1 c1]) (lsM [] (lsU false)) := TmIn.carry (fun b hb => Below.block (bel_al (Below.refl W2.heap.size W2) _) b hb.2) (fun b hb => ⟨by have := hb.2; simp; omega, by omega⟩) hT1
  have hBB : Below W2.heap.size W2 (W2.alloc (.cells #[.int .i64 k1, .int .i64 m1, .string s1, .slice a1 l1 c1] 32)) := bel_al (Below.refl _ _) _
  have hU2 := hU.below hb2w
  have hu1 : Fine (lsU false) 1 1 := lsU_fine false
  clear hT1 h4 hsh hat hlt
  go_loopg [8] bs.length (fun g z wr => ∃ (i : Int) (k1 m1 : Int) (s1 : ByteArray) (a1 : Option Addr) (l1 c1 : Nat), z = .int .i64 i ∧ (i + 1 = (g : Int) ∧ g ≤ bs.length) ∧ wr.heap[W2.heap.size]? = some (.cells #[.int .i64 k1, .int .i64 m1, .string s1, .slice a1 l1 c1] 32 (0, 0)) ∧ TmIn (fun b => b < wr.heap.size ∧ b ≠ W2.heap.size) wr (.agg #[.int .i64 k1, .int .i64 m1, .string s1, .slice a1 l1 c1]) (lsM (bs.drop g) (lsU false)) ∧ Below W2.heap.size W2 wr)
  case atStart => exact ⟨_, _, _, _, _, _, _, rfl, ⟨by omega, Nat.le_refl _⟩, hBox0, by rw [List.drop_length]; exact hTT, hBB⟩
  case round =>
    clear hTT hBox0
    obtain ⟨i, k1, m1, s1, a1, l1, c1, rfl, ⟨hi, hgl9⟩, hbx, hTm, hbr⟩ := hrel
    cases gk with
    | zero =>
      obtain rfl : i = -1 := by omega
      rw [List.drop_zero] at hTm
      obtain ⟨Wo, rfl⟩ : ∃ Wo, Wo = wr := ⟨_, rfl⟩
      have hbx1 := Lib.hid hbx
      have hTm1 := Lib.hid hTm
      have hsz : W2.heap.size < Wo.heap.size := (Array.getElem?_eq_some_iff.1 hbx).1
      have hUr := hU2.below hbr
      clear hbx hTm
      go_wp2_with fail
      go_loopg [6, 9] bs.length (fun g x z wk => ∃ (k : Nat) (S : ByteArray), x = .string S ∧ z = .int .i64 k ∧ g + k = bs.length ∧ S.data.toList = 91 :: lT (bs.take k) ∧ Below Wo.heap.size Wo wk)
      case atStart => exact ⟨0, _, rfl, rfl, by omega, rfl, Below.refl _ _⟩
      case round =>
        obtain ⟨k, S, rfl, rfl, hgk, hS, hbk⟩ := hrel
        cases gk with
        | zero =>
          have hkk : ¬ ((k : Int) < (bs.length : Int)) := by omega
          have hke : k = bs.length := by omega
          have htk : bs.take k = bs := by rw [hke, List.take_length]
          rw [htk] at hS
          have hlS := lT_len bs
          have hS9 : S.size ≤ 200 := by
            have h1 := len_of (s := S) rfl
            rw [hS, List.length_cons] at h1
            omega
          have hAg := lists_all (v := false) hlen (fun h => by cases h)
          have hbw := bel hb2w (bel hbr hbk)
          have hA := all_at (S ++ ByteArray.mk #[93, 46]) ((91 :: lT bs) ++ tlT false) (by rw [rd_app, hS]; rfl) wr (L.later hbw) (T.later hbw) (E.later hbw) (by rw [ByteArray.size_append]; have : (ByteArray.mk #[93, 46]).size = 2 := rfl; omega) 1
          rw [hAg] at hA
          unfold AllPost at hA
          have hbx := hbx1.out
          have hTm := hTm1.out
          clear hAg htk hS
          go_wp2_with (first | (go_at_call 9; refine hA.mono ?_; rintro e W4 ⟨qa, qcap, rfl, hb4', hts⟩))
          have hb4 := bel hbk hb4'
          have x4 := (hb4.block _ hsz).trans hbx
          have hT4 : Has W4 (.agg #[.int .i64 k1, .int .i64 m1, .string s1, .slice a1 l1 c1]) (lsM bs (lsU false)) := TmIn.carry (fun b hb => hb4.block b hb.1) (fun b hb => Nat.lt_of_lt_of_le hb.1 hb4.size) hTm
          obtain ⟨lb, lo, lcap, x0, y0, z0, u0, lu0, cu0, hv, hlb, p0, p1, p2, p3, hL0⟩ := one_has hts
          injection hv with hv1 hv2 hv3
          subst hv1 hv3
          have hl4 : W2.heap.size < W4.heap.size := (Array.getElem?_eq_some_iff.1 x4).1
          obtain ⟨I, inst, F, m0, hF0, hFb, hFc⟩ := op_later_family W4
          have hFx := fun i => ((hFb i).block W2.heap.size hl4).trans x4
          have t0 := fun i => (tbox_cells (hFx i)).1
          have t1 := fun i => (tbox_cells (hFx i)).2.1
          have t2 := fun i => (tbox_cells (hFx i)).2.2.1
          have t3 := fun i => (tbox_cells (hFx i)).2.2.2
          have cb := fun i (q : Nat) (u : Value) (hq : W4.cell? ⟨lb, q, none⟩ = some u) => (World.cell?_of_block (a := ⟨lb, q, none⟩) ((hFb i).block lb hlb)).trans hq
          have w0 := fun j => cb j _ _ p0
          have w1 := fun j => cb j _ _ p1
          have w2 := fun j => cb j _ _ p2
          have w3 := fun j => cb j _ _ p3
          have hzz : (lsM bs (lsU false)).size ≤ 1000000000000 := by have := lsM_size _ hu1 bs; omega
          have hSm : Hid (∀ j, Calls Tryz.prog 14 #[.agg #[.int .i64 x0, .int .i64 y0, .string z0, .slice u0 lu0 cu0], .agg #[.int .i64 k1, .int .i64 m1, .string s1, .slice a1 l1 c1]] (F j) fun e w'' => e = .returned (.bool true) ∧ ∃ m, w'' = F m) :=
            Lib.hid (fun j => (same_at (lsM bs (lsU false)) (lsM bs (lsU false)) _ _ (F j) (Has.below hL0 (hFb j)) (Has.below hT4 (hFb j)) hzz hzz).mono fun e w' hg => ⟨by rw [hg.1]; simp, hFc j _ hg.2⟩)
          have HB := Lib.hid (And.intro (bel hbw hb4') hFb)
          clear hFx hFb hFc cb p0 p1 p2 p3 hL0 hT4 hTm hts hA x4 hbx
          refine op_region_fam F m0 hF0 (by kernel_rfl) (by kernel_rfl) ?_
          clear hF0
          repeat (go_big_quiet_step (first | (go_at_call 14; (with_reducible exact hSm.out _))))
          refine wpQuiet_nil ?_
          intro _ hw'
          obtain ⟨nq, hw''⟩ := hw'
          subst hw''
          go_wp2_with fail
          go_ret
          exact ⟨rfl, bel HB.out.1 (HB.out.2 nq)⟩
        | succ m =>
          have hk : k < bs.length := by omega
          have hkk : ((k : Int) < (bs.length : Int)) := by omega
          obtain ⟨c, hc⟩ : ∃ c, bs[k]? = some c := ⟨_, List.getElem?_eq_getElem hk⟩
          obtain ⟨ad, rfl, had, hcell⟩ := (hUr.below hbk) k c hc
          obtain ⟨j, hj, hj'⟩ : ∃ j : Nat, j < 10 ∧ (c.toNat : Int) % 10 = j := ⟨c.toNat % 10, by omega, by omega⟩
          have hj9 : (j : Int) < 10 := by omega
          have hj8 : (0 : Int) ≤ (j : Int) := by omega
          have hc9 : (c.toNat : Int) ≤ 255 := by have := c.toNat_lt; omega
          have hS9 : S.size ≤ 200 := by
            have h1 := len_of (s := S) rfl
            have h2 := lT_len (bs.take k)
            rw [hS, List.length_cons] at h1
            rw [List.length_take] at h2
            omega
          obtain ⟨g, hg⟩ : ∃ g : UInt8, g = UInt8.ofNat (48 + j) := ⟨_, rfl⟩
          have hgn : (g.toNat : Int) = 48 + j := by rw [hg]; simp [UInt8.toNat_ofNat]; omega
          have hgd : g = dgt c := by rw [hg, dgt]; congr 2; omega
          have cg : ∀ W : World, (convert 30 9 (.slice (some ⟨W.heap.size, 0, none⟩) 1 1)).run Tryz.prog (W.alloc (.cells #[.int .u8 (48 + (j : Int))] 5)) = .ok (.string (strV [g])) (W.alloc (.cells #[.int .u8 (48 + (j : Int))] 5)) := fun W => one_text7 (by rw [hgn]; have := alloc_new W (.cells #[.int .u8 (48 + (j : Int))] 5); simp only [World.cell?, this]; rfl)
          have HG := Lib.hid (And.intro hgd hgn)
          have zg : (strV [g]).size = 1 := rfl
          have hS8 := Lib.hid hS
          have htk : bs.take (k + 1) = bs.take k ++ [c] := by rw [List.take_add_one, hc]; rfl
          clear hg hgn hgd hS
          by_cases hk0 : k = 0
          · have hk1 : decide ((0 : Int) < (k : Int)) = false := by rw [decide_eq_false_iff_not]; omega
            have HK := Lib.hid hk0
            clear hk0 hk1
            go_wp2_with fail
            · exfalso
              have := HK.out
              omega
            · go_roundg m
              case measure => omega
              case rel =>
                refine ⟨k + 1, _, rfl, by simp, by omega, ?_, bel_al hbk _⟩
                rw [htk, rd_app, hS8.out, HG.out.1, strV_list, HK.out]
                rfl
          · have hk1 : (0 : Int) < (k : Int) := by omega
            have hnt : bs.take k ≠ [] := by
              intro e
              have := congrArg List.length e
              rw [List.length_take, List.length_nil] at this
              omega
            go_wp2_with fail
            go_roundg m
            case measure => omega
            case rel =>
              refine ⟨k + 1, _, rfl, by simp, by omega, ?_, bel_al hbk _⟩
              rw [htk, lT_snoc hnt, rd_app, rd_app, hS8.out, HG.out.1, strV_list]
              simp [lsT]

    | succ m =>
      obtain rfl : i = (m : Int) := by omega
      clear hi
      have hk : m < bs.length := by omega
      obtain ⟨c, hc⟩ : ∃ c, bs[m]? = some c := ⟨_, List.getElem?_eq_getElem hk⟩
      obtain ⟨ad, rfl, had, hcell⟩ := (hU2.below hbr) m c hc
      obtain ⟨j, hj, hj'⟩ : ∃ j : Nat, j < 10 ∧ (c.toNat : Int) % 10 = j := ⟨c.toNat % 10, by omega, by omega⟩
      have hjc : c.toNat % 10 = j := by omega
      have hj9 : (j : Int) < 10 := by omega
      have hj8 : (0 : Int) ≤ (j : Int) := by omega
      have hjm : (c.toNat : Int).tmod 10 = j := by rw [Int.tmod_eq_emod_of_nonneg (by omega)]; exact hj'
      have hjw : IntKind.i64.wrap (j : Int) = j := by rw [IntKind.wrap_i64]; omega
      have hc9 : (c.toNat : Int) ≤ 255 := by have := c.toNat_lt; omega
      have hm9 : (m : Int) < (bs.length : Int) := by omega
      have hm8 : (0 : Int) ≤ (m : Int) := by omega
      have hm7 : (bs.length : Int) ≤ 9223372036854775807 := by omega
      have hnj := fun W => num_at j W ⟨by omega, by omega⟩
      have hdp : bs.drop m = c :: bs.drop (m + 1) := by rw [List.drop_eq_getElem_cons hk]; rw [List.getElem?_eq_getElem hk] at hc; rw [Option.some.inj hc]
      have hzT := lsM_size _ hu1 (bs.drop (m + 1))
      rw [List.length_drop] at hzT
      have hsz : W2.heap.size < wr.heap.size := (Array.getElem?_eq_some_iff.1 hbx).1
      obtain ⟨t0, t1, t2, t3⟩ := tbox_cells hbx
      have cellB : ∀ w' (b o : Nat) (v : Value), Below wr.heap.size wr w' → b < wr.heap.size → wr.cell? ⟨b, o, none⟩ = some v → w'.cell? ⟨b, o, none⟩ = some v := fun w' b o v h hb hc => (h.cell (p := ⟨b, o, none⟩) hb).trans hc
      have HS : ∀ w', Below wr.heap.size wr w' → (w'.cell? (ad.add m) = some (.int .u8 (c.toNat : Int)) ∧ w'.cell? ⟨W2.heap.size, 0, none⟩ = some (.int .i64 k1) ∧ w'.cell? ⟨W2.heap.size, 1, none⟩ = some (.int .i64 m1) ∧ w'.cell? ⟨W2.heap.size, 2, none⟩ = some (.string s1) ∧ w'.cell? ⟨W2.heap.size, 3, none⟩ = some (.slice a1 l1 c1) ∧ Below wr.heap.size wr w') := fun w' h =>
        ⟨(h.cell (p := ad.add m) (by rw [adk]; exact had)).trans hcell, cellB _ _ _ _ h hsz t0, cellB _ _ _ _ h hsz t1, cellB _ _ _ _ h hsz t2, cellB _ _ _ _ h hsz t3, h⟩
      have hTh : Has wr (.agg #[.int .i64 k1, .int .i64 m1, .string s1, .slice a1 l1 c1]) (lsM (bs.drop (m + 1)) (lsU false)) := hTm.carry (fun _ _ => rfl) (fun b hb => hb.1)
      have hdr : Below wr.heap.size wr wr.drew := (Below.refl wr.heap.size wr).drew
      clear t0 t1 t2 t3 cellB hcell
      go_wp2_with fail
      refine wp_region_noPanic ?_
      refine wp_region_last (S := (fun w' => w'.cell? (ad.add m) = some (.int .u8 (c.toNat : Int)) ∧ w'.cell? ⟨W2.heap.size, 0, none⟩ = some (.int .i64 k1) ∧ w'.cell? ⟨W2.heap.size, 1, none⟩ = some (.int .i64 m1) ∧ w'.cell? ⟨W2.heap.size, 2, none⟩ = some (.string s1) ∧ w'.cell? ⟨W2.heap.size, 3, none⟩ = some (.slice a1 l1 c1) ∧ Below wr.heap.size wr w')) 10 (by kernel_rfl) (by kernel_rfl) (HS _ hdr) (fun hHeld => ?_)
      simp only [List.take_succ_cons, List.take_zero]
      refine wpAnyH_take (i := 0) (v := ?vv0) rfl (by kernel_rfl) (by kernel_rfl) (by kernel_rfl) (fun _ _ _ h => h) (Or.inl ⟨by rfl, ?hy0⟩) hHeld ?rest0
      case hy0 =>
        intro w0 hSw
        (try dsimp only at hSw)
        go_simp
        try (with_reducible rfl)
      try simp only [Act.put, List.setIfInBounds_toArray, List.set_cons_zero, List.set_cons_succ]
      refine wpAnyH_take (i := 1) (v := ?vv1) rfl (by kernel_rfl) (by kernel_rfl) (by kernel_rfl) (fun _ _ _ h => h) (Or.inl ⟨by rfl, ?hy1⟩) hHeld ?rest1
      case hy1 =>
        intro w0 hSw
        (try dsimp only at hSw)
        go_simp
        try (with_reducible rfl)
      try simp only [Act.put, List.setIfInBounds_toArray, List.set_cons_zero, List.set_cons_succ]
      refine wpAnyH_take (i := 2) (v := ?vv2) rfl (by kernel_rfl) (by kernel_rfl) (by kernel_rfl) (fun _ _ _ h => h) (Or.inl ⟨by rfl, ?hy2⟩) hHeld ?rest2
      case hy2 =>
        intro w0 hSw
        (try dsimp only at hSw)
        go_simp
        try (with_reducible rfl)
      try simp only [Act.put, List.setIfInBounds_toArray, List.set_cons_zero, List.set_cons_succ]
      refine wpAnyH_take (i := 3) (v := ?vv3) rfl (by kernel_rfl) (by kernel_rfl) (by kernel_rfl) (fun _ _ _ h => h) (Or.inl ⟨by rfl, ?hy3⟩) hHeld ?rest3
      case hy3 =>
        intro w0 hSw
        (try dsimp only at hSw)
        go_simp
        try (with_reducible rfl)
      try simp only [Act.put, List.setIfInBounds_toArray, List.set_cons_zero, List.set_cons_succ]
      refine wpAnyH_take (i := 4) (v := ?vv4) rfl (by kernel_rfl) (by kernel_rfl) (by kernel_rfl) (fun _ _ _ h => h) (Or.inl ⟨by rfl, ?hy4⟩) hHeld ?rest4
      case hy4 =>
        intro w0 hSw
        (try dsimp only at hSw)
        go_simp
        try (with_reducible rfl)
      try simp only [Act.put, List.setIfInBounds_toArray, List.set_cons_zero, List.set_cons_succ]
      refine wpAnyH_take (i := 5) (v := ?vv5) rfl (by kernel_rfl) (by kernel_rfl) (by kernel_rfl) (fun _ _ _ h => h) (Or.inl ⟨by rfl, ?hy5⟩) hHeld ?rest5
      case hy5 =>
        intro w0 hSw
        (try dsimp only at hSw)
        go_simp
        try (with_reducible rfl)
      try simp only [Act.put, List.setIfInBounds_toArray, List.set_cons_zero, List.set_cons_succ]
      refine wpAnyH_take (i := 7) (v := ?vv7) rfl (by kernel_rfl) (by kernel_rfl) (by kernel_rfl) (fun _ _ _ h => h) (Or.inl ⟨by rfl, ?hy7⟩) hHeld ?rest7
      case hy7 =>
        intro w0 hSw
        (try dsimp only at hSw)
        go_simp
        try (with_reducible rfl)
      try simp only [Act.put, List.setIfInBounds_toArray, List.set_cons_zero, List.set_cons_succ]
      refine wpAnyH_ready (rs := [6]) (by kernel_rfl) (by simp) ?_
      refine AllReadyH.cons rfl (fun K hK => ?_) AllReadyH.nil
      go_simp
      with_reducible refine (hnj _).mono ?_
      rintro e W5 h4
      obtain ⟨k5, m5, s5, a5, l5, c5, rfl, hT5, hb5'⟩ := h4.form4
      have hb5 : Below wr.heap.size wr W5 := bel hdr hb5'
      go_wp2_with fail
      refine hK.out _ _ (HS _ hb5) (fun hHeld2 => ?_)
      clear hK K
      try simp only [Act.put, List.setIfInBounds_toArray, List.set_cons_zero, List.set_cons_succ]
      refine wpAnyH_ready (rs := [8]) (by kernel_rfl) (by simp) ?_
      refine AllReadyH.cons rfl (fun K hK => ?_) AllReadyH.nil
      go_simp
      have hb6 := bel_al hb5 (.cells #[.int .i64 k5, .int .i64 m5, .string s5, .slice a5 l5 c5, .int .i64 k1, .int .i64 m1, .string s1, .slice a1 l1 c1] 32)
      refine hK.out _ _ (HS _ hb6) (fun hHeld3 => ?_)
      clear hK K
      try simp only [Act.put, List.setIfInBounds_toArray, List.set_cons_zero, List.set_cons_succ]
      refine wpAnyH_ready (rs := [9]) (by kernel_rfl) (by simp) ?_
      refine AllReadyH.cons rfl (fun K hK => ?_) AllReadyH.nil
      go_simp
      have hmk := make_at (ByteArray.mk #[46]) _ _ _ (by decide) (two_new (hasNew hT5) (hTh.below hb5)) (by simp only [Tm.sizes_cons, Tm.sizes_nil, Tm.size_mk]; omega)
      with_reducible refine hmk.mono ?_
      rintro e W9 h4
      obtain ⟨k9, m9, s9, a9, l9, c9, rfl, hT9, hb9'⟩ := h4.form4
      have hb10 : Below wr.heap.size wr W9 := bel hb6 hb9'
      go_wp2_with fail
      refine hK.out _ _ (HS _ hb10) (fun hHeld6 => ?_)
      clear hK K
      try simp only [Act.put, List.setIfInBounds_toArray, List.set_cons_zero, List.set_cons_succ]
      refine wpAnyH_done (by kernel_rfl) ?_ _
      refine last_of_list rfl ?_
      have x9 := (hb10.block _ hsz).trans hbx
      obtain ⟨y0, y1, y2, y3⟩ := tbox_cells x9
      have f9 : ∀ o, W9.frozen? ⟨W2.heap.size, o, none⟩ = false := fun o => by simp [World.frozen?, x9]
      go_wp2_with fail
      refine NoPanic.normal ?_
      go_wp2_with fail
      obtain ⟨Z, hZ, zb, zo, zB, zs⟩ := set4 x9 (.int .i64 k9) (.int .i64 m9) (.string s9) (.slice a9 l9 c9) (hbr.trans (hb10.mono (by have := hbr.size; omega))) (Nat.le_refl _)
      go_roundg m
      case measure => omega
      case rel =>
        rw [← hZ]
        refine ⟨(m : Int) - 1, k9, m9, s9, a9, l9, c9, rfl, ⟨by omega, by omega⟩, zb, ?_, zB⟩
        rw [hdp]
        show TmIn _ Z _ (.mk 3 0 (strV [46]) [nM (c.toNat % 10), lsM (bs.drop (m + 1)) (lsU false)])
        rw [hjc]
        exact TmIn.carry (fun b hb => zo b (by have := hb.1; have := hb6.size; simp at *; omega)) (fun b hb => ⟨by rw [zs]; exact hb.2, by have := hb.1; have := hb6.size; simp at *; omega⟩) hT9
set_option maxRecDepth 100000 in
set_option maxHeartbeats 4000000 in
theorem lists_t (a : Option Addr) (cap : Nat) (bs : List UInt8) (w : World) (hm : bs.length ≤ cap) (hcap : cap ≤ maxLen) (hlen : bs.length ≤ 20) (hne : bs ≠ []) (hpos : 0 < (bs.length : Int)) (hU : U8At w a bs) (L : Laid w) (T : Tab w) (E : ErrT w) : Calls Tryz.prog 5 #[.slice a bs.length cap, .bool true] w (Gets w (.bool true)) := by
  have hsh := shown7_at w L T E
  have hat := fun W => atom_at (ByteArray.mk #[91, 93]) W (by decide)
  have hlt := fun W => let_at 0 W ⟨by decide, by decide⟩
  have hz := zeroTerm
  have hb9 : ¬ 20 < (bs.length : Int) := by omega
  have hgl : (bs.length : Int) - 1 ≤ 100 := by omega
  have hg0 : -1 ≤ (bs.length : Int) - 1 := by omega
  go_enter Tryz.func5, Tryz.ntmps5
  go_wp2_with (first | (go_at_call 8; refine hsh.mono ?_; rintro e W1 ⟨rfl, hb1⟩) | (go_at_call 15; refine (hat _).mono ?_; rintro e W2 h4; obtain ⟨k1, m1, s1, a1, l1, c1, rfl, hT1, hb2⟩ := h4.form4) | (go_at_call 16; refine (hlt _).mono ?_; rintro e W3 h4; obtain ⟨k3, m3, s3, a3, l3, c3, rfl, hT3, hb3'⟩ := h4.form4; have hb3 := bel (bel_al (Below.refl W2.heap.size W2) (.cells #[.int .i64 k1, .int .i64 m1, .string s1, .slice a1 l1 c1] 32)) hb3'; have x3 := (hb3'.block W2.heap.size (by simp)).trans (alloc_new W2 (.cells #[.int .i64 k1, .int .i64 m1, .string s1, .slice a1 l1 c1] 32)); obtain ⟨y0, y1, y2, y3⟩ := tbox_cells x3; have f3 : ∀ o, W3.frozen? ⟨W2.heap.size, o, none⟩ = false := fun o => by simp [World.frozen?, x3]))
  have hb2w := bel hb1 hb2
  obtain ⟨Z, hZ, hBox0, zo, hBB, zs⟩ := set4 x3 (.int .i64 k3) (.int .i64 m3) (.string s3) (.slice a3 l3 c3) (bel (Below.refl W2.heap.size W2) hb3) (Nat.le_refl _)
  rw [← hZ]
  have hTT : TmIn (fun b => b < Z.heap.size ∧ b ≠ W2.heap.size) Z (.agg #[.int .i64 k3, .int .i64 m3, .string s3, .slice a3 l3 c3]) (lsM [] (lsU true)) := TmIn.carry (fun b hb => zo b (by have := hb.1; simp at *; omega)) (fun b hb => ⟨by rw [zs]; exact hb.2, by have := hb.1; simp at *; omega⟩) hT3
  have hU2 := hU.below hb2w
  have hu1 : Fine (lsU true) 1 1 := lsU_fine true
  clear hT1 h4 hsh hat hlt hZ zo zs
  go_loopg [8] bs.length (fun g z wr => ∃ (i : Int) (k1 m1 : Int) (s1 : ByteArray) (a1 : Option Addr) (l1 c1 : Nat), z = .int .i64 i ∧ (i + 1 = (g : Int) ∧ g ≤ bs.length) ∧ wr.heap[W2.heap.size]? = some (.cells #[.int .i64 k1, .int .i64 m1, .string s1, .slice a1 l1 c1] 32 (0, 0)) ∧ TmIn (fun b => b < wr.heap.size ∧ b ≠ W2.heap.size) wr (.agg #[.int .i64 k1, .int .i64 m1, .string s1, .slice a1 l1 c1]) (lsM (bs.drop g) (lsU true)) ∧ Below W2.heap.size W2 wr)
  case atStart => exact ⟨_, _, _, _, _, _, _, rfl, ⟨by omega, Nat.le_refl _⟩, hBox0, by rw [List.drop_length]; exact hTT, hBB⟩
  case round =>
    clear hTT hBox0
    obtain ⟨i, k1, m1, s1, a1, l1, c1, rfl, ⟨hi, hgl9⟩, hbx, hTm, hbr⟩ := hrel
    cases gk with
    | zero =>
      obtain rfl : i = -1 := by omega
      rw [List.drop_zero] at hTm
      obtain ⟨Wo, rfl⟩ : ∃ Wo, Wo = wr := ⟨_, rfl⟩
      have hbx1 := Lib.hid hbx
      have hTm1 := Lib.hid hTm
      have hsz : W2.heap.size < Wo.heap.size := (Array.getElem?_eq_some_iff.1 hbx).1
      have hUr := hU2.below hbr
      clear hbx hTm
      go_wp2_with fail
      go_loopg [6, 9] bs.length (fun g x z wk => ∃ (k : Nat) (S : ByteArray), x = .string S ∧ z = .int .i64 k ∧ g + k = bs.length ∧ S.data.toList = 91 :: lT (bs.take k) ∧ Below Wo.heap.size Wo wk)
      case atStart => exact ⟨0, _, rfl, rfl, by omega, rfl, Below.refl _ _⟩
      case round =>
        obtain ⟨k, S, rfl, rfl, hgk, hS, hbk⟩ := hrel
        cases gk with
        | zero =>
          have hkk : ¬ ((k : Int) < (bs.length : Int)) := by omega
          have hke : k = bs.length := by omega
          have htk : bs.take k = bs := by rw [hke, List.take_length]
          rw [htk] at hS
          have hlS := lT_len bs
          have hS9 : S.size ≤ 200 := by
            have h1 := len_of (s := S) rfl
            rw [hS, List.length_cons] at h1
            omega
          have hAg := lists_all (v := true) hlen (fun _ => hne)
          have hbw := bel hb2w (bel hbr hbk)
          have hA := all_at (S ++ ByteArray.mk #[124, 84] ++ ByteArray.mk #[93, 46]) ((91 :: lT bs) ++ tlT true) (by rw [rd_app, rd_app, hS]; simp [tlT]) wr (L.later hbw) (T.later hbw) (E.later hbw) (by rw [ByteArray.size_append, ByteArray.size_append]; have : (ByteArray.mk #[93, 46]).size = 2 := rfl; have : (ByteArray.mk #[124, 84]).size = 2 := rfl; omega) 1
          rw [hAg] at hA
          unfold AllPost at hA
          have hbx := hbx1.out
          have hTm := hTm1.out
          clear hAg htk hS
          go_wp2_with (first | (go_at_call 9; refine hA.mono ?_; rintro e W4 ⟨qa, qcap, rfl, hb4', hts⟩))
          have hb4 := bel hbk hb4'
          have x4 := (hb4.block _ hsz).trans hbx
          have hT4 : Has W4 (.agg #[.int .i64 k1, .int .i64 m1, .string s1, .slice a1 l1 c1]) (lsM bs (lsU true)) := TmIn.carry (fun b hb => hb4.block b hb.1) (fun b hb => Nat.lt_of_lt_of_le hb.1 hb4.size) hTm
          obtain ⟨lb, lo, lcap, x0, y0, z0, u0, lu0, cu0, hv, hlb, p0, p1, p2, p3, hL0⟩ := one_has hts
          injection hv with hv1 hv2 hv3
          subst hv1 hv3
          have hl4 : W2.heap.size < W4.heap.size := (Array.getElem?_eq_some_iff.1 x4).1
          obtain ⟨I, inst, F, m0, hF0, hFb, hFc⟩ := op_later_family W4
          have hFx := fun i => ((hFb i).block W2.heap.size hl4).trans x4
          have t0 := fun i => (tbox_cells (hFx i)).1
          have t1 := fun i => (tbox_cells (hFx i)).2.1
          have t2 := fun i => (tbox_cells (hFx i)).2.2.1
          have t3 := fun i => (tbox_cells (hFx i)).2.2.2
          have cb := fun i (q : Nat) (u : Value) (hq : W4.cell? ⟨lb, q, none⟩ = some u) => (World.cell?_of_block (a := ⟨lb, q, none⟩) ((hFb i).block lb hlb)).trans hq
          have w0 := fun j => cb j _ _ p0
          have w1 := fun j => cb j _ _ p1
          have w2 := fun j => cb j _ _ p2
          have w3 := fun j => cb j _ _ p3
          have hzz : (lsM bs (lsU true)).size ≤ 1000000000000 := by have := lsM_size _ hu1 bs; omega
          have hSm : Hid (∀ j, Calls Tryz.prog 14 #[.agg #[.int .i64 x0, .int .i64 y0, .string z0, .slice u0 lu0 cu0], .agg #[.int .i64 k1, .int .i64 m1, .string s1, .slice a1 l1 c1]] (F j) fun e w'' => e = .returned (.bool true) ∧ ∃ m, w'' = F m) :=
            Lib.hid (fun j => (same_at (lsM bs (lsU true)) (lsM bs (lsU true)) _ _ (F j) (Has.below hL0 (hFb j)) (Has.below hT4 (hFb j)) hzz hzz).mono fun e w' hg => ⟨by rw [hg.1]; simp, hFc j _ hg.2⟩)
          have HB := Lib.hid (And.intro (bel hbw hb4') hFb)
          clear hFx hFb hFc cb p0 p1 p2 p3 hL0 hT4 hTm hts hA x4 hbx
          refine op_region_fam F m0 hF0 (by kernel_rfl) (by kernel_rfl) ?_
          clear hF0
          repeat (go_big_quiet_step (first | (go_at_call 14; (with_reducible exact hSm.out _))))
          refine wpQuiet_nil ?_
          intro _ hw'
          obtain ⟨nq, hw''⟩ := hw'
          subst hw''
          go_wp2_with fail
          go_ret
          exact ⟨rfl, bel HB.out.1 (HB.out.2 nq)⟩
        | succ m =>
          have hk : k < bs.length := by omega
          have hkk : ((k : Int) < (bs.length : Int)) := by omega
          obtain ⟨c, hc⟩ : ∃ c, bs[k]? = some c := ⟨_, List.getElem?_eq_getElem hk⟩
          obtain ⟨ad, rfl, had, hcell⟩ := (hUr.below hbk) k c hc
          obtain ⟨j, hj, hj'⟩ : ∃ j : Nat, j < 10 ∧ (c.toNat : Int) % 10 = j := ⟨c.toNat % 10, by omega, by omega⟩
          have hj9 : (j : Int) < 10 := by omega
          have hj8 : (0 : Int) ≤ (j : Int) := by omega
          have hc9 : (c.toNat : Int) ≤ 255 := by have := c.toNat_lt; omega
          have hS9 : S.size ≤ 200 := by
            have h1 := len_of (s := S) rfl
            have h2 := lT_len (bs.take k)
            rw [hS, List.length_cons] at h1
            rw [List.length_take] at h2
            omega
          obtain ⟨g, hg⟩ : ∃ g : UInt8, g = UInt8.ofNat (48 + j) := ⟨_, rfl⟩
          have hgn : (g.toNat : Int) = 48 + j := by rw [hg]; simp [UInt8.toNat_ofNat]; omega
          have hgd : g = dgt c := by rw [hg, dgt]; congr 2; omega
          have cg : ∀ W : World, (convert 30 9 (.slice (some ⟨W.heap.size, 0, none⟩) 1 1)).run Tryz.prog (W.alloc (.cells #[.int .u8 (48 + (j : Int))] 5)) = .ok (.string (strV [g])) (W.alloc (.cells #[.int .u8 (48 + (j : Int))] 5)) := fun W => one_text7 (by rw [hgn]; have := alloc_new W (.cells #[.int .u8 (48 + (j : Int))] 5); simp only [World.cell?, this]; rfl)
          have HG := Lib.hid (And.intro hgd hgn)
          have zg : (strV [g]).size = 1 := rfl
          have hS8 := Lib.hid hS
          have htk : bs.take (k + 1) = bs.take k ++ [c] := by rw [List.take_add_one, hc]; rfl
          clear hg hgn hgd hS
          by_cases hk0 : k = 0
          · have hk1 : decide ((0 : Int) < (k : Int)) = false := by rw [decide_eq_false_iff_not]; omega
            have HK := Lib.hid hk0
            clear hk0 hk1
            go_wp2_with fail
            · exfalso
              have := HK.out
              omega
            · go_roundg m
              case measure => omega
              case rel =>
                refine ⟨k + 1, _, rfl, by simp, by omega, ?_, bel_al hbk _⟩
                rw [htk, rd_app, hS8.out, HG.out.1, strV_list, HK.out]
                rfl
          · have hk1 : (0 : Int) < (k : Int) := by omega
            have hnt : bs.take k ≠ [] := by
              intro e
              have := congrArg List.length e
              rw [List.length_take, List.length_nil] at this
              omega
            go_wp2_with fail
            go_roundg m
            case measure => omega
            case rel =>
              refine ⟨k + 1, _, rfl, by simp, by omega, ?_, bel_al hbk _⟩
              rw [htk, lT_snoc hnt, rd_app, rd_app, hS8.out, HG.out.1, strV_list]
              simp [lsT]

    | succ m =>
      obtain rfl : i = (m : Int) := by omega
      clear hi
      have hk : m < bs.length := by omega
      obtain ⟨c, hc⟩ : ∃ c, bs[m]? = some c := ⟨_, List.getElem?_eq_getElem hk⟩
      obtain ⟨ad, rfl, had, hcell⟩ := (hU2.below hbr) m c hc
      obtain ⟨j, hj, hj'⟩ : ∃ j : Nat, j < 10 ∧ (c.toNat : Int) % 10 = j := ⟨c.toNat % 10, by omega, by omega⟩
      have hjc : c.toNat % 10 = j := by omega
      have hj9 : (j : Int) < 10 := by omega
      have hj8 : (0 : Int) ≤ (j : Int) := by omega
      have hjm : (c.toNat : Int).tmod 10 = j := by rw [Int.tmod_eq_emod_of_nonneg (by omega)]; exact hj'
      have hjw : IntKind.i64.wrap (j : Int) = j := by rw [IntKind.wrap_i64]; omega
      have hc9 : (c.toNat : Int) ≤ 255 := by have := c.toNat_lt; omega
      have hm9 : (m : Int) < (bs.length : Int) := by omega
      have hm8 : (0 : Int) ≤ (m : Int) := by omega
      have hm7 : (bs.length : Int) ≤ 9223372036854775807 := by omega
      have hnj := fun W => num_at j W ⟨by omega, by omega⟩
      have hdp : bs.drop m = c :: bs.drop (m + 1) := by rw [List.drop_eq_getElem_cons hk]; rw [List.getElem?_eq_getElem hk] at hc; rw [Option.some.inj hc]
      have hzT := lsM_size _ hu1 (bs.drop (m + 1))
      rw [List.length_drop] at hzT
      have hsz : W2.heap.size < wr.heap.size := (Array.getElem?_eq_some_iff.1 hbx).1
      obtain ⟨t0, t1, t2, t3⟩ := tbox_cells hbx
      have cellB : ∀ w' (b o : Nat) (v : Value), Below wr.heap.size wr w' → b < wr.heap.size → wr.cell? ⟨b, o, none⟩ = some v → w'.cell? ⟨b, o, none⟩ = some v := fun w' b o v h hb hc => (h.cell (p := ⟨b, o, none⟩) hb).trans hc
      have HS : ∀ w', Below wr.heap.size wr w' → (w'.cell? (ad.add m) = some (.int .u8 (c.toNat : Int)) ∧ w'.cell? ⟨W2.heap.size, 0, none⟩ = some (.int .i64 k1) ∧ w'.cell? ⟨W2.heap.size, 1, none⟩ = some (.int .i64 m1) ∧ w'.cell? ⟨W2.heap.size, 2, none⟩ = some (.string s1) ∧ w'.cell? ⟨W2.heap.size, 3, none⟩ = some (.slice a1 l1 c1) ∧ Below wr.heap.size wr w') := fun w' h =>
        ⟨(h.cell (p := ad.add m) (by rw [adk]; exact had)).trans hcell, cellB _ _ _ _ h hsz t0, cellB _ _ _ _ h hsz t1, cellB _ _ _ _ h hsz t2, cellB _ _ _ _ h hsz t3, h⟩
      have hTh : Has wr (.agg #[.int .i64 k1, .int .i64 m1, .string s1, .slice a1 l1 c1]) (lsM (bs.drop (m + 1)) (lsU true)) := hTm.carry (fun _ _ => rfl) (fun b hb => hb.1)
      have hdr : Below wr.heap.size wr wr.drew := (Below.refl wr.heap.size wr).drew
      clear t0 t1 t2 t3 cellB hcell
      go_wp2_with fail
      refine wp_region_noPanic ?_
      refine wp_region_last (S := (fun w' => w'.cell? (ad.add m) = some (.int .u8 (c.toNat : Int)) ∧ w'.cell? ⟨W2.heap.size, 0, none⟩ = some (.int .i64 k1) ∧ w'.cell? ⟨W2.heap.size, 1, none⟩ = some (.int .i64 m1) ∧ w'.cell? ⟨W2.heap.size, 2, none⟩ = some (.string s1) ∧ w'.cell? ⟨W2.heap.size, 3, none⟩ = some (.slice a1 l1 c1) ∧ Below wr.heap.size wr w')) 10 (by kernel_rfl) (by kernel_rfl) (HS _ hdr) (fun hHeld => ?_)
      simp only [List.take_succ_cons, List.take_zero]
      refine wpAnyH_take (i := 0) (v := ?vv0) rfl (by kernel_rfl) (by kernel_rfl) (by kernel_rfl) (fun _ _ _ h => h) (Or.inl ⟨by rfl, ?hy0⟩) hHeld ?rest0
      case hy0 =>
        intro w0 hSw
        (try dsimp only at hSw)
        go_simp
        try (with_reducible rfl)
      try simp only [Act.put, List.setIfInBounds_toArray, List.set_cons_zero, List.set_cons_succ]
      refine wpAnyH_take (i := 1) (v := ?vv1) rfl (by kernel_rfl) (by kernel_rfl) (by kernel_rfl) (fun _ _ _ h => h) (Or.inl ⟨by rfl, ?hy1⟩) hHeld ?rest1
      case hy1 =>
        intro w0 hSw
        (try dsimp only at hSw)
        go_simp
        try (with_reducible rfl)
      try simp only [Act.put, List.setIfInBounds_toArray, List.set_cons_zero, List.set_cons_succ]
      refine wpAnyH_take (i := 2) (v := ?vv2) rfl (by kernel_rfl) (by kernel_rfl) (by kernel_rfl) (fun _ _ _ h => h) (Or.inl ⟨by rfl, ?hy2⟩) hHeld ?rest2
      case hy2 =>
        intro w0 hSw
        (try dsimp only at hSw)
        go_simp
        try (with_reducible rfl)
      try simp only [Act.put, List.setIfInBounds_toArray, List.set_cons_zero, List.set_cons_succ]
      refine wpAnyH_take (i := 3) (v := ?vv3) rfl (by kernel_rfl) (by kernel_rfl) (by kernel_rfl) (fun _ _ _ h => h) (Or.inl ⟨by rfl, ?hy3⟩) hHeld ?rest3
      case hy3 =>
        intro w0 hSw
        (try dsimp only at hSw)
        go_simp
        try (with_reducible rfl)
      try simp only [Act.put, List.setIfInBounds_toArray, List.set_cons_zero, List.set_cons_succ]
      refine wpAnyH_take (i := 4) (v := ?vv4) rfl (by kernel_rfl) (by kernel_rfl) (by kernel_rfl) (fun _ _ _ h => h) (Or.inl ⟨by rfl, ?hy4⟩) hHeld ?rest4
      case hy4 =>
        intro w0 hSw
        (try dsimp only at hSw)
        go_simp
        try (with_reducible rfl)
      try simp only [Act.put, List.setIfInBounds_toArray, List.set_cons_zero, List.set_cons_succ]
      refine wpAnyH_take (i := 5) (v := ?vv5) rfl (by kernel_rfl) (by kernel_rfl) (by kernel_rfl) (fun _ _ _ h => h) (Or.inl ⟨by rfl, ?hy5⟩) hHeld ?rest5
      case hy5 =>
        intro w0 hSw
        (try dsimp only at hSw)
        go_simp
        try (with_reducible rfl)
      try simp only [Act.put, List.setIfInBounds_toArray, List.set_cons_zero, List.set_cons_succ]
      refine wpAnyH_take (i := 7) (v := ?vv7) rfl (by kernel_rfl) (by kernel_rfl) (by kernel_rfl) (fun _ _ _ h => h) (Or.inl ⟨by rfl, ?hy7⟩) hHeld ?rest7
      case hy7 =>
        intro w0 hSw
        (try dsimp only at hSw)
        go_simp
        try (with_reducible rfl)
      try simp only [Act.put, List.setIfInBounds_toArray, List.set_cons_zero, List.set_cons_succ]
      refine wpAnyH_ready (rs := [6]) (by kernel_rfl) (by simp) ?_
      refine AllReadyH.cons rfl (fun K hK => ?_) AllReadyH.nil
      go_simp
      with_reducible refine (hnj _).mono ?_
      rintro e W5 h4
      obtain ⟨k5, m5, s5, a5, l5, c5, rfl, hT5, hb5'⟩ := h4.form4
      have hb5 : Below wr.heap.size wr W5 := bel hdr hb5'
      go_wp2_with fail
      refine hK.out _ _ (HS _ hb5) (fun hHeld2 => ?_)
      clear hK K
      try simp only [Act.put, List.setIfInBounds_toArray, List.set_cons_zero, List.set_cons_succ]
      refine wpAnyH_ready (rs := [8]) (by kernel_rfl) (by simp) ?_
      refine AllReadyH.cons rfl (fun K hK => ?_) AllReadyH.nil
      go_simp
      have hb6 := bel_al hb5 (.cells #[.int .i64 k5, .int .i64 m5, .string s5, .slice a5 l5 c5, .int .i64 k1, .int .i64 m1, .string s1, .slice a1 l1 c1] 32)
      refine hK.out _ _ (HS _ hb6) (fun hHeld3 => ?_)
      clear hK K
      try simp only [Act.put, List.setIfInBounds_toArray, List.set_cons_zero, List.set_cons_succ]
      refine wpAnyH_ready (rs := [9]) (by kernel_rfl) (by simp) ?_
      refine AllReadyH.cons rfl (fun K hK => ?_) AllReadyH.nil
      go_simp
      have hmk := make_at (ByteArray.mk #[46]) _ _ _ (by decide) (two_new (hasNew hT5) (hTh.below hb5)) (by simp only [Tm.sizes_cons, Tm.sizes_nil, Tm.size_mk]; omega)
      with_reducible refine hmk.mono ?_
      rintro e W9 h4
      obtain ⟨k9, m9, s9, a9, l9, c9, rfl, hT9, hb9'⟩ := h4.form4
      have hb10 : Below wr.heap.size wr W9 := bel hb6 hb9'
      go_wp2_with fail
      refine hK.out _ _ (HS _ hb10) (fun hHeld6 => ?_)
      clear hK K
      try simp only [Act.put, List.setIfInBounds_toArray, List.set_cons_zero, List.set_cons_succ]
      refine wpAnyH_done (by kernel_rfl) ?_ _
      refine last_of_list rfl ?_
      have x9 := (hb10.block _ hsz).trans hbx
      obtain ⟨y0, y1, y2, y3⟩ := tbox_cells x9
      have f9 : ∀ o, W9.frozen? ⟨W2.heap.size, o, none⟩ = false := fun o => by simp [World.frozen?, x9]
      go_wp2_with fail
      refine NoPanic.normal ?_
      go_wp2_with fail
      obtain ⟨Z, hZ, zb, zo, zB, zs⟩ := set4 x9 (.int .i64 k9) (.int .i64 m9) (.string s9) (.slice a9 l9 c9) (hbr.trans (hb10.mono (by have := hbr.size; omega))) (Nat.le_refl _)
      go_roundg m
      case measure => omega
      case rel =>
        rw [← hZ]
        refine ⟨(m : Int) - 1, k9, m9, s9, a9, l9, c9, rfl, ⟨by omega, by omega⟩, zb, ?_, zB⟩
        rw [hdp]
        show TmIn _ Z _ (.mk 3 0 (strV [46]) [nM (c.toNat % 10), lsM (bs.drop (m + 1)) (lsU true)])
        rw [hjc]
        exact TmIn.carry (fun b hb => zo b (by have := hb.1; have := hb6.size; simp at *; omega)) (fun b hb => ⟨by rw [zs]; exact hb.2, by have := hb.1; have := hb6.size; simp at *; omega⟩) hT9
set_option maxRecDepth 100000 in
set_option maxHeartbeats 4000000 in
theorem lists_e (a : Option Addr) (cap : Nat) (bs : List UInt8) (w : World) (hm : bs.length ≤ cap) (hcap : cap ≤ maxLen) (hlen : bs.length ≤ 20) (hne : bs = []) (hpos : (bs.length : Int) = 0) (hU : U8At w a bs) (L : Laid w) (T : Tab w) (E : ErrT w) : Calls Tryz.prog 5 #[.slice a bs.length cap, .bool true] w (Gets w (.bool true)) := by
  have hsh := shown7_at w L T E
  have hat := fun W => atom_at (ByteArray.mk #[91, 93]) W (by decide)
  have hlt := fun W => let_at 0 W ⟨by decide, by decide⟩
  have hz := zeroTerm
  have hb9 : ¬ 20 < (bs.length : Int) := by omega
  have hgl : (bs.length : Int) - 1 ≤ 100 := by omega
  have hg0 : -1 ≤ (bs.length : Int) - 1 := by omega
  go_enter Tryz.func5, Tryz.ntmps5
  go_wp2_with (first | (go_at_call 8; refine hsh.mono ?_; rintro e W1 ⟨rfl, hb1⟩) | (go_at_call 15; refine (hat _).mono ?_; rintro e W2 h4; obtain ⟨k1, m1, s1, a1, l1, c1, rfl, hT1, hb2⟩ := h4.form4))
  have hb2w := bel hb1 hb2
  have hBox0 := alloc_new W2 (.cells #[.int .i64 k1, .int .i64 m1, .string s1, .slice a1 l1 c1] 32)
  have hTT : TmIn (fun b => b < (W2.alloc (.cells #[.int .i64 k1, .int .i64 m1, .string s1, .slice a1 l1 c1] 32)).heap.size ∧ b ≠ W2.heap.size) (W2.alloc (.cells #[.int .i64 k1, .int .i64 m1, .string s1, .slice a1 l1 c1] 32)) (.agg #[.int .i64 k1, .int .i64 m1, .string s1, .slice a1 l1 c1]) (lsM [] (lsU false)) := TmIn.carry (fun b hb => Below.block (bel_al (Below.refl W2.heap.size W2) _) b hb.2) (fun b hb => ⟨by have := hb.2; simp; omega, by omega⟩) hT1
  have hBB : Below W2.heap.size W2 (W2.alloc (.cells #[.int .i64 k1, .int .i64 m1, .string s1, .slice a1 l1 c1] 32)) := bel_al (Below.refl _ _) _
  have hU2 := hU.below hb2w
  have hu1 : Fine (lsU false) 1 1 := lsU_fine false
  clear hT1 h4 hsh hat hlt
  go_loopg [8] bs.length (fun g z wr => ∃ (i : Int) (k1 m1 : Int) (s1 : ByteArray) (a1 : Option Addr) (l1 c1 : Nat), z = .int .i64 i ∧ (i + 1 = (g : Int) ∧ g ≤ bs.length) ∧ wr.heap[W2.heap.size]? = some (.cells #[.int .i64 k1, .int .i64 m1, .string s1, .slice a1 l1 c1] 32 (0, 0)) ∧ TmIn (fun b => b < wr.heap.size ∧ b ≠ W2.heap.size) wr (.agg #[.int .i64 k1, .int .i64 m1, .string s1, .slice a1 l1 c1]) (lsM (bs.drop g) (lsU false)) ∧ Below W2.heap.size W2 wr)
  case atStart => exact ⟨_, _, _, _, _, _, _, rfl, ⟨by omega, Nat.le_refl _⟩, hBox0, by rw [List.drop_length]; exact hTT, hBB⟩
  case round =>
    clear hTT hBox0
    obtain ⟨i, k1, m1, s1, a1, l1, c1, rfl, ⟨hi, hgl9⟩, hbx, hTm, hbr⟩ := hrel
    cases gk with
    | zero =>
      obtain rfl : i = -1 := by omega
      rw [List.drop_zero] at hTm
      obtain ⟨Wo, rfl⟩ : ∃ Wo, Wo = wr := ⟨_, rfl⟩
      have hbx1 := Lib.hid hbx
      have hTm1 := Lib.hid hTm
      have hsz : W2.heap.size < Wo.heap.size := (Array.getElem?_eq_some_iff.1 hbx).1
      have hUr := hU2.below hbr
      clear hbx hTm
      go_wp2_with fail
      go_loopg [6, 9] bs.length (fun g x z wk => ∃ (k : Nat) (S : ByteArray), x = .string S ∧ z = .int .i64 k ∧ g + k = bs.length ∧ S.data.toList = 91 :: lT (bs.take k) ∧ Below Wo.heap.size Wo wk)
      case atStart => exact ⟨0, _, rfl, rfl, by omega, rfl, Below.refl _ _⟩
      case round =>
        obtain ⟨k, S, rfl, rfl, hgk, hS, hbk⟩ := hrel
        cases gk with
        | zero =>
          have hkk : ¬ ((k : Int) < (bs.length : Int)) := by omega
          have hke : k = bs.length := by omega
          have htk : bs.take k = bs := by rw [hke, List.take_length]
          rw [htk] at hS
          have hlS := lT_len bs
          have hS9 : S.size ≤ 200 := by
            have h1 := len_of (s := S) rfl
            rw [hS, List.length_cons] at h1
            omega
          have hAg := lists_all (v := false) hlen (fun h => by cases h)
          have hbw := bel hb2w (bel hbr hbk)
          have hA := all_at (S ++ ByteArray.mk #[93, 46]) ((91 :: lT bs) ++ tlT false) (by rw [rd_app, hS]; rfl) wr (L.later hbw) (T.later hbw) (E.later hbw) (by rw [ByteArray.size_append]; have : (ByteArray.mk #[93, 46]).size = 2 := rfl; omega) 1
          rw [hAg] at hA
          unfold AllPost at hA
          have hbx := hbx1.out
          have hTm := hTm1.out
          clear hAg htk hS
          go_wp2_with (first | (go_at_call 9; refine hA.mono ?_; rintro e W4 ⟨qa, qcap, rfl, hb4', hts⟩))
          have hb4 := bel hbk hb4'
          have x4 := (hb4.block _ hsz).trans hbx
          have hT4 : Has W4 (.agg #[.int .i64 k1, .int .i64 m1, .string s1, .slice a1 l1 c1]) (lsM bs (lsU false)) := TmIn.carry (fun b hb => hb4.block b hb.1) (fun b hb => Nat.lt_of_lt_of_le hb.1 hb4.size) hTm
          obtain ⟨lb, lo, lcap, x0, y0, z0, u0, lu0, cu0, hv, hlb, p0, p1, p2, p3, hL0⟩ := one_has hts
          injection hv with hv1 hv2 hv3
          subst hv1 hv3
          have hl4 : W2.heap.size < W4.heap.size := (Array.getElem?_eq_some_iff.1 x4).1
          obtain ⟨I, inst, F, m0, hF0, hFb, hFc⟩ := op_later_family W4
          have hFx := fun i => ((hFb i).block W2.heap.size hl4).trans x4
          have t0 := fun i => (tbox_cells (hFx i)).1
          have t1 := fun i => (tbox_cells (hFx i)).2.1
          have t2 := fun i => (tbox_cells (hFx i)).2.2.1
          have t3 := fun i => (tbox_cells (hFx i)).2.2.2
          have cb := fun i (q : Nat) (u : Value) (hq : W4.cell? ⟨lb, q, none⟩ = some u) => (World.cell?_of_block (a := ⟨lb, q, none⟩) ((hFb i).block lb hlb)).trans hq
          have w0 := fun j => cb j _ _ p0
          have w1 := fun j => cb j _ _ p1
          have w2 := fun j => cb j _ _ p2
          have w3 := fun j => cb j _ _ p3
          have hzz : (lsM bs (lsU false)).size ≤ 1000000000000 := by have := lsM_size _ hu1 bs; omega
          have hSm : Hid (∀ j, Calls Tryz.prog 14 #[.agg #[.int .i64 x0, .int .i64 y0, .string z0, .slice u0 lu0 cu0], .agg #[.int .i64 k1, .int .i64 m1, .string s1, .slice a1 l1 c1]] (F j) fun e w'' => e = .returned (.bool true) ∧ ∃ m, w'' = F m) :=
            Lib.hid (fun j => (same_at (lsM bs (lsU false)) (lsM bs (lsU false)) _ _ (F j) (Has.below hL0 (hFb j)) (Has.below hT4 (hFb j)) hzz hzz).mono fun e w' hg => ⟨by rw [hg.1]; simp, hFc j _ hg.2⟩)
          have HB := Lib.hid (And.intro (bel hbw hb4') hFb)
          clear hFx hFb hFc cb p0 p1 p2 p3 hL0 hT4 hTm hts hA x4 hbx
          refine op_region_fam F m0 hF0 (by kernel_rfl) (by kernel_rfl) ?_
          clear hF0
          repeat (go_big_quiet_step (first | (go_at_call 14; (with_reducible exact hSm.out _))))
          refine wpQuiet_nil ?_
          intro _ hw'
          obtain ⟨nq, hw''⟩ := hw'
          subst hw''
          go_wp2_with fail
          go_ret
          exact ⟨rfl, bel HB.out.1 (HB.out.2 nq)⟩
        | succ m =>
          exfalso
          rw [hne] at hgk
          simp at hgk
    | succ m =>
      exfalso
      rw [hne] at hgl9
      simp at hgl9
set_option maxRecDepth 100000 in
set_option maxHeartbeats 4000000 in
theorem lists_big (a : Option Addr) (cap : Nat) (bs : List UInt8) (v : Bool) (w : World) (hm : bs.length ≤ cap) (hcap : cap ≤ maxLen) (hlen : 20 < (bs.length : Int)) (L : Laid w) (T : Tab w) (E : ErrT w) : Calls Tryz.prog 5 #[.slice a bs.length cap, .bool v] w (Gets w (.bool true)) := by
  have hsh := shown7_at w L T E
  have hml : (bs.length : Int) ≤ 9223372036854775807 := by unfold maxLen at hcap; omega
  go_enter Tryz.func5, Tryz.ntmps5
  go_wp2_with (first | (go_at_call 8; refine hsh.mono ?_; rintro e W1 ⟨rfl, hb1⟩))
  go_ret
  exact ⟨rfl, hb1⟩
theorem rlists_at (a : Option Addr) (cap : Nat) (bs : List UInt8) (v : Bool) (w : World) (hm : bs.length ≤ cap) (hcap : cap ≤ maxLen) (hU : U8At w a bs) (L : Laid w) (T : Tab w) (E : ErrT w) : Calls Tryz.prog 5 #[.slice a bs.length cap, .bool v] w (Gets w (.bool true)) := by
  by_cases hbig : 20 < bs.length
  · exact lists_big a cap bs v w hm hcap (by omega) L T E
  · cases v with
    | false => exact lists_f a cap bs w hm hcap (by omega) hU L T E
    | true =>
      by_cases hne : bs = []
      · exact lists_e a cap bs w hm hcap (by omega) hne (by rw [hne]; rfl) hU L T E
      · have := List.length_pos_iff.2 hne
        exact lists_t a cap bs w hm hcap (by omega) hne (by omega) hU L T E
end Go.Proofs.YtgodbmmhkmockaaGreatDoor
