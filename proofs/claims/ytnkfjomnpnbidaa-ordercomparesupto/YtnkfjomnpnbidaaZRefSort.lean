/-
  The reference's Sort.
-/
import Derived.Test.YtnkfjomnpnbidaaZRefCompn2
import Derived.Deep.RegionHeld3
namespace Go.Proofs.Ytnkfjomnpnbidaa
open Go.RowKit Go.Shelf
open Classical
set_option linter.unusedVariables false
set_option linter.unusedSimpArgs false

theorem OwnQ.empty (w : World) (base : Nat) (hb : base ≤ w.heap.size) : OwnQ (w.alloc (.cells #[] 24)) base (.slice (some ⟨w.heap.size, 0, none⟩) 0 0) [] :=
  ⟨[], ⟨rfl, Or.inr ⟨w.heap.size, 0, #[], rfl, hb, Go.Deep.blk_alloc_new _ _, Nat.le_refl _, Nat.zero_le _, rfl, rfl⟩⟩, ⟨rfl, fun i q t h => by simp at h⟩⟩
/-- What a sorted list is where it is being made. -/
structure SrtAt (w : World) (v : Value) (us : List Tm) : Prop where
  ts : HasTs w v us
  nil : us = [] → v = .slice none 0 0
theorem insT_ne (us : List Tm) (t : Tm) : insT us t ≠ [] := by
  cases us with
  | nil => simp [insT]
  | cons u us => rw [insT]; split <;> (try split) <;> simp
set_option maxRecDepth 100000 in
set_option maxHeartbeats 16000000 in
theorem rsort_at (v : Value) (ks : List Tm) (w : World) (hv : HasTs w v ks) (hn : ks.length ≤ 1000) (hs : ∀ t ∈ ks, t.size ≤ 1000000000) : Calls Try.prog 16 #[v] w fun e w' => ∃ r, e = .returned r ∧ HasTs w' r (sortT ks) ∧ Below w.heap.size w w' := by
  obtain ⟨a, cap, rfl, hc, hmx, hx⟩ := ts_at hv
  have HSZ := Lib.hid hs
  clear hv hs
  go_enter Try.func16, Try.ntmps16
  go_wp2_with fail
  go_loopw [3, 4] (fun v i wr => ∃ c : Nat, i = .int .i64 c ∧ c ≤ ks.length ∧ Hid (SrtAt wr v (sortT (ks.take c))) ∧ Below w.heap.size w wr) (fun _ i _ => ks.length - (intOf i).toNat)
  case atStart => exact ⟨0, rfl, Nat.zero_le _, ⟨noTs _ _, fun _ => rfl⟩, Below.refl _ _⟩
  case round =>
    obtain ⟨c, rfl, hcl, hout, hB⟩ := hrel
    rename World => ws0
    by_cases hlt : c < ks.length
    case neg =>
      have hce : c = ks.length := by omega
      subst hce
      rw [List.take_length] at hout
      obtain ⟨ua, ucap, rfl, -, -, -⟩ := ts_at hout.out.ts
      go_wp2_with fail
      go_ret
      exact ⟨_, rfl, hout.out.ts, hB⟩
    obtain ⟨b, o, k1, n1, s1, a1, l1, c1, rfl, hbn, e0, e1, e2, e3, htm⟩ := hx c hlt
    obtain ⟨t, ht⟩ : ∃ t, ks[c] = t := ⟨_, rfl⟩
    have hget : ks[c]? = some t := by rw [List.getElem?_eq_getElem hlt, ht]
    rw [ht] at htm
    have hts : t.size ≤ 1000000000 := HSZ.out t (by rw [← ht]; exact List.getElem_mem _)
    have hnext := sortT_take hget
    have husz : ∀ x ∈ sortT (ks.take c), x.size ≤ 1000000000 := fun x hx => HSZ.out x (List.mem_of_mem_take (sortT_in hx))
    have hul : (sortT (ks.take c)).length ≤ 1000 := by have := sortT_len (ks.take c); rw [List.length_take] at this; omega
    obtain ⟨us, hus⟩ : ∃ us, sortT (ks.take c) = us := ⟨_, rfl⟩
    rw [hus] at hout hnext husz hul
    have HN := Lib.hid (And.intro hnext (And.intro husz hts))
    have HT := Lib.hid (Has.below htm hB)
    have HB := Lib.hid hB
    have HC : Hid (∀ w', Below ws0.heap.size ws0 w' → w'.cell? ⟨b, o + c * 4, none⟩ = some (.int .i64 k1) ∧ w'.cell? ⟨b, o + c * 4 + 1, none⟩ = some (.int .i64 n1) ∧ w'.cell? ⟨b, o + c * 4 + 2, none⟩ = some (.string s1) ∧ w'.cell? ⟨b, o + c * 4 + 3, none⟩ = some (.slice a1 l1 c1)) := fun w' hb =>
      ⟨(hb.cell (p := ⟨b, _, none⟩) (Nat.lt_of_lt_of_le hbn hB.size)).trans ((hB.cell (p := ⟨b, _, none⟩) hbn).trans e0), (hb.cell (p := ⟨b, _, none⟩) (Nat.lt_of_lt_of_le hbn hB.size)).trans ((hB.cell (p := ⟨b, _, none⟩) hbn).trans e1), (hb.cell (p := ⟨b, _, none⟩) (Nat.lt_of_lt_of_le hbn hB.size)).trans ((hB.cell (p := ⟨b, _, none⟩) hbn).trans e2), (hb.cell (p := ⟨b, _, none⟩) (Nat.lt_of_lt_of_le hbn hB.size)).trans ((hB.cell (p := ⟨b, _, none⟩) hbn).trans e3)⟩
    clear hnext husz hts htm hB e0 e1 e2 e3 hget ht hus
    obtain ⟨ua, ucap, rfl, hu1, hu2, hux⟩ := ts_at hout.out.ts
    go_wp2_with fail
    go_loopw [5] (fun i w' => ∃ p : Nat, i = .int .i64 p ∧ p ≤ us.length ∧ Hid (∀ x ∈ us.take p, tc x t < 0) ∧ Below ws0.heap.size ws0 w') (fun i _ => us.length - (intOf i).toNat)
    case atStart => exact ⟨0, rfl, Nat.zero_le _, fun x hx => by simp at hx, Below.refl _ _⟩
    case round =>
      obtain ⟨p, rfl, hp, HP, hB5⟩ := hrel
      rename World => ws
      by_cases hpl : p < us.length
      case neg =>
        have hpe : p = us.length := by omega
        subst hpe
        have hplz : ¬ ((us.length : Int) < (us.length : Int)) := by omega
        have HP' : ∀ x ∈ us, tc x t < 0 := fun x hx => HP.out x (by rw [List.take_length]; exact hx)
        have HIN := Lib.hid (insT_end HP')
        clear HP' HP
        by_cases hue : us = []
        · have hnil := hout.out.nil hue
          subst hue
          injection hnil with y1 y2 y3
          subst y1 y3
          have hBd := hB5.drew.drew
          go_wp2_with fail
          go_region
          go_wp2_with fail
          go_region
          generalize ws.drew.drew = w6 at hBd ⊢
          have HZ := Lib.hid hBd
          have HO1 := Lib.hid (OwnQ.empty w6 ws0.heap.size hBd.size)
          clear hBd
          go_upto_region 10 with fail
          obtain ⟨w7, hw7⟩ : ∃ w7, w7 = w6.alloc (.cells #[] 24) := ⟨_, rfl⟩
          have hown7 : OwnQ w7 ws0.heap.size (.slice (some ⟨w6.heap.size, 0, none⟩) 0 0) [] := by rw [hw7]; exact HO1.out
          have hb7 : Below ws0.heap.size ws0 w7 := by rw [hw7]; exact HZ.out.alloc HZ.out.size _
          rw [← hw7]
          clear hw7 HO1
          generalize (some (⟨w6.heap.size, 0, none⟩ : Addr)) = a7 at hown7 ⊢
          have hne7 : (Value.slice a7 0 0).ownBlock ≠ some w7.heap.size := fun e => by obtain ⟨qs, hq1, _⟩ := hown7; have := (World.ownsRow.lt hq1 _ e).2; omega
          have hlo7 := hown7.lt
          have HO2 := Lib.hid (hown7.later ((Below.refl _ w7).alloc (Nat.le_refl _) (.cells #[.int .i64 k1, .int .i64 n1, .string s1, .slice a1 l1 c1] 24)))
          have HS2 : Hid (TsIn (fun j => j < (w7.alloc (.cells #[.int .i64 k1, .int .i64 n1, .string s1, .slice a1 l1 c1] 24)).heap.size ∧ (Value.slice a7 0 0).ownBlock ≠ some j) (w7.alloc (.cells #[.int .i64 k1, .int .i64 n1, .string s1, .slice a1 l1 c1] 24)) (.slice (some ⟨w7.heap.size, 0, none⟩) 1 1) [t]) := by
            refine ⟨some ⟨w7.heap.size, 0, none⟩, 1, rfl, by simp, by unfold maxLen; omega, (fun h => by cases h), fun i hi => ?_⟩
            have hi' : i = 0 := by simp at hi; omega
            subst hi'
            have hb78 := hb7.alloc hb7.size (.cells #[.int .i64 k1, .int .i64 n1, .string s1, .slice a1 l1 c1] 24)
            refine ⟨w7.heap.size, 0, k1, n1, s1, a1, l1, c1, rfl, ⟨by simp, hne7⟩, (World.cell?_alloc_new w7 _ _ _).trans rfl, (World.cell?_alloc_new w7 _ _ _).trans rfl, (World.cell?_alloc_new w7 _ _ _).trans rfl, (World.cell?_alloc_new w7 _ _ _).trans rfl, ?_⟩
            exact HT.out.carry (fun j hj => hb78.block j hj) (fun j hj => ⟨Nat.lt_of_lt_of_le hj hb78.size, fun e => by have h1 := hlo7 j e; have h3 : j < ws0.heap.size := hj; omega⟩)
          have HZ7 := Lib.hid hb7
          obtain ⟨g0, g1, g2, g3⟩ := HC.out w7 hb7
          clear hown7 hne7 hb7
          go_wp2_with (at_builtin; refine wpList_append_oq rfl (.tmp 52) (.tmp 57) rfl ws0.heap.size _ _ [] [t] rfl rfl HO2.out HS2.out (by simp) (by have := HZ7.out.size; simp; omega) ?_)
          intro v8 w8 hown8 hg8
          have hb8 : Below ws0.heap.size ws0 w8 := (HZ7.out.alloc HZ7.out.size _).grown hg8 (by have := HZ7.out.size; simp; omega) HO2.out.lt
          obtain ⟨a8, c8, e8, -, -, -⟩ := ts_at hown8.ts
          have hlen8 : ([] ++ [t] : List Tm).length = 0 + 1 := rfl
          first | rw [hlen8] at e8 | rw [show (us ++ [t]).length = us.length + 1 by simp] at e8 | (have e8 : v8 = Value.slice a8 1 c8 := e8)
          subst e8
          have HO3 := Lib.hid hown8
          have HZ8 := Lib.hid hb8
          clear hown8 hg8 hb8 hlen8 g0 g1 g2 g3 HS2 HO2
          go_wp2_with (at_builtin; refine wpList_append_oq rfl (.tmp 59) (.tmp 62) rfl ws0.heap.size _ _ [t] [] rfl rfl HO3.out (noTs _ _) (by simp) HZ8.out.size ?_)
          intro v9 w9 hown9 hg9
          have hb9 : Below ws0.heap.size ws0 w9 := HZ8.out.grown hg9 HZ8.out.size HO3.out.lt
          have hown9' : OwnQ w9 ws0.heap.size v9 (sortT (ks.take (c + 1))) := by rw [HN.out.1]; simpa [insT] using hown9
          have H9 := Lib.hid (And.intro hown9' hb9)
          clear hown9'
          clear hown9 hg9 hb9 HO3
          go_wp2_with fail
          go_roundw
          case rel => exact ⟨c + 1, by simp, hlt, ⟨H9.out.1.ts, fun e => absurd e (by rw [HN.out.1]; exact insT_ne _ _)⟩, HB.out.trans (H9.out.2.mono HB.out.size)⟩
          case measure => simp [intOf]; omega

        · have hpos : 0 < us.length := by cases us with | nil => exact absurd rfl hue | cons x xs => simp
          obtain ⟨b2, o2, k2, n2, s2, a2, l2, c2, rfl, hbn2, -, -, -, -, -⟩ := hux 0 hpos
          have hpc0 : us.length ≤ ucap := hu1
          have hBd := hB5.drew.drew
          go_wp2_with fail
          go_region
          go_wp2_with fail
          go_region
          generalize ws.drew.drew = w6 at hBd ⊢
          have hBz : Below ws0.heap.size ws0 w6 := hBd
          have HZ := Lib.hid hBz
          have HO1 := Lib.hid (OwnQ.empty w6 ws0.heap.size hBz.size)
          have HS1 : Hid (TsIn (fun j => j < (w6.alloc (.cells #[] 24)).heap.size ∧ (Value.slice (some ⟨w6.heap.size, 0, none⟩) 0 0).ownBlock ≠ some j) (w6.alloc (.cells #[] 24)) (.slice (some ⟨b2, o2, none⟩) us.length ucap) us) :=
            hout.out.ts.carry (fun j hj => (hBz.alloc hBz.size _).block j hj) (fun j hj => ⟨Nat.lt_of_lt_of_le hj (hBz.alloc hBz.size _).size, fun e => by have e' : w6.heap.size = j := Option.some.inj e; have := hBz.size; have hj : j < ws0.heap.size := hj; omega⟩)
          have hpc : us.length ≤ ucap := by omega
          clear hBz
          go_wp2_with (at_builtin; refine wpList_append_oq rfl (.tmp 47) (.tmp 50) rfl ws0.heap.size _ _ [] us rfl rfl HO1.out HS1.out (by rw [List.length_nil]; omega) (by have := HZ.out.size; simp; omega) ?_)
          intro v7 w7 hown7 hg7
          have hb7 : Below ws0.heap.size ws0 w7 := (HZ.out.alloc HZ.out.size _).grown hg7 (by have := HZ.out.size; simp; omega) HO1.out.lt
          obtain ⟨a7, c7, e7, -, -, -⟩ := ts_at hown7.ts
          have hlen7 : us.length = us.length := rfl
          try rw [hlen7] at e7
          subst e7
          have hne7 : (Value.slice a7 us.length c7).ownBlock ≠ some w7.heap.size := fun e => by obtain ⟨qs, hq1, _⟩ := hown7; have := (World.ownsRow.lt hq1 _ e).2; omega
          have hlo7 := hown7.lt
          have HO2 := Lib.hid (hown7.later ((Below.refl _ w7).alloc (Nat.le_refl _) (.cells #[.int .i64 k1, .int .i64 n1, .string s1, .slice a1 l1 c1] 24)))
          have HS2 : Hid (TsIn (fun j => j < (w7.alloc (.cells #[.int .i64 k1, .int .i64 n1, .string s1, .slice a1 l1 c1] 24)).heap.size ∧ (Value.slice a7 us.length c7).ownBlock ≠ some j) (w7.alloc (.cells #[.int .i64 k1, .int .i64 n1, .string s1, .slice a1 l1 c1] 24)) (.slice (some ⟨w7.heap.size, 0, none⟩) 1 1) [t]) := by
            refine ⟨some ⟨w7.heap.size, 0, none⟩, 1, rfl, by simp, by unfold maxLen; omega, (fun h => by cases h), fun i hi => ?_⟩
            have hi' : i = 0 := by simp at hi; omega
            subst hi'
            have hb78 := hb7.alloc hb7.size (.cells #[.int .i64 k1, .int .i64 n1, .string s1, .slice a1 l1 c1] 24)
            refine ⟨w7.heap.size, 0, k1, n1, s1, a1, l1, c1, rfl, ⟨by simp, hne7⟩, (World.cell?_alloc_new w7 _ _ _).trans rfl, (World.cell?_alloc_new w7 _ _ _).trans rfl, (World.cell?_alloc_new w7 _ _ _).trans rfl, (World.cell?_alloc_new w7 _ _ _).trans rfl, ?_⟩
            exact HT.out.carry (fun j hj => hb78.block j hj) (fun j hj => ⟨Nat.lt_of_lt_of_le hj hb78.size, fun e => by have h1 := hlo7 j e; have h3 : j < ws0.heap.size := hj; omega⟩)
          have HZ7 := Lib.hid hb7
          obtain ⟨g0, g1, g2, g3⟩ := HC.out w7 hb7
          clear hown7 hg7 hne7 hb7 hlen7 HS1 HO1
          go_wp2_with (at_builtin; refine wpList_append_oq rfl (.tmp 52) (.tmp 57) rfl ws0.heap.size _ _ us [t] rfl rfl HO2.out HS2.out (by rw [List.length_singleton]; omega) (by have := HZ7.out.size; simp; omega) ?_)
          intro v8 w8 hown8 hg8
          have hb8 : Below ws0.heap.size ws0 w8 := (HZ7.out.alloc HZ7.out.size _).grown hg8 (by have := HZ7.out.size; simp; omega) HO2.out.lt
          obtain ⟨a8, c8, e8, -, -, -⟩ := ts_at hown8.ts
          have hlen8 : (us ++ [t]).length = us.length + 1 := by simp
          first | rw [hlen8] at e8 | rw [show (us ++ [t]).length = us.length + 1 by simp] at e8 | (have e8 : v8 = Value.slice a8 1 c8 := e8)
          subst e8
          have HO3 := Lib.hid hown8
          have HZ8 := Lib.hid hb8
          have HS3 : Hid (∀ (a' : Option Addr) (cp : Nat), a' ≠ none → cp ≤ maxLen → TsIn (fun j => j < w8.heap.size ∧ (Value.slice a8 (us.length + 1) c8).ownBlock ≠ some j) w8 (.slice a' 0 cp) []) := fun a' cp ha hcp => ⟨a', cp, rfl, Nat.zero_le _, hcp, fun e => absurd e ha, fun i hi => by cases hi⟩
          clear hown8 hg8 hb8 hlen8 g0 g1 g2 g3 HS2 HO2
          go_wp2_with (at_builtin; refine wpList_append_oq rfl (.tmp 59) (.tmp 62) rfl ws0.heap.size _ _ (us ++ [t]) [] rfl rfl HO3.out (HS3.out _ _ (by split <;> simp) (by omega)) (by rw [List.length_append, List.length_nil, List.length_singleton]; omega) HZ8.out.size ?_)
          all_goals
            intro v9 w9 hown9 hg9
            have hb9 : Below ws0.heap.size ws0 w9 := HZ8.out.grown hg9 HZ8.out.size HO3.out.lt
            have hown9' : OwnQ w9 ws0.heap.size v9 (sortT (ks.take (c + 1))) := by rw [HN.out.1, HIN.out]; simpa using hown9
            have H9 := Lib.hid (And.intro hown9' hb9)
            clear hown9'
            clear hown9 hg9 hb9 HS3 HO3
            go_wp2_with fail
            go_roundw
            case rel => exact ⟨c + 1, by simp, hlt, ⟨H9.out.1.ts, fun e => absurd e (by rw [HN.out.1]; exact insT_ne _ _)⟩, HB.out.trans (H9.out.2.mono HB.out.size)⟩
            case measure => simp [intOf]; omega
      have hplz : (p : Int) < (us.length : Int) := by omega
      obtain ⟨b2, o2, k2, n2, s2, a2, l2, c2, rfl, hbn2, f0, f1, f2, f3, hT2⟩ := hux p hpl
      obtain ⟨x, hxe⟩ : ∃ x, us[p] = x := ⟨_, rfl⟩
      have hgx : us[p]? = some x := by rw [List.getElem?_eq_getElem hpl, hxe]
      rw [hxe] at hT2
      have hxs : x.size ≤ 1000000000 := HN.out.2.1 x (List.mem_of_getElem? hgx)
      have HS : ∀ w', Below ws.heap.size ws w' → ((w'.cell? ⟨b, o + c * 4, none⟩ = some (.int .i64 k1) ∧ w'.cell? ⟨b, o + c * 4 + 1, none⟩ = some (.int .i64 n1) ∧ w'.cell? ⟨b, o + c * 4 + 2, none⟩ = some (.string s1) ∧ w'.cell? ⟨b, o + c * 4 + 3, none⟩ = some (.slice a1 l1 c1)) ∧ (w'.cell? ⟨b2, o2 + p * 4, none⟩ = some (.int .i64 k2) ∧ w'.cell? ⟨b2, o2 + p * 4 + 1, none⟩ = some (.int .i64 n2) ∧ w'.cell? ⟨b2, o2 + p * 4 + 2, none⟩ = some (.string s2) ∧ w'.cell? ⟨b2, o2 + p * 4 + 3, none⟩ = some (.slice a2 l2 c2)) ∧ Below ws.heap.size ws w') := fun w' hb =>
        have hbb := hB5.trans (hb.mono hB5.size)
        ⟨HC.out w' hbb, ⟨(hbb.cell (p := ⟨b2, _, none⟩) hbn2).trans f0, (hbb.cell (p := ⟨b2, _, none⟩) hbn2).trans f1, (hbb.cell (p := ⟨b2, _, none⟩) hbn2).trans f2, (hbb.cell (p := ⟨b2, _, none⟩) hbn2).trans f3⟩, hb⟩
      obtain ⟨q, hq⟩ : ∃ q, tc x t = q := ⟨_, rfl⟩
      have hcmp : ∀ W, Below ws.heap.size ws W → Calls Try.prog 13 #[.agg #[.int .i64 k2, .int .i64 n2, .string s2, .slice a2 l2 c2], .agg #[.int .i64 k1, .int .i64 n1, .string s1, .slice a1 l1 c1]] W fun e W' => e = .returned (.int .i64 q) ∧ Below ws.heap.size ws W' := fun W hb =>
        (rcompare_at x t _ _ W (Has.below hT2 (hB5.trans (hb.mono hB5.size))) (Has.below HT.out (hB5.trans (hb.mono hB5.size))) hxs HN.out.2.2).mono fun e W' h => ⟨by rw [h.1, ← hq], hb.trans (h.2.mono hb.size)⟩
      have HQ := Lib.hid (And.intro hq hgx)
      have HB5 := Lib.hid hB5
      have HTX := Lib.hid hT2
      clear hq hgx hB5 hT2 f0 f1 f2 f3 hxe hxs
      by_cases hq0 : q < 0
      · go_wp2_with fail
        go_region_held3 (fun w' => (w'.cell? ⟨b, o + c * 4, none⟩ = some (.int .i64 k1) ∧ w'.cell? ⟨b, o + c * 4 + 1, none⟩ = some (.int .i64 n1) ∧ w'.cell? ⟨b, o + c * 4 + 2, none⟩ = some (.string s1) ∧ w'.cell? ⟨b, o + c * 4 + 3, none⟩ = some (.slice a1 l1 c1)) ∧ (w'.cell? ⟨b2, o2 + p * 4, none⟩ = some (.int .i64 k2) ∧ w'.cell? ⟨b2, o2 + p * 4 + 1, none⟩ = some (.int .i64 n2) ∧ w'.cell? ⟨b2, o2 + p * 4 + 2, none⟩ = some (.string s2) ∧ w'.cell? ⟨b2, o2 + p * 4 + 3, none⟩ = some (.slice a2 l2 c2)) ∧ Below ws.heap.size ws w')
          (first | exact HS _ (Below.refl _ _).drew | exact HS _ hb4)
          (first | (go_at_call 13; (with_reducible refine (hcmp _ (by go_split_ands; assumption)).mono ?_); rintro e w4 ⟨rfl, hb4⟩))
        go_wp2_with fail
        go_roundw
        case rel => exact ⟨p + 1, by simp, hpl, fun y hy => by
          rw [List.take_add_one, HQ.out.2] at hy
          rcases List.mem_append.1 hy with hy | hy
          · exact HP.out y hy
          · rw [List.mem_singleton.1 hy, HQ.out.1]; exact hq0, HB5.out.trans (hb4.mono HB5.out.size)⟩
        case measure => simp [intOf]; omega
      by_cases hq1 : q = 0
      · have hqb : (q == 0) = true := by simpa using hq1
        go_wp2_with fail
        go_region_held3 (fun w' => (w'.cell? ⟨b, o + c * 4, none⟩ = some (.int .i64 k1) ∧ w'.cell? ⟨b, o + c * 4 + 1, none⟩ = some (.int .i64 n1) ∧ w'.cell? ⟨b, o + c * 4 + 2, none⟩ = some (.string s1) ∧ w'.cell? ⟨b, o + c * 4 + 3, none⟩ = some (.slice a1 l1 c1)) ∧ (w'.cell? ⟨b2, o2 + p * 4, none⟩ = some (.int .i64 k2) ∧ w'.cell? ⟨b2, o2 + p * 4 + 1, none⟩ = some (.int .i64 n2) ∧ w'.cell? ⟨b2, o2 + p * 4 + 2, none⟩ = some (.string s2) ∧ w'.cell? ⟨b2, o2 + p * 4 + 3, none⟩ = some (.slice a2 l2 c2)) ∧ Below ws.heap.size ws w')
          (first | exact HS _ (Below.refl _ _).drew | exact HS _ hb4)
          (first | (go_at_call 13; (with_reducible refine (hcmp _ (by go_split_ands; assumption)).mono ?_); rintro e w4 ⟨rfl, hb4⟩))
        go_wp2_with fail
        go_region_held3 (fun w' => (w'.cell? ⟨b, o + c * 4, none⟩ = some (.int .i64 k1) ∧ w'.cell? ⟨b, o + c * 4 + 1, none⟩ = some (.int .i64 n1) ∧ w'.cell? ⟨b, o + c * 4 + 2, none⟩ = some (.string s1) ∧ w'.cell? ⟨b, o + c * 4 + 3, none⟩ = some (.slice a1 l1 c1)) ∧ (w'.cell? ⟨b2, o2 + p * 4, none⟩ = some (.int .i64 k2) ∧ w'.cell? ⟨b2, o2 + p * 4 + 1, none⟩ = some (.int .i64 n2) ∧ w'.cell? ⟨b2, o2 + p * 4 + 2, none⟩ = some (.string s2) ∧ w'.cell? ⟨b2, o2 + p * 4 + 3, none⟩ = some (.slice a2 l2 c2)) ∧ Below ws.heap.size ws w')
          (first | exact HS _ hb4.drew | exact HS _ hb6)
          (first | (go_at_call 13; (with_reducible refine (hcmp _ (by go_split_ands; assumption)).mono ?_); rintro e w6 ⟨rfl, hb6⟩))
        go_wp2_with fail
        go_roundw
        case rel => exact ⟨c + 1, by simp, hlt, by rw [HN.out.1, insT_same p HP.out HQ.out.2 (by rw [HQ.out.1]; exact hq1)]; exact ⟨hout.out.ts.carry (fun b hb => (HB5.out.trans (hb6.mono HB5.out.size)).block b hb) (fun b hb => Nat.lt_of_lt_of_le hb (HB5.out.trans (hb6.mono HB5.out.size)).size), hout.out.nil⟩, HB.out.trans ((HB5.out.trans (hb6.mono HB5.out.size)).mono HB.out.size)⟩
        case measure => simp [intOf]; omega
      · have hqb : (q == 0) = false := by simpa using hq1
        have HIN := Lib.hid (insT_here p HP.out HQ.out.2 (by rw [HQ.out.1]; exact hq0) (by rw [HQ.out.1]; exact hq1))
        go_wp2_with fail
        go_region_held3 (fun w' => (w'.cell? ⟨b, o + c * 4, none⟩ = some (.int .i64 k1) ∧ w'.cell? ⟨b, o + c * 4 + 1, none⟩ = some (.int .i64 n1) ∧ w'.cell? ⟨b, o + c * 4 + 2, none⟩ = some (.string s1) ∧ w'.cell? ⟨b, o + c * 4 + 3, none⟩ = some (.slice a1 l1 c1)) ∧ (w'.cell? ⟨b2, o2 + p * 4, none⟩ = some (.int .i64 k2) ∧ w'.cell? ⟨b2, o2 + p * 4 + 1, none⟩ = some (.int .i64 n2) ∧ w'.cell? ⟨b2, o2 + p * 4 + 2, none⟩ = some (.string s2) ∧ w'.cell? ⟨b2, o2 + p * 4 + 3, none⟩ = some (.slice a2 l2 c2)) ∧ Below ws.heap.size ws w')
          (first | exact HS _ (Below.refl _ _).drew | exact HS _ hb4)
          (first | (go_at_call 13; (with_reducible refine (hcmp _ (by go_split_ands; assumption)).mono ?_); rintro e w4 ⟨rfl, hb4⟩))
        go_wp2_with fail
        go_region_held3 (fun w' => (w'.cell? ⟨b, o + c * 4, none⟩ = some (.int .i64 k1) ∧ w'.cell? ⟨b, o + c * 4 + 1, none⟩ = some (.int .i64 n1) ∧ w'.cell? ⟨b, o + c * 4 + 2, none⟩ = some (.string s1) ∧ w'.cell? ⟨b, o + c * 4 + 3, none⟩ = some (.slice a1 l1 c1)) ∧ (w'.cell? ⟨b2, o2 + p * 4, none⟩ = some (.int .i64 k2) ∧ w'.cell? ⟨b2, o2 + p * 4 + 1, none⟩ = some (.int .i64 n2) ∧ w'.cell? ⟨b2, o2 + p * 4 + 2, none⟩ = some (.string s2) ∧ w'.cell? ⟨b2, o2 + p * 4 + 3, none⟩ = some (.slice a2 l2 c2)) ∧ Below ws.heap.size ws w')
          (first | exact HS _ hb4.drew | exact HS _ hb6)
          (first | (go_at_call 13; (with_reducible refine (hcmp _ (by go_split_ands; assumption)).mono ?_); rintro e w6 ⟨rfl, hb6⟩))
        have hBz : Below ws0.heap.size ws0 w6 := HB5.out.trans (hb6.mono HB5.out.size)
        have HZ := Lib.hid hBz
        have HO1 := Lib.hid (OwnQ.empty w6 ws0.heap.size hBz.size)
        have HS1 : Hid (TsIn (fun j => j < (w6.alloc (.cells #[] 24)).heap.size ∧ (Value.slice (some ⟨w6.heap.size, 0, none⟩) 0 0).ownBlock ≠ some j) (w6.alloc (.cells #[] 24)) (.slice (some ⟨b2, o2, none⟩) p ucap) (us.take p)) :=
          (ts_take hout.out.ts p hp).carry (fun j hj => (hBz.alloc hBz.size _).block j hj) (fun j hj => ⟨Nat.lt_of_lt_of_le hj (hBz.alloc hBz.size _).size, fun e => by have e' : w6.heap.size = j := Option.some.inj e; have := hBz.size; have hj : j < ws0.heap.size := hj; omega⟩)
        have hpc : p ≤ ucap := by omega
        clear hb4 hb6 HS hcmp HTX HB5 HP HQ hBz
        go_wp2_with (at_builtin; refine wpList_append_oq rfl (.tmp 47) (.tmp 50) rfl ws0.heap.size _ _ [] (us.take p) rfl rfl HO1.out HS1.out (by rw [List.length_take, List.length_nil]; omega) (by have := HZ.out.size; simp; omega) ?_)
        intro v7 w7 hown7 hg7
        have hb7 : Below ws0.heap.size ws0 w7 := (HZ.out.alloc HZ.out.size _).grown hg7 (by have := HZ.out.size; simp; omega) HO1.out.lt
        obtain ⟨a7, c7, e7, -, -, -⟩ := ts_at hown7.ts
        have hlen7 : (us.take p).length = p := by rw [List.length_take]; omega
        try rw [hlen7] at e7
        subst e7
        have hne7 : (Value.slice a7 p c7).ownBlock ≠ some w7.heap.size := fun e => by obtain ⟨qs, hq1, _⟩ := hown7; have := (World.ownsRow.lt hq1 _ e).2; omega
        have hlo7 := hown7.lt
        have HO2 := Lib.hid (hown7.later ((Below.refl _ w7).alloc (Nat.le_refl _) (.cells #[.int .i64 k1, .int .i64 n1, .string s1, .slice a1 l1 c1] 24)))
        have HS2 : Hid (TsIn (fun j => j < (w7.alloc (.cells #[.int .i64 k1, .int .i64 n1, .string s1, .slice a1 l1 c1] 24)).heap.size ∧ (Value.slice a7 p c7).ownBlock ≠ some j) (w7.alloc (.cells #[.int .i64 k1, .int .i64 n1, .string s1, .slice a1 l1 c1] 24)) (.slice (some ⟨w7.heap.size, 0, none⟩) 1 1) [t]) := by
          refine ⟨some ⟨w7.heap.size, 0, none⟩, 1, rfl, by simp, by unfold maxLen; omega, (fun h => by cases h), fun i hi => ?_⟩
          have hi' : i = 0 := by simp at hi; omega
          subst hi'
          have hb78 := hb7.alloc hb7.size (.cells #[.int .i64 k1, .int .i64 n1, .string s1, .slice a1 l1 c1] 24)
          refine ⟨w7.heap.size, 0, k1, n1, s1, a1, l1, c1, rfl, ⟨by simp, hne7⟩, (World.cell?_alloc_new w7 _ _ _).trans rfl, (World.cell?_alloc_new w7 _ _ _).trans rfl, (World.cell?_alloc_new w7 _ _ _).trans rfl, (World.cell?_alloc_new w7 _ _ _).trans rfl, ?_⟩
          exact HT.out.carry (fun j hj => hb78.block j hj) (fun j hj => ⟨Nat.lt_of_lt_of_le hj hb78.size, fun e => by have h1 := hlo7 j e; have h3 : j < ws0.heap.size := hj; omega⟩)
        have HZ7 := Lib.hid hb7
        obtain ⟨g0, g1, g2, g3⟩ := HC.out w7 hb7
        clear hown7 hg7 hne7 hb7 hlen7 HS1 HO1
        go_wp2_with (at_builtin; refine wpList_append_oq rfl (.tmp 52) (.tmp 57) rfl ws0.heap.size _ _ (us.take p) [t] rfl rfl HO2.out HS2.out (by rw [List.length_take, List.length_singleton]; omega) (by have := HZ7.out.size; simp; omega) ?_)
        intro v8 w8 hown8 hg8
        have hb8 : Below ws0.heap.size ws0 w8 := (HZ7.out.alloc HZ7.out.size _).grown hg8 (by have := HZ7.out.size; simp; omega) HO2.out.lt
        obtain ⟨a8, c8, e8, -, -, -⟩ := ts_at hown8.ts
        have hlen8 : (us.take p ++ [t]).length = p + 1 := by rw [List.length_append, List.length_take, List.length_singleton]; omega
        first | rw [hlen8] at e8 | rw [show (us ++ [t]).length = us.length + 1 by simp] at e8 | (have e8 : v8 = Value.slice a8 1 c8 := e8)
        subst e8
        have HO3 := Lib.hid hown8
        have HZ8 := Lib.hid hb8
        have HS3 : Hid (∀ a' : Option Addr, a' = some ⟨b2, o2 + p * 4, none⟩ → TsIn (fun j => j < w8.heap.size ∧ (Value.slice a8 (p + 1) c8).ownBlock ≠ some j) w8 (.slice a' (us.length - p) (ucap - p)) (us.drop p)) := fun a' ha =>
          (ts_drop hout.out.ts p hp a' (fun _ => ha) (by rw [ha]; exact fun e => by cases e)).carry (fun j hj => hb8.block j hj) (fun j hj => ⟨Nat.lt_of_lt_of_le hj hb8.size, fun e => by have h1 := hown8.lt j e; have h3 : j < ws0.heap.size := hj; omega⟩)
        have hcp : p < ucap := by omega
        have hcpz : (p : Int) < (ucap : Int) := by omega
        clear hown8 hg8 hb8 hlen8 g0 g1 g2 g3 HS2 HO2
        go_wp2_with (at_builtin; refine wpList_append_oq rfl (.tmp 59) (.tmp 62) rfl ws0.heap.size _ _ (us.take p ++ [t]) (us.drop p) rfl rfl HO3.out (HS3.out _ rfl) (by rw [List.length_append, List.length_take, List.length_drop, List.length_singleton]; omega) HZ8.out.size ?_)
        intro v9 w9 hown9 hg9
        have hb9 : Below ws0.heap.size ws0 w9 := HZ8.out.grown hg9 HZ8.out.size HO3.out.lt
        have hown9' : OwnQ w9 ws0.heap.size v9 (sortT (ks.take (c + 1))) := by rw [HN.out.1, HIN.out, List.append_assoc]; exact hown9
        have H9 := Lib.hid (And.intro hown9' hb9)
        clear hown9'
        clear hown9 hg9 hb9 HS3 HO3
        go_wp2_with fail
        go_roundw
        case rel => exact ⟨c + 1, by simp, hlt, ⟨H9.out.1.ts, fun e => absurd e (by rw [HN.out.1]; exact insT_ne _ _)⟩, HB.out.trans (H9.out.2.mono HB.out.size)⟩
        case measure => simp [intOf]; omega

end Go.Proofs.Ytnkfjomnpnbidaa
