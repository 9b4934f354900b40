/-
  The reference's gather and Vars.
-/
import Derived.Test.YtlnggaepmclbkaaZCopBn4
import Derived.Test.YtlnggaepmclbkaaZStoQn4
namespace Go.Proofs.Ytlnggaepmclbkaa
open Go.RowKit Go.Shelf
set_option linter.unusedVariables false

theorem one_int' (w : World) (x : Int) : IntsAt (w.alloc (.cells #[.int .i64 x] 3)) (.slice (some ⟨w.heap.size, 0, none⟩) 1 1) [x] := by
  refine ⟨some ⟨w.heap.size, 0, none⟩, 1, rfl, by simp, by unfold maxLen; omega, (fun h => by cases h), fun i hi => ?_⟩
  have hi' : i = 0 := by simp at hi; omega
  subst hi'
  exact ⟨w.heap.size, 0, rfl, by simp, (World.cell?_alloc_new w _ _ _).trans rfl⟩
theorem IntsAt.grown {w w' : World} {b o c : Nat} {l : List Int} {row : Option Nat} (h : IntsAt w (.slice (some ⟨b, o, none⟩) l.length c) l) (hg : w.grownBy w' row) (hr : ∀ i, i < l.length → some b ≠ row) : IntsAt w' (.slice (some ⟨b, o, none⟩) l.length c) l := by
  obtain ⟨a2, c2, e, h1, h2, h3, h4⟩ := h
  injection e with e1 e2 e3
  subst e1 e3
  refine ⟨_, _, rfl, h1, h2, h3, fun i hi => ?_⟩
  obtain ⟨b', o', e, hb, hc⟩ := h4 i hi
  injection e with e
  injection e with e1 e2
  subst e1 e2
  exact ⟨b, o, rfl, Nat.lt_of_lt_of_le hb hg.size, (World.cell?_of_block (a := ⟨b, _, none⟩) (hg.block b hb (hr i hi))).trans hc⟩

theorem foldl_len_le : ∀ (l : List (Nat × Tm)) (acc : List Int), (l.foldl addV acc).length ≤ acc.length + l.length
  | [], acc => by simp
  | x :: l, acc => by
    have h := foldl_len_le l (addV acc x)
    have h2 : (addV acc x).length ≤ acc.length + 1 := by
      unfold addV addNew
      split
      · split <;> simp
      · omega
    rw [List.foldl_cons, List.length_cons]
    omega
theorem foldl_parts (T : Tm) (d e : Nat) (acc : List Int) : (T.parts d).foldl addV acc = (T.parts e).foldl addV acc := by rw [foldl_addV, foldl_addV, nums_parts T d e]
theorem foldl_partss (ks : List Tm) (d e : Nat) (acc : List Int) : (Tm.partss d ks).foldl addV acc = (Tm.partss e ks).foldl addV acc := by rw [foldl_addV, foldl_addV, nums_partss d e ks (fun t _ => nums_parts t)]
theorem int_below {a w : World} (h : Below a.heap.size a w) (o : Obj) : Below a.heap.size a (w.alloc o) := h.alloc h.size o

set_option maxRecDepth 100000 in
set_option maxHeartbeats 4000000 in
theorem gather_at (T : Tm) : ∀ (l : List Int) (u v : Value) (w : World), IntsAt w u l → Has w v T → l.length + T.size ≤ 1000000000 → Calls Try.prog 43 #[u, v] w fun e w' => ∃ r, e = .returned r ∧ IntsAt w' r ((T.parts 1).foldl addV l) ∧ Below w.heap.size w w' := by
  induction T using Tm.ind with
  | h k n s ks ih =>
    intro l u v w hu hv hs
    obtain ⟨k_, n_, s_, a, len, cap, ks_, rfl, e, rfl, hk, hn, hs', hc, hm, ha⟩ := hv.form
    injection e with e1 e2 e3 e4
    subst e1 e2 e3 e4
    rw [Tm.size_mk] at hs
    have hlen : ks.length ≤ 1000000000 := by have := Tm.length_le_sizes ks; omega
    obtain ⟨aU, cU, eU, _⟩ := id hu
    subst eU
    have hll : l.length ≤ 1000000000 := by omega
    obtain ⟨w1, hw1⟩ : ∃ w1, w1 = w.alloc (.cells #[.int .i64 k, .int .i64 n, .string s, .slice a ks.length cap] 24) := ⟨_, rfl⟩
    have hB1 : Below w.heap.size w w1 := by rw [hw1]; exact (Below.refl _ w).alloc (Nat.le_refl _) _
    have hbox : w1.heap[w.heap.size]? = some (.cells #[.int .i64 k, .int .i64 n, .string s, .slice a ks.length cap] 24 (0, 0)) := by rw [hw1]; exact World.alloc_heap_new _ _
    have hu1 := hu.below hB1
    have hfold : ((Tm.mk k n s ks).parts 1).foldl addV l = (Tm.partss 1 ks).foldl addV (addV l (1, .mk k n s ks)) := by rw [Tm.parts_mk, List.foldl_cons, foldl_partss ks (1 + 1) 1]
    have HH := Lib.hid (And.intro hs (And.intro hw1 (And.intro hB1 hbox)))
    clear hs hw1 hB1 hbox hu
    by_cases hk1 : k = 1
    · subst hk1
      have hhas := rhas_at _ l n w1 hu1 (by omega)
      by_cases hcn : l.contains n = true
      · have HF : Hid (((Tm.mk 1 n s ks).parts 1).foldl addV l = (Tm.partss 1 ks).foldl addV l) := by
          show _ = _
          rw [hfold]; congr 1
          show (if (1 : Int) = 1 then addNew l n else l) = l
          rw [if_pos rfl, addNew, if_pos hcn]
        rw [hcn] at hhas
        obtain ⟨l2, hl2⟩ : ∃ l2, l2 = l := ⟨_, rfl⟩
        rw [← hl2] at HF hu1 hll ⊢
        have HL2 : Hid (l2.length ≤ l.length + 1) := by show _ ≤ _; rw [hl2]; omega
        rw [← hl2] at hhas
        clear hfold hl2 hcn
        go_enter Try.func43, Try.ntmps43
        go_wp2_with fail
        rw [← HH.out.2.1]
        refine hhas.mono ?_
        rintro e w2 ⟨rfl, hb2⟩
        have H2 := Lib.hid (And.intro (hu1.below hb2) hb2)
        clear hhas hb2 hu1
        go_wp2_with fail
        go_loopw [0, 5] (fun x i wr => ∃ c : Nat, i = .int .i64 c ∧ c ≤ ks.length ∧ IntsAt wr x ((Tm.partss 1 (ks.take c)).foldl addV l2) ∧ Below w1.heap.size w1 wr) (fun _ i _ => ks.length - (intOf i).toNat)
        case atStart => exact ⟨0, rfl, Nat.zero_le _, by simpa [Tm.partss_nil] using H2.out.1, H2.out.2⟩
        case round =>
          obtain ⟨c, rfl, hcl, hI, hB⟩ := hrel
          obtain ⟨aI, cI, eI, _⟩ := id hI
          subst eI
          obtain ⟨b0, b1, b2, b3⟩ := tbox_cells (tbox_below HH.out.2.2.2 hB)
          have hwr : Below w.heap.size w wr := HH.out.2.2.1.trans (hB.mono HH.out.2.2.1.size)
          by_cases hlt : c < ks.length
          · obtain ⟨b, o, k1, n1, s1, a1, l1, c1, T1, rfl, hbn, e0, e1, e2, e3, hT1, ht1⟩ := IsTm.kid hv c hlt
            have q0 := (hwr.cell (p := ⟨b, o + c * 4, none⟩) hbn).trans e0
            have q1 := (hwr.cell (p := ⟨b, o + c * 4 + 1, none⟩) hbn).trans e1
            have q2 := (hwr.cell (p := ⟨b, o + c * 4 + 2, none⟩) hbn).trans e2
            have q3 := (hwr.cell (p := ⟨b, o + c * 4 + 3, none⟩) hbn).trans e3
            have hLl := foldl_len_le (Tm.partss 1 (ks.take c)) l2
            rw [Tm.partss_length (fun t _ d => t.parts_length d)] at hLl
            have hts := Tm.take_succ_sizes ks c T1 hT1
            have htl := Tm.sizes_take_le ks (c + 1)
            have hl2 := HL2.out
            have hsz := HH.out.1
            have hih := (ih T1 (List.mem_of_getElem? hT1) _ _ _ wr hI (IsTm.later hwr hwr.size ht1) (by omega)).mono (R' := fun e w2 => ∃ a9 c9, e = .returned (.slice a9 ((Tm.partss 1 (ks.take (c + 1))).foldl addV l2).length c9) ∧ IntsAt w2 (.slice a9 ((Tm.partss 1 (ks.take (c + 1))).foldl addV l2).length c9) ((Tm.partss 1 (ks.take (c + 1))).foldl addV l2) ∧ Below w1.heap.size w1 w2) (fun e w2 h => by
              obtain ⟨r, rfl, hr, hb⟩ := h
              have e : (T1.parts 1).foldl addV ((Tm.partss 1 (ks.take c)).foldl addV l2) = (Tm.partss 1 (ks.take (c + 1))).foldl addV l2 := by rw [Tm.take_succ_partss _ _ _ _ hT1, List.foldl_append]
              rw [e] at hr
              obtain ⟨a9, c9, e9, _⟩ := id hr
              subst e9
              exact ⟨a9, c9, rfl, hr, hB.trans (hb.mono hB.size)⟩)
            generalize hX : (Tm.partss 1 (ks.take c)).foldl addV l2 = X at *
            generalize hY : (Tm.partss 1 (ks.take (c + 1))).foldl addV l2 = Y at *
            have HY := Lib.hid hY
            clear e0 e1 e2 e3 hT1 ht1 hLl hts htl hl2 hsz hX hY hI
            go_wp2_with fail
            refine hih.mono ?_
            rintro e w2 ⟨a9, c9, rfl, hr, hb2⟩
            clear hih
            have HR := Lib.hid (And.intro hr hb2)
            clear hr hb2
            go_wp2_with fail
            go_roundw
            case rel => exact ⟨c + 1, by simp, hlt, by rw [HY.out]; exact HR.out.1, HR.out.2⟩
            case measure => simp [intOf]; omega
          · have hce : c = ks.length := by omega
            subst hce
            rw [List.take_length] at hI
            have HI := Lib.hid (And.intro hI hwr)
            clear hI hwr hB
            rw [List.take_length]
            generalize hX : (Tm.partss 1 ks).foldl addV l2 = X at *
            have HX := Lib.hid hX
            clear hX
            go_wp2_with fail
            go_ret
            refine ⟨_, rfl, ?_, HI.out.2⟩
            rw [HF.out]
            exact HI.out.1
      · have hcn' : l.contains n = false := by simpa using hcn
        have HF : Hid (((Tm.mk 1 n s ks).parts 1).foldl addV l = (Tm.partss 1 ks).foldl addV (l ++ [n])) := by
          show _ = _
          rw [hfold]; congr 1
          show (if (1 : Int) = 1 then addNew l n else l) = l ++ [n]
          rw [if_pos rfl, addNew, if_neg hcn]
        rw [hcn'] at hhas
        clear hfold hcn hcn'
        go_enter Try.func43, Try.ntmps43
        go_wp2_with fail
        rw [← HH.out.2.1]
        refine hhas.mono ?_
        rintro e w2 ⟨rfl, hb2⟩
        have hu2 := hu1.below hb2
        obtain ⟨x0, x1, x2, x3⟩ := tbox_cells (tbox_below HH.out.2.2.2 hb2)
        have hlt2 : w.heap.size < w2.heap.size := (Array.getElem?_eq_some_iff.1 (tbox_below HH.out.2.2.2 hb2)).1
        have HB2 := Lib.hid hb2
        have HS : ∀ w', Below w2.heap.size w2 w' → (w'.cell? ⟨w.heap.size, 1, none⟩ = some (.int .i64 n) ∧ Below w2.heap.size w2 w') := fun w' hb => ⟨(hb.cell (p := ⟨_, _, none⟩) hlt2).trans x1, hb⟩
        have hsrcU : ∀ w', Below w2.heap.size w2 w' → IntsAt w' (.slice aU l.length cU) l := fun w' hb => hu2.below hb
        have hownC : OwnInts ((w2.drew.alloc (.cells #[.int .i64 n] 3)).alloc (.cells #[] 3)) w2.heap.size (.slice (some ⟨w2.heap.size + 1, 0, none⟩) 0 0) [] := by
          have := OwnInts.empty (w2.drew.alloc (.cells #[.int .i64 n] 3)) w2.heap.size (by simp)
          simpa using this
        have hlB : ∀ (wA : World), ((w2.drew.alloc (.cells #[] 3)).alloc (.cells #[.int .i64 n] 3)).grownBy wA (some w2.heap.size) → IntsAt wA (.slice (some ⟨w2.heap.size + 1, 0, none⟩) 1 1) [n] := fun wA h => by
          have h1 := one_int' (w2.drew.alloc (.cells #[] 3)) n
          have h2 : IntsAt ((w2.drew.alloc (.cells #[] 3)).alloc (.cells #[.int .i64 n] 3)) (.slice (some ⟨w2.heap.size + 1, 0, none⟩) 1 1) [n] := by simpa using h1
          exact IntsAt.grown (l := [n]) h2 h (by intro i hi; simp)
        have hlC : ∀ (wA : World), ((w2.drew.alloc (.cells #[.int .i64 n] 3)).alloc (.cells #[] 3)).grownBy wA (some (w2.heap.size + 1)) → IntsAt wA (.slice (some ⟨w2.heap.size, 0, none⟩) 1 1) [n] := fun wA h => by
          have h1 := (one_int' w2.drew n).below (int_below (Below.refl _ _) (.cells #[] 3))
          exact IntsAt.grown (l := [n]) h1 h (by intro i hi; simp)
        have hbs : ∀ w', Below w2.heap.size w2 w' → w2.heap.size ≤ w'.heap.size := fun w' h => h.size
        clear hhas hb2 hu1 hu2 x0 x2 x3 hlt2
        go_wp2_with fail
        clear x1
        go_region_held3 (fun w' => w'.cell? ⟨w.heap.size, 1, none⟩ = some (.int .i64 n) ∧ Below w2.heap.size w2 w')
          (first
            | exact HS _ (Below.refl _ _).drew
            | (go_split_ands; exact HS _ (int_below (by assumption) _))
            | (go_split_ands; exact HS _ (Below.grown (by assumption) hg2 (hbs _ (by assumption)) ho1.lt))
            | (go_split_ands; exact HS _ (Below.grown (by assumption) hg1 (hbs _ (by assumption)) (by intro b e; cases e; simp))))
          (first
            | (refine step_append_ints rfl (.tmp 16) (.tmp 17) rfl w2.heap.size (.slice (some ⟨w2.heap.size, 0, none⟩) 0 0) _ [] l rfl rfl (OwnInts.empty w2.drew _ (Nat.le_refl _)) (hsrcU _ (by go_split_ands; assumption)) (by simp; omega) (hbs _ (by go_split_ands; assumption)) ?_; intro v1 wA ho1 hg1 hat1; rw [List.nil_append] at ho1; obtain ⟨a1', c1', e1⟩ := ho1.form; subst e1)
            | (refine step_append_ints rfl (.tmp 16) (.tmp 17) rfl w2.heap.size (.slice (some ⟨w2.heap.size, 0, none⟩) 0 0) _ [] l rfl rfl ((OwnInts.empty w2.drew _ (Nat.le_refl _)).alloc _) (hsrcU _ (by go_split_ands; assumption)) (by simp; omega) (hbs _ (by go_split_ands; assumption)) ?_; intro v1 wA ho1 hg1 hat1; rw [List.nil_append] at ho1; obtain ⟨a1', c1', e1⟩ := ho1.form; subst e1)
            | (refine step_append_ints rfl (.tmp 16) (.tmp 17) rfl w2.heap.size (.slice (some ⟨w2.heap.size + 1, 0, none⟩) 0 0) _ [] l rfl rfl hownC (hsrcU _ (by go_split_ands; assumption)) (by simp; omega) (hbs _ (by go_split_ands; assumption)) ?_; intro v1 wA ho1 hg1 hat1; rw [List.nil_append] at ho1; obtain ⟨a1', c1', e1⟩ := ho1.form; subst e1)
            | (refine step_append_ints rfl (.tmp 18) (.tmp 21) rfl w2.heap.size (.slice a1' l.length c1') _ l [n] rfl rfl (ho1.alloc _) (one_int' _ _) (by simp; omega) (hbs _ (by go_split_ands; assumption)) ?_; intro v2 wB ho2 hg2 hat2; obtain ⟨a2', c2', e2⟩ := ho2.form; subst e2)
            | (refine step_append_ints rfl (.tmp 18) (.tmp 21) rfl w2.heap.size (.slice a1' l.length c1') _ l [n] rfl rfl ho1 (hlB _ hg1) (by simp; omega) (hbs _ (by go_split_ands; assumption)) ?_; intro v2 wB ho2 hg2 hat2; obtain ⟨a2', c2', e2⟩ := ho2.form; subst e2)
            | (refine step_append_ints rfl (.tmp 18) (.tmp 21) rfl w2.heap.size (.slice a1' l.length c1') _ l [n] rfl rfl ho1 (hlC _ hg1) (by simp; omega) (hbs _ (by go_split_ands; assumption)) ?_; intro v2 wB ho2 hg2 hat2; obtain ⟨a2', c2', e2⟩ := ho2.form; subst e2))
        all_goals
          have hbB : Below w2.heap.size w2 wB := by go_split_ands; assumption
          have hI2 := ho2.ints
          obtain ⟨l2, hl2⟩ : ∃ l2, l2 = l ++ [n] := ⟨_, rfl⟩
          have hlen2 : (l ++ [n]).length = l2.length := by rw [hl2]
          rw [← hl2] at hI2 HF
          have HL2 : Hid (l2.length ≤ l.length + 1) := by show _ ≤ _; rw [hl2]; simp
          have H2 : Hid (IntsAt wB (.slice a2' l2.length c2') l2 ∧ Below w1.heap.size w1 wB) := ⟨hI2, HB2.out.trans (hbB.mono HB2.out.size)⟩
          have hq : l.length + 1 = l2.length := by rw [hl2]; simp
          try rw [hlen2]
          clear hl2 hlen2 hI2 hbB ho1 ho2 hg1 hg2 hat1 hat2 HS hsrcU hownC hlB hlC hbs HB2
          try rw [hq]
          clear hq
          go_wp2_with fail
          go_loopw [0, 5] (fun x i wr => ∃ c : Nat, i = .int .i64 c ∧ c ≤ ks.length ∧ IntsAt wr x ((Tm.partss 1 (ks.take c)).foldl addV l2) ∧ Below w1.heap.size w1 wr) (fun _ i _ => ks.length - (intOf i).toNat)
          case atStart => exact ⟨0, rfl, Nat.zero_le _, by simpa [Tm.partss_nil] using H2.out.1, H2.out.2⟩
          case round =>
            obtain ⟨c, rfl, hcl, hI, hB⟩ := hrel
            obtain ⟨aI, cI, eI, _⟩ := id hI
            subst eI
            obtain ⟨b0, b1, b2, b3⟩ := tbox_cells (tbox_below HH.out.2.2.2 hB)
            have hwr : Below w.heap.size w wr := HH.out.2.2.1.trans (hB.mono HH.out.2.2.1.size)
            by_cases hlt : c < ks.length
            · obtain ⟨b, o, k1, n1, s1, a1, l1, c1, T1, rfl, hbn, e0, e1, e2, e3, hT1, ht1⟩ := IsTm.kid hv c hlt
              have q0 := (hwr.cell (p := ⟨b, o + c * 4, none⟩) hbn).trans e0
              have q1 := (hwr.cell (p := ⟨b, o + c * 4 + 1, none⟩) hbn).trans e1
              have q2 := (hwr.cell (p := ⟨b, o + c * 4 + 2, none⟩) hbn).trans e2
              have q3 := (hwr.cell (p := ⟨b, o + c * 4 + 3, none⟩) hbn).trans e3
              have hLl := foldl_len_le (Tm.partss 1 (ks.take c)) l2
              rw [Tm.partss_length (fun t _ d => t.parts_length d)] at hLl
              have hts := Tm.take_succ_sizes ks c T1 hT1
              have htl := Tm.sizes_take_le ks (c + 1)
              have hl2 := HL2.out
              have hsz := HH.out.1
              have hih := (ih T1 (List.mem_of_getElem? hT1) _ _ _ wr hI (IsTm.later hwr hwr.size ht1) (by omega)).mono (R' := fun e w2 => ∃ a9 c9, e = .returned (.slice a9 ((Tm.partss 1 (ks.take (c + 1))).foldl addV l2).length c9) ∧ IntsAt w2 (.slice a9 ((Tm.partss 1 (ks.take (c + 1))).foldl addV l2).length c9) ((Tm.partss 1 (ks.take (c + 1))).foldl addV l2) ∧ Below w1.heap.size w1 w2) (fun e w2 h => by
                obtain ⟨r, rfl, hr, hb⟩ := h
                have e : (T1.parts 1).foldl addV ((Tm.partss 1 (ks.take c)).foldl addV l2) = (Tm.partss 1 (ks.take (c + 1))).foldl addV l2 := by rw [Tm.take_succ_partss _ _ _ _ hT1, List.foldl_append]
                rw [e] at hr
                obtain ⟨a9, c9, e9, _⟩ := id hr
                subst e9
                exact ⟨a9, c9, rfl, hr, hB.trans (hb.mono hB.size)⟩)
              generalize hX : (Tm.partss 1 (ks.take c)).foldl addV l2 = X at *
              generalize hY : (Tm.partss 1 (ks.take (c + 1))).foldl addV l2 = Y at *
              have HY := Lib.hid hY
              clear e0 e1 e2 e3 hT1 ht1 hLl hts htl hl2 hsz hX hY hI
              go_wp2_with fail
              refine hih.mono ?_
              rintro e w2 ⟨a9, c9, rfl, hr, hb2⟩
              clear hih
              have HR := Lib.hid (And.intro hr hb2)
              clear hr hb2
              go_wp2_with fail
              go_roundw
              case rel => exact ⟨c + 1, by simp, hlt, by rw [HY.out]; exact HR.out.1, HR.out.2⟩
              case measure => simp [intOf]; omega
            · have hce : c = ks.length := by omega
              subst hce
              rw [List.take_length] at hI
              have HI := Lib.hid (And.intro hI hwr)
              clear hI hwr hB
              rw [List.take_length]
              generalize hX : (Tm.partss 1 ks).foldl addV l2 = X at *
              have HX := Lib.hid hX
              clear hX
              go_wp2_with fail
              go_ret
              refine ⟨_, rfl, ?_, HI.out.2⟩
              rw [HF.out]
              exact HI.out.1
    · have HF : Hid (((Tm.mk k n s ks).parts 1).foldl addV l = (Tm.partss 1 ks).foldl addV l) := by
        show _ = _
        rw [hfold]; congr 1
        show (if k = 1 then addNew l n else l) = l
        rw [if_neg hk1]
      have hkb : (k == 1) = false := by simpa using hk1
      obtain ⟨l2, hl2⟩ : ∃ l2, l2 = l := ⟨_, rfl⟩
      rw [← hl2] at HF hu1 hll ⊢
      have HL2 : Hid (l2.length ≤ l.length + 1) := by show _ ≤ _; rw [hl2]; omega
      clear hfold hl2
      have H2 := Lib.hid (And.intro hu1 (Below.refl w1.heap.size w1))
      clear hu1
      go_enter Try.func43, Try.ntmps43
      have HW := HH.out.2.1
      clear HW
      go_wp2_with fail
      rw [← HH.out.2.1]
      go_loopw [0, 5] (fun x i wr => ∃ c : Nat, i = .int .i64 c ∧ c ≤ ks.length ∧ IntsAt wr x ((Tm.partss 1 (ks.take c)).foldl addV l2) ∧ Below w1.heap.size w1 wr) (fun _ i _ => ks.length - (intOf i).toNat)
      case atStart => exact ⟨0, rfl, Nat.zero_le _, by simpa [Tm.partss_nil] using H2.out.1, H2.out.2⟩
      case round =>
        obtain ⟨c, rfl, hcl, hI, hB⟩ := hrel
        obtain ⟨aI, cI, eI, _⟩ := id hI
        subst eI
        obtain ⟨b0, b1, b2, b3⟩ := tbox_cells (tbox_below HH.out.2.2.2 hB)
        have hwr : Below w.heap.size w wr := HH.out.2.2.1.trans (hB.mono HH.out.2.2.1.size)
        by_cases hlt : c < ks.length
        · obtain ⟨b, o, k1, n1, s1, a1, l1, c1, T1, rfl, hbn, e0, e1, e2, e3, hT1, ht1⟩ := IsTm.kid hv c hlt
          have q0 := (hwr.cell (p := ⟨b, o + c * 4, none⟩) hbn).trans e0
          have q1 := (hwr.cell (p := ⟨b, o + c * 4 + 1, none⟩) hbn).trans e1
          have q2 := (hwr.cell (p := ⟨b, o + c * 4 + 2, none⟩) hbn).trans e2
          have q3 := (hwr.cell (p := ⟨b, o + c * 4 + 3, none⟩) hbn).trans e3
          have hLl := foldl_len_le (Tm.partss 1 (ks.take c)) l2
          rw [Tm.partss_length (fun t _ d => t.parts_length d)] at hLl
          have hts := Tm.take_succ_sizes ks c T1 hT1
          have htl := Tm.sizes_take_le ks (c + 1)
          have hl2 := HL2.out
          have hsz := HH.out.1
          have hih := (ih T1 (List.mem_of_getElem? hT1) _ _ _ wr hI (IsTm.later hwr hwr.size ht1) (by omega)).mono (R' := fun e w2 => ∃ a9 c9, e = .returned (.slice a9 ((Tm.partss 1 (ks.take (c + 1))).foldl addV l2).length c9) ∧ IntsAt w2 (.slice a9 ((Tm.partss 1 (ks.take (c + 1))).foldl addV l2).length c9) ((Tm.partss 1 (ks.take (c + 1))).foldl addV l2) ∧ Below w1.heap.size w1 w2) (fun e w2 h => by
            obtain ⟨r, rfl, hr, hb⟩ := h
            have e : (T1.parts 1).foldl addV ((Tm.partss 1 (ks.take c)).foldl addV l2) = (Tm.partss 1 (ks.take (c + 1))).foldl addV l2 := by rw [Tm.take_succ_partss _ _ _ _ hT1, List.foldl_append]
            rw [e] at hr
            obtain ⟨a9, c9, e9, _⟩ := id hr
            subst e9
            exact ⟨a9, c9, rfl, hr, hB.trans (hb.mono hB.size)⟩)
          generalize hX : (Tm.partss 1 (ks.take c)).foldl addV l2 = X at *
          generalize hY : (Tm.partss 1 (ks.take (c + 1))).foldl addV l2 = Y at *
          have HY := Lib.hid hY
          clear e0 e1 e2 e3 hT1 ht1 hLl hts htl hl2 hsz hX hY hI
          go_wp2_with fail
          refine hih.mono ?_
          rintro e w2 ⟨a9, c9, rfl, hr, hb2⟩
          clear hih
          have HR := Lib.hid (And.intro hr hb2)
          clear hr hb2
          go_wp2_with fail
          go_roundw
          case rel => exact ⟨c + 1, by simp, hlt, by rw [HY.out]; exact HR.out.1, HR.out.2⟩
          case measure => simp [intOf]; omega
        · have hce : c = ks.length := by omega
          subst hce
          rw [List.take_length] at hI
          have HI := Lib.hid (And.intro hI hwr)
          clear hI hwr hB
          rw [List.take_length]
          generalize hX : (Tm.partss 1 ks).foldl addV l2 = X at *
          have HX := Lib.hid hX
          clear hX
          go_wp2_with fail
          go_ret
          refine ⟨_, rfl, ?_, HI.out.2⟩
          rw [HF.out]
          exact HI.out.1

end Go.Proofs.Ytlnggaepmclbkaa

namespace Go.Proofs.Ytlnggaepmclbkaa
open Go.RowKit Go.Shelf
set_option linter.unusedVariables false

theorem ints_nil (w : World) : IntsAt w (.slice none 0 0) [] := ⟨none, 0, rfl, Nat.le_refl _, Nat.zero_le _, fun _ => rfl, fun i hi => absurd hi (Nat.not_lt_zero _)⟩

set_option maxRecDepth 100000 in
set_option maxHeartbeats 2000000 in
theorem rvars_at (v : Value) (T : Tm) (w : World) (hv : Has w v T) (hs : T.size ≤ 1000000000) :
    Calls Try.prog 35 #[v] w fun e w' => ∃ a c, e = .returned (.slice a T.vars.length c) ∧ IntsAt w' (.slice a T.vars.length c) T.vars ∧ Below w.heap.size w w' := by
  obtain ⟨k, n, s, a, len, cap, ks, rfl, e, -⟩ := hv.form
  clear e
  have hg := fun w1 (hb : Below w.heap.size w w1) => (gather_at T [] _ _ w1 (ints_nil w1) (hv.below hb) (by simpa using hs)).mono (R' := fun e w' => ∃ a c, e = .returned (.slice a T.vars.length c) ∧ IntsAt w' (.slice a T.vars.length c) T.vars ∧ Below w.heap.size w w') (fun e w' h => by
    obtain ⟨r, rfl, hr, hb'⟩ := h
    obtain ⟨a, c, e9, _⟩ := id hr
    subst e9
    exact ⟨a, c, rfl, hr, hb.trans (hb'.mono hb.size)⟩)
  generalize T.vars = V at *
  have hB1 : ∀ o, Below w.heap.size w (w.alloc o) := fun o => (Below.refl _ w).alloc (Nat.le_refl _) o
  clear hv hs
  go_enter Try.func35, Try.ntmps35
  go_wp2_with (go_at_call 43; refine (hg _ (by first | exact hB1 _ | exact Below.refl _ _)).mono ?_; rintro e w2 ⟨a9, c9, rfl, hr, hb⟩)
  go_ret
  exact ⟨_, _, rfl, hr, hb⟩

end Go.Proofs.Ytlnggaepmclbkaa
