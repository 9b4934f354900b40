/-
  The document's examples of layer 8, at the head of all statements.
-/
import Derived.Test.YtfencolokfghfaaDoorWrG
import Derived.Test.YtfencolokfghfaaDoorSame
namespace Go.Proofs.YtfencolokfghfaaDoor
open Go.Shelf Go.RowKit Go.Sort
set_option linter.unusedVariables false

theorem itoa1 : Lib.itoa 1 = [49] := by
  have := Lib.itoa_nonneg 1
  rw [Lib.decDigits_one (by decide)] at this
  exact this
theorem itoa3 : Lib.itoa (-3) = [45, 51] := by
  have := Lib.itoa_neg 3 (by decide)
  rw [Lib.decDigits_one (by decide)] at this
  exact this
def exW : Tm := .mk 3 0 (strV [102]) [.mk 1 1 (ByteArray.mk #[]) [], .mk 3 0 (strV [65]) []]
theorem exW_txt : exW.txt = [102, 40, 95, 49, 44, 39, 65, 39, 41] := by
  unfold exW
  simp only [Tm.txt_mk, Tm.txtc_cons, Tm.txtc_nil, itoa1, strV_list]
  decide
theorem exA_ans : ansL [ByteArray.mk #[88], ByteArray.mk #[95, 121]] [.mk 2 (-3) (ByteArray.mk #[]) [], .mk 2 4 (ByteArray.mk #[]) []] = [88, 32, 61, 32, 45, 51] := by
  have h1 : toldL [ByteArray.mk #[88], ByteArray.mk #[95, 121]] [.mk 2 (-3) (ByteArray.mk #[]) [], .mk 2 4 (ByteArray.mk #[]) []] 2 = [ByteArray.mk #[88] ++ ByteArray.mk #[32, 61, 32] ++ strV (Lib.itoa (-3))] := by
    have e1 : (Tm.mk 2 (-3) (ByteArray.mk #[]) []).txt = Lib.itoa (-3) := by rw [Tm.txt_mk]; rfl
    have e2 : tellO (ByteArray.mk #[88], .mk 2 (-3) (ByteArray.mk #[]) []) = some (ByteArray.mk #[88] ++ ByteArray.mk #[32, 61, 32] ++ strV (Lib.itoa (-3))) := by
      unfold tellO
      rw [if_neg (by decide), e1]
    have e3 : tellO (ByteArray.mk #[95, 121], .mk 2 4 (ByteArray.mk #[]) []) = none := by
      unfold tellO
      rw [if_pos (by decide)]
    unfold toldL
    simp [e2, e3]
  unfold ansL
  rw [show (List.zip [ByteArray.mk #[88], ByteArray.mk #[95, 121]] [Tm.mk 2 (-3) (ByteArray.mk #[]) [], Tm.mk 2 4 (ByteArray.mk #[]) []]).length = 2 from rfl, h1, itoa3]
  decide
theorem ans_nil : ansL [] [] = [121, 101, 115] := rfl
theorem hasNew8 {w w' : World} {v : Value} {T : Tm} (h : TmIn (fun b => w.heap.size ≤ b ∧ b < w'.heap.size) w' v T) : Has w' v T := h.carry (fun _ _ => rfl) (fun b hb => hb.2)
theorem NewTm.form8 {w w' : World} {T : Tm} {e : Ending} (h : NewTm w T e w') : ∃ k n s a l cp, e = .returned (.agg #[.int .i64 k, .int .i64 n, .string s, .slice a l cp]) ∧ Has w' (.agg #[.int .i64 k, .int .i64 n, .string s, .slice a l cp]) T ∧ Below w.heap.size w w' := by
  obtain ⟨r, rfl, hr, hb⟩ := h
  obtain ⟨k, n, s, a, len, cap, ks, rfl, -⟩ := hr.form
  exact ⟨k, n, s, a, len, cap, rfl, hasNew8 hr, hb⟩
theorem two_ts8 {q : Nat → Prop} {Z : World} {g : Nat} {k n : Int} {s : ByteArray} {a : Option Addr} {l c : Nat} {k' n' : Int} {s' : ByteArray} {a' : Option Addr} {l' c' : Nat} {x y : Tm} (hx : Z.heap[g]? = some (.cells #[.int .i64 k, .int .i64 n, .string s, .slice a l c, .int .i64 k', .int .i64 n', .string s', .slice a' l' c'] 24 (0, 0))) (hq : q g)
    (ht : TmIn q Z (.agg #[.int .i64 k, .int .i64 n, .string s, .slice a l c]) x) (ht' : TmIn q Z (.agg #[.int .i64 k', .int .i64 n', .string s', .slice a' l' c']) y) : TsIn q Z (.slice (some ⟨g, 0, none⟩) 2 2) [x, y] := by
  refine ⟨some ⟨g, 0, none⟩, 2, rfl, Nat.le_refl _, by unfold maxLen; omega, (fun e => by cases e), fun i hi => ?_⟩
  have e : i = 0 ∨ i = 1 := by simp at hi; omega
  rcases e with rfl | rfl
  · exact ⟨g, 0, k, n, s, a, l, c, rfl, hq, by simp [World.cell?, hx], by simp [World.cell?, hx], by simp [World.cell?, hx], by simp [World.cell?, hx], ht⟩
  · exact ⟨g, 0, k', n', s', a', l', c', rfl, hq, by simp [World.cell?, hx], by simp [World.cell?, hx], by simp [World.cell?, hx], by simp [World.cell?, hx], ht'⟩
theorem two8 {w : World} {k n : Int} {s : ByteArray} {a : Option Addr} {l c : Nat} {k' n' : Int} {s' : ByteArray} {a' : Option Addr} {l' c' : Nat} {x y : Tm} (hx : Has w (.agg #[.int .i64 k, .int .i64 n, .string s, .slice a l c]) x) (hy : Has w (.agg #[.int .i64 k', .int .i64 n', .string s', .slice a' l' c']) y) :
    HasTs (w.alloc (.cells #[.int .i64 k, .int .i64 n, .string s, .slice a l c, .int .i64 k', .int .i64 n', .string s', .slice a' l' c'] 24)) (.slice (some ⟨w.heap.size, 0, none⟩) 2 2) [x, y] := by
  have hb := bel_al (Below.refl w.heap.size w) (.cells #[.int .i64 k, .int .i64 n, .string s, .slice a l c, .int .i64 k', .int .i64 n', .string s', .slice a' l' c'] 24)
  exact two_ts8 (alloc_new _ _) (by simp) (hx.below hb) (hy.below hb)
theorem nil_ts (w : World) : HasTs w (.slice none 0 0) [] := ⟨none, 0, rfl, Nat.le_refl _, by unfold maxLen; omega, fun _ => rfl, fun i hi => by simp at hi⟩
theorem ans_none (w : World) (hT : TabP w) : Calls Tryd.prog 9 #[.slice none 0 0, .slice none 0 0] w fun e w' => e = .returned (.string (ByteArray.mk #[121, 101, 115])) ∧ Below w.heap.size w w' :=
  answer_at [] [] none 0 none 0 w (fun i s h => by simp at h) (Nat.le_refl _) (by unfold maxLen; omega) (fun _ => rfl) (nil_ts w) hT (fun t h => by cases h) (by simp) (by simp) (fun s h => by cases h)
theorem str_two {W : World} {g : Nat} {x y : ByteArray} (h : W.heap[g]? = some (.cells #[.string x, .string y] 9 (0, 0))) : StrIn W (some ⟨g, 0, none⟩) [x, y] := fun i s hs => by
  have hlt := (Array.getElem?_eq_some_iff.1 h).1
  have e : i = 0 ∨ i = 1 := by have := (List.getElem?_eq_some_iff.1 hs).1; simp at this; omega
  refine ⟨g, 0, rfl, hlt, ?_⟩
  rw [Lib.cell_of_heap h]
  rcases e with rfl | rfl
  · simp at hs; subst hs; rfl
  · simp at hs; subst hs; rfl
theorem ans_two (W4 W5 W6 : World) {k5 m5 : Int} {s5 : ByteArray} {a5 : Option Addr} {l5 c5 : Nat} {k6 m6 : Int} {s6 : ByteArray} {a6 : Option Addr} {l6 c6 : Nat}
    (hb5 : Below (W4.alloc (.cells #[.string (ByteArray.mk #[88]), .string (ByteArray.mk #[95, 121])] 9)).heap.size (W4.alloc (.cells #[.string (ByteArray.mk #[88]), .string (ByteArray.mk #[95, 121])] 9)) W5) (hb6 : Below W5.heap.size W5 W6)
    (hT5 : Has W5 (.agg #[.int .i64 k5, .int .i64 m5, .string s5, .slice a5 l5 c5]) (.mk 2 (-3) (ByteArray.mk #[]) [])) (hT6 : Has W6 (.agg #[.int .i64 k6, .int .i64 m6, .string s6, .slice a6 l6 c6]) (.mk 2 4 (ByteArray.mk #[]) []))
    (hT : TabP (W6.alloc (.cells #[.int .i64 k5, .int .i64 m5, .string s5, .slice a5 l5 c5, .int .i64 k6, .int .i64 m6, .string s6, .slice a6 l6 c6] 24))) :
    Calls Tryd.prog 9 #[.slice (some ⟨W4.heap.size, 0, none⟩) 2 2, .slice (some ⟨W6.heap.size, 0, none⟩) 2 2] (W6.alloc (.cells #[.int .i64 k5, .int .i64 m5, .string s5, .slice a5 l5 c5, .int .i64 k6, .int .i64 m6, .string s6, .slice a6 l6 c6] 24)) fun e w' => e = .returned (.string (ByteArray.mk #[88, 32, 61, 32, 45, 51])) ∧ Below (W6.alloc (.cells #[.int .i64 k5, .int .i64 m5, .string s5, .slice a5 l5 c5, .int .i64 k6, .int .i64 m6, .string s6, .slice a6 l6 c6] 24)).heap.size (W6.alloc (.cells #[.int .i64 k5, .int .i64 m5, .string s5, .slice a5 l5 c5, .int .i64 k6, .int .i64 m6, .string s6, .slice a6 l6 c6] 24)) w' := by
  have hx : (W6.alloc (.cells #[.int .i64 k5, .int .i64 m5, .string s5, .slice a5 l5 c5, .int .i64 k6, .int .i64 m6, .string s6, .slice a6 l6 c6] 24)).heap[W4.heap.size]? = some (.cells #[.string (ByteArray.mk #[88]), .string (ByteArray.mk #[95, 121])] 9 (0, 0)) :=
    (Below.block (bel_al (bel hb5 hb6) _) _ (by simp)).trans (alloc_new _ _)
  have h := answer_at [ByteArray.mk #[88], ByteArray.mk #[95, 121]] [.mk 2 (-3) (ByteArray.mk #[]) [], .mk 2 4 (ByteArray.mk #[]) []] (some ⟨W4.heap.size, 0, none⟩) 2 (some ⟨W6.heap.size, 0, none⟩) 2 _ (str_two hx) (by simp) (by unfold maxLen; omega) (fun e => by cases e) (two8 (hT5.below hb6) hT6) hT
    (fun t ht => by
      simp at ht
      rcases ht with rfl | rfl
      · exact ⟨by decide +kernel, by decide +kernel⟩
      · exact ⟨by decide +kernel, by decide +kernel⟩) (by simp) (by simp) (fun s hs => by
      simp at hs
      rcases hs with rfl | rfl
      · decide
      · decide)
  rw [exA_ans] at h
  exact h
set_option maxRecDepth 100000 in
set_option maxHeartbeats 4000000 in
theorem shown8_at (w : World) (hT : TabP w) : Calls Tryd.prog 5 #[] w (Gets w (.bool true)) := by
  have hn3 := fun W => num_at (-3) W ⟨by decide, by decide⟩
  have hn4 := fun W => num_at 4 W ⟨by decide, by decide⟩
  have hle := fun W => let_at 1 W ⟨by decide, by decide⟩
  have hat := fun W => atom_at (ByteArray.mk #[65]) W (by decide)
  have hz := zeroTerm
  go_enter Tryd.func5, Tryd.ntmps5
  go_wp2_with (first
    | (go_at_call 15; refine (hle _).mono ?_; rintro e W1 h4; obtain ⟨k1, m1, s1, a1, l1, c1, rfl, hT1, hb1⟩ := h4.form8)
    | (go_at_call 16; refine (hat _).mono ?_; rintro e W2 h4; obtain ⟨k2, m2, s2, a2, l2, c2, rfl, hT2, hb2⟩ := h4.form8; have hmk := make_at (ByteArray.mk #[102]) _ _ _ (by decide) (two8 (hT1.below hb2) hT2) (by simp only [Tm.sizes_cons, Tm.sizes_nil, Tm.size_mk]; decide))
    | (go_at_call 14; refine hmk.mono ?_; rintro e W3 h4; obtain ⟨k3, m3, s3, a3, l3, c3, rfl, hT3, hb3'⟩ := h4.form8; have hb3 : Below w.heap.size w W3 := bel (bel_al (bel hb1 hb2) _) hb3'; have htx := text_at exW _ W3 hT3 (hT.later hb3) (by decide +kernel) (by decide +kernel); rw [exW_txt] at htx; have htx' : Calls Tryd.prog 7 #[.agg #[.int .i64 k3, .int .i64 m3, .string s3, .slice a3 l3 c3]] W3 (fun e w' => e = .returned (.string (ByteArray.mk #[102, 40, 95, 49, 44, 39, 65, 39, 41])) ∧ Below W3.heap.size W3 w') := htx)
    | (go_at_call 7; refine htx'.mono ?_; rintro e W4 ⟨rfl, hb4'⟩; have hb4 := bel hb3 hb4')
    | (go_at_call 17; (with_reducible refine (hn3 _).mono ?_); rintro e W5 h4; obtain ⟨k5, m5, s5, a5, l5, c5, rfl, hT5, hb5'⟩ := h4.form8; have hb5 := bel (bel_al hb4 (.cells #[.string (ByteArray.mk #[88]), .string (ByteArray.mk #[95, 121])] 9)) hb5')
    | (go_at_call 17; (with_reducible refine (hn4 _).mono ?_); rintro e W6 h4; obtain ⟨k6, m6, s6, a6, l6, c6, rfl, hT6, hb6'⟩ := h4.form8; have hb6 := bel hb5 hb6'; have hans := ans_two W4 W5 W6 hb5' hb6' hT5 hT6 (hT.later (bel_al hb6 (.cells #[.int .i64 k5, .int .i64 m5, .string s5, .slice a5 l5 c5, .int .i64 k6, .int .i64 m6, .string s6, .slice a6 l6 c6] 24))))
    | (go_at_call 9; (with_reducible refine hans.mono ?_); rintro e W8 ⟨rfl, hb8'⟩; have hb8 := bel (bel_al hb6 _) hb8'; have hno := ans_none W8 (hT.later hb8))
    | (go_at_call 9; (with_reducible refine hno.mono ?_); rintro e W9 ⟨rfl, hb9⟩))
  go_ret
  exact ⟨rfl, bel hb8 hb9⟩
end Go.Proofs.YtfencolokfghfaaDoor
