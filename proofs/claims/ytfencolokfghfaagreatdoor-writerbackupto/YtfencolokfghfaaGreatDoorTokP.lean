/-
  The walks of Plain and of Quote.
-/
import Derived.Test.YtfencolokfghfaaGreatDoorTokO
namespace Go.Proofs.YtfencolokfghfaaGreatDoor
open Go.RowKit Go.Lib
set_option linter.unusedVariables false

/-- Does a name need no marks? -/
def plainB (l : List UInt8) : Bool :=
  if l = [] ∨ l = [46] then false
  else if l = [91, 93] ∨ l = [33] ∨ l = [59] then true
  else (lowB (l.headD 0) && decide (pre wordB l = l.length)) || decide (pre symB l = l.length)
def escB (c : UInt8) : List UInt8 := if c = 39 ∨ c = 92 then [c, c] else if c = 10 then [92, 110] else [c]
def escL : List UInt8 → List UInt8
  | [] => []
  | c :: l => escB c ++ escL l
theorem escL_append : ∀ a b, escL (a ++ b) = escL a ++ escL b
  | [], b => rfl
  | c :: a, b => by simp [escL, escL_append a b]
def quoteL (l : List UInt8) : List UInt8 := if plainB l = true then l else 39 :: escL l ++ [39]
theorem escL_length : ∀ l, (escL l).length ≤ 2 * l.length
  | [] => by simp [escL]
  | c :: l => by
    have := escL_length l
    have h : (escB c).length ≤ 2 := by
      unfold escB
      split
      · simp
      · split <;> simp
    simp [escL]; omega

theorem toList_beq {s : ByteArray} {l : List UInt8} (hs : s.data.toList = l) (r : List UInt8) : (s.toList == r) = decide (l = r) := by
  rw [ByteArray.toList_eq, hs, Bool.eq_iff_iff]; simp

set_option maxRecDepth 100000 in
set_option maxHeartbeats 4000000 in
theorem plain_at (s : ByteArray) (l : List UInt8) (hs : s.data.toList = l) (w : World) (hm : s.size ≤ 1000000000000000) :
    Calls Tryz.prog 71 #[.string s] w (Ans w (.bool (plainB l))) := by
  have q0 := toList_beq hs []
  have q1 := toList_beq hs [46]
  have q2 := toList_beq hs [91, 93]
  have q3 := toList_beq hs [33]
  have q4 := toList_beq hs [59]
  have hk := byteKinds_at w
  obtain ⟨hl1, hl2⟩ := len_le hs
  have hv : plainB l = if decide (l = []) = true ∨ decide (l = [46]) = true then false
      else if decide (l = [91, 93]) = true ∨ decide (l = [33]) = true ∨ decide (l = [59]) = true then true
      else (lowB (l.headD 0) && decide (pre wordB l = l.length)) || decide (pre symB l = l.length) := by
    unfold plainB; simp only [decide_eq_true_eq]
  have hd0 : decide (l = []) = false → ∃ c, s[0]? = some c ∧ 0 < s.size ∧ l.headD 0 = c := fun h => by
    cases l with
    | nil => simp at h
    | cons c r =>
      have : 0 < s.size := by rw [len_of hs]; simp
      obtain ⟨d, hd, hg⟩ := get_of hs this
      exact ⟨c, by simp at hd; rw [getElem?_pos s 0 this, hg, hd], this, rfl⟩
  have rW := fun {m : Nat} {W : World} {g : Nat} {lb : Array Value} (C : Cl m W g lb wordB) => run_at m W s l hs (by omega) g lb wordB C
  have rS := fun {m : Nat} {W : World} {g : Nat} {lb : Array Value} (C : Cl m W g lb symB) => run_at m W s l hs (by omega) g lb symB C
  have eW : ((pre wordB l : Int) == (s.size : Int)) = decide (pre wordB l = l.length) := by rw [Bool.eq_iff_iff]; simp; omega
  have eS : ((pre symB l : Int) == (s.size : Int)) = decide (pre symB l = l.length) := by rw [Bool.eq_iff_iff]; simp; omega
  generalize decide (l = []) = b0 at *
  generalize decide (l = [46]) = b1 at *
  generalize decide (l = [91, 93]) = b2 at *
  generalize decide (l = [33]) = b3 at *
  generalize decide (l = [59]) = b4 at *
  generalize decide (pre wordB l = l.length) = bw at *
  generalize decide (pre symB l = l.length) = bs at *
  generalize pre wordB l = nW at *
  generalize pre symB l = nS at *
  cases b0
  · obtain ⟨c, hg', hne, hh⟩ := hd0 rfl
    have hg : s[0] = c := by rw [getElem?_pos s 0 hne] at hg'; exact Option.some.inj hg'
    rw [hh] at hv
    clear hd0 hg' hh hs
    cases b1
    · cases b2
      · cases b3
        · cases b4
          · simp only [Bool.false_eq_true, or_self, if_false] at hv
            rw [hv]
            clear hv
            generalize hL : lowB c = bL
            cases bL
            · cases bs
              · go_enter Tryz.func71, Tryz.ntmps71
                go_wp2_with (go_at_call 40; refine hk.mono ?_; rintro e w1 ⟨k, rfl, K, hb1⟩; obtain ⟨g0, g1, g2, g3, g4, g5, g6, x0, x1, x2, x3, x4, x5, x6⟩ := k; unfold fcells; dsimp only)
                have hB3 : Below w1.heap.size w1 (w1.alloc (.cells #[.func (.func g0) #[] x0, .func (.func g1) #[] x1, .func (.func g2) #[] x2, .func (.func g3) #[] x3, .func (.func g4) #[] x4, .func (.func g5) #[] x5, .func (.func g6) #[] x6] 83)) := bel_al (Below.refl _ _) _
                have kL := fun q => K.low.1 ((w1.alloc (.cells #[.func (.func g0) #[] x0, .func (.func g1) #[] x1, .func (.func g2) #[] x2, .func (.func g3) #[] x3, .func (.func g4) #[] x4, .func (.func g5) #[] x5, .func (.func g6) #[] x6] 83)).drewN q) c (.of_below (below_drewN' hB3 q))
                have kW := fun q => rW (K.word.later (below_drewN' hB3 q))
                have kS := fun q => rS (K.sym.later (below_drewN' hB3 q))
                have eL := K.low.2
                unfold FnGives encB at kL
                dsimp only at kL kW kS eL
                rw [hL] at kL
                clear rW rS K hk hL
                go_quiet (first | (go_at_fn g0; exact Calls.quiet_of (kL _)) | (go_at_call 59; exact Calls.quiet_of (kW _)))
                go_wp2_with (go_at_call 59; refine (kS _).mono ?_; rintro e w' ⟨rfl, q, rfl⟩)
                go_ret
                exact ⟨rfl, bel hb1 (below_drewN' hB3 _)⟩
              · go_enter Tryz.func71, Tryz.ntmps71
                go_wp2_with (go_at_call 40; refine hk.mono ?_; rintro e w1 ⟨k, rfl, K, hb1⟩; obtain ⟨g0, g1, g2, g3, g4, g5, g6, x0, x1, x2, x3, x4, x5, x6⟩ := k; unfold fcells; dsimp only)
                have hB3 : Below w1.heap.size w1 (w1.alloc (.cells #[.func (.func g0) #[] x0, .func (.func g1) #[] x1, .func (.func g2) #[] x2, .func (.func g3) #[] x3, .func (.func g4) #[] x4, .func (.func g5) #[] x5, .func (.func g6) #[] x6] 83)) := bel_al (Below.refl _ _) _
                have kL := fun q => K.low.1 ((w1.alloc (.cells #[.func (.func g0) #[] x0, .func (.func g1) #[] x1, .func (.func g2) #[] x2, .func (.func g3) #[] x3, .func (.func g4) #[] x4, .func (.func g5) #[] x5, .func (.func g6) #[] x6] 83)).drewN q) c (.of_below (below_drewN' hB3 q))
                have kW := fun q => rW (K.word.later (below_drewN' hB3 q))
                have kS := fun q => rS (K.sym.later (below_drewN' hB3 q))
                have eL := K.low.2
                unfold FnGives encB at kL
                dsimp only at kL kW kS eL
                rw [hL] at kL
                clear rW rS K hk hL
                go_quiet (first | (go_at_fn g0; exact Calls.quiet_of (kL _)) | (go_at_call 59; exact Calls.quiet_of (kW _)))
                go_wp2_with (go_at_call 59; refine (kS _).mono ?_; rintro e w' ⟨rfl, q, rfl⟩)
                go_ret
                exact ⟨rfl, bel hb1 (below_drewN' hB3 _)⟩
            · cases bw
              · cases bs
                · go_enter Tryz.func71, Tryz.ntmps71
                  go_wp2_with (go_at_call 40; refine hk.mono ?_; rintro e w1 ⟨k, rfl, K, hb1⟩; obtain ⟨g0, g1, g2, g3, g4, g5, g6, x0, x1, x2, x3, x4, x5, x6⟩ := k; unfold fcells; dsimp only)
                  have hB3 : Below w1.heap.size w1 (w1.alloc (.cells #[.func (.func g0) #[] x0, .func (.func g1) #[] x1, .func (.func g2) #[] x2, .func (.func g3) #[] x3, .func (.func g4) #[] x4, .func (.func g5) #[] x5, .func (.func g6) #[] x6] 83)) := bel_al (Below.refl _ _) _
                  have kL := fun q => K.low.1 ((w1.alloc (.cells #[.func (.func g0) #[] x0, .func (.func g1) #[] x1, .func (.func g2) #[] x2, .func (.func g3) #[] x3, .func (.func g4) #[] x4, .func (.func g5) #[] x5, .func (.func g6) #[] x6] 83)).drewN q) c (.of_below (below_drewN' hB3 q))
                  have kW := fun q => rW (K.word.later (below_drewN' hB3 q))
                  have kS := fun q => rS (K.sym.later (below_drewN' hB3 q))
                  have eL := K.low.2
                  unfold FnGives encB at kL
                  dsimp only at kL kW kS eL
                  rw [hL] at kL
                  clear rW rS K hk hL
                  go_quiet (first | (go_at_fn g0; exact Calls.quiet_of (kL _)) | (go_at_call 59; exact Calls.quiet_of (kW _)))
                  go_wp2_with (go_at_call 59; refine (kS _).mono ?_; rintro e w' ⟨rfl, q, rfl⟩)
                  go_ret
                  exact ⟨rfl, bel hb1 (below_drewN' hB3 _)⟩
                · go_enter Tryz.func71, Tryz.ntmps71
                  go_wp2_with (go_at_call 40; refine hk.mono ?_; rintro e w1 ⟨k, rfl, K, hb1⟩; obtain ⟨g0, g1, g2, g3, g4, g5, g6, x0, x1, x2, x3, x4, x5, x6⟩ := k; unfold fcells; dsimp only)
                  have hB3 : Below w1.heap.size w1 (w1.alloc (.cells #[.func (.func g0) #[] x0, .func (.func g1) #[] x1, .func (.func g2) #[] x2, .func (.func g3) #[] x3, .func (.func g4) #[] x4, .func (.func g5) #[] x5, .func (.func g6) #[] x6] 83)) := bel_al (Below.refl _ _) _
                  have kL := fun q => K.low.1 ((w1.alloc (.cells #[.func (.func g0) #[] x0, .func (.func g1) #[] x1, .func (.func g2) #[] x2, .func (.func g3) #[] x3, .func (.func g4) #[] x4, .func (.func g5) #[] x5, .func (.func g6) #[] x6] 83)).drewN q) c (.of_below (below_drewN' hB3 q))
                  have kW := fun q => rW (K.word.later (below_drewN' hB3 q))
                  have kS := fun q => rS (K.sym.later (below_drewN' hB3 q))
                  have eL := K.low.2
                  unfold FnGives encB at kL
                  dsimp only at kL kW kS eL
                  rw [hL] at kL
                  clear rW rS K hk hL
                  go_quiet (first | (go_at_fn g0; exact Calls.quiet_of (kL _)) | (go_at_call 59; exact Calls.quiet_of (kW _)))
                  go_wp2_with (go_at_call 59; refine (kS _).mono ?_; rintro e w' ⟨rfl, q, rfl⟩)
                  go_ret
                  exact ⟨rfl, bel hb1 (below_drewN' hB3 _)⟩
              · go_enter Tryz.func71, Tryz.ntmps71
                go_wp2_with (go_at_call 40; refine hk.mono ?_; rintro e w1 ⟨k, rfl, K, hb1⟩; obtain ⟨g0, g1, g2, g3, g4, g5, g6, x0, x1, x2, x3, x4, x5, x6⟩ := k; unfold fcells; dsimp only)
                have hB3 : Below w1.heap.size w1 (w1.alloc (.cells #[.func (.func g0) #[] x0, .func (.func g1) #[] x1, .func (.func g2) #[] x2, .func (.func g3) #[] x3, .func (.func g4) #[] x4, .func (.func g5) #[] x5, .func (.func g6) #[] x6] 83)) := bel_al (Below.refl _ _) _
                have kL := fun q => K.low.1 ((w1.alloc (.cells #[.func (.func g0) #[] x0, .func (.func g1) #[] x1, .func (.func g2) #[] x2, .func (.func g3) #[] x3, .func (.func g4) #[] x4, .func (.func g5) #[] x5, .func (.func g6) #[] x6] 83)).drewN q) c (.of_below (below_drewN' hB3 q))
                have kW := fun q => rW (K.word.later (below_drewN' hB3 q))
                have kS := fun q => rS (K.sym.later (below_drewN' hB3 q))
                have eL := K.low.2
                unfold FnGives encB at kL
                dsimp only at kL kW kS eL
                rw [hL] at kL
                clear rW rS K hk hL
                go_quiet (first | (go_at_fn g0; exact Calls.quiet_of (kL _)) | (go_at_call 59; exact Calls.quiet_of (kW _)))
                go_wp2_with (go_at_call 59; refine (kS _).mono ?_; rintro e w' ⟨rfl, q, rfl⟩)
                go_ret
                exact ⟨rfl, bel hb1 (below_drewN' hB3 _)⟩
          · have hv' : plainB l = true := by rw [hv]; simp
            rw [hv']
            clear hv hv' hk rW rS
            go_enter Tryz.func71, Tryz.ntmps71
            go_wp2_with fail
            go_ret
            exact ⟨rfl, Below.refl _ _⟩
        · have hv' : plainB l = true := by rw [hv]; simp
          rw [hv']
          clear hv hv' hk rW rS
          go_enter Tryz.func71, Tryz.ntmps71
          go_wp2_with fail
          go_ret
          exact ⟨rfl, Below.refl _ _⟩
      · have hv' : plainB l = true := by rw [hv]; simp
        rw [hv']
        clear hv hv' hk rW rS
        go_enter Tryz.func71, Tryz.ntmps71
        go_wp2_with fail
        go_ret
        exact ⟨rfl, Below.refl _ _⟩
    · have hv' : plainB l = false := by rw [hv]; simp
      rw [hv']
      clear hv hv' hk rW rS
      go_enter Tryz.func71, Tryz.ntmps71
      go_wp2_with fail
      go_ret
      exact ⟨rfl, Below.refl _ _⟩
  · have hv' : plainB l = false := by rw [hv]; simp
    rw [hv']
    clear hv hv' hk rW rS
    go_enter Tryz.func71, Tryz.ntmps71
    go_wp2_with fail
    go_ret
    exact ⟨rfl, Below.refl _ _⟩
end Go.Proofs.YtfencolokfghfaaGreatDoor
