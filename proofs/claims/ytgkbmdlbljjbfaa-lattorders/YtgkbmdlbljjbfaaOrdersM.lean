/-
  The reference's answers are those of the closed table: plain mathematics.
-/
import Derived.Test.YtgkbmdlbljjbfaaRef4
namespace Go.Proofs.Ytgkbmdlbljjbfaa
open Go.RowKit

theorem War_mono (F : Nat → Nat → Bool) (a b : Nat) (h : F a b = true) : ∀ c, War F c a b = true
  | 0 => h
  | c + 1 => by show (War F c a b || (War F c a c && War F c c b)) = true; rw [War_mono F a b h c]; rfl

theorem War_trans (F : Nat → Nat → Bool) : ∀ c k a b, k < c → War F c a k = true → War F c k b = true → War F c a b = true
  | 0, k, a, b, hk, _, _ => by omega
  | c + 1, k, a, b, hk, h1, h2 => by
    have ih := War_trans F c
    simp only [War, Bool.or_eq_true, Bool.and_eq_true] at h1 h2 ⊢
    by_cases e : k = c
    · subst e
      have g1 : War F k a k = true := by rcases h1 with h1 | h1; exact h1; exact h1.1
      have g2 : War F k k b = true := by rcases h2 with h2 | h2; exact h2; exact h2.2
      exact Or.inr ⟨g1, g2⟩
    · have hk' : k < c := by omega
      rcases h1 with h1 | ⟨h1, h3⟩
      · rcases h2 with h2 | ⟨h2, h4⟩
        · exact Or.inl (ih k a b hk' h1 h2)
        · exact Or.inr ⟨ih k a c hk' h1 h2, h4⟩
      · rcases h2 with h2 | ⟨_, h4⟩
        · exact Or.inr ⟨h1, ih k c b hk' h3 h2⟩
        · exact Or.inr ⟨h1, h4⟩

theorem War_sound {n : Nat} {ps : List (Int × Int)} : ∀ c, c ≤ n → ∀ a b, a < n → b < n → War (baseTab ps) c a b = true → Star (Rel n (tab ps)) a b
  | 0, _, a, b, ha, hb, h => by
    simp only [War, baseTab, Bool.or_eq_true, decide_eq_true_eq] at h
    rcases h with h | h
    · rw [h]; exact .refl _
    · exact .one ⟨ha, hb, h⟩
  | c + 1, hc, a, b, ha, hb, h => by
    simp only [War, Bool.or_eq_true, Bool.and_eq_true] at h
    rcases h with h | ⟨h1, h2⟩
    · exact War_sound c (by omega) a b ha hb h
    · exact (War_sound c (by omega) a c ha (by omega) h1).trans (War_sound c (by omega) c b (by omega) hb h2)

theorem War_iff {n : Nat} {ps : List (Int × Int)} {U D : Nat → Nat → Bool} (h : IsTab n ps U D) (a b : Nat) (ha : a < n) (hb : b < n) : U a b = true ↔ War (baseTab ps) n a b = true :=
  h.eq (fun a b => War (baseTab ps) n a b = true) (fun a _ => War_mono _ a a (by simp [baseTab]) n) (fun a _ b hb c _ h1 h2 => War_trans _ n b a c hb h1 h2) (fun a _ b _ h => War_mono _ a b (by simp [baseTab, h]) n)
    (fun a b ha hb h => War_sound n (Nat.le_refl _) a b ha hb h) a b ha hb

theorem leq_same {n : Nat} {ps : List (Int × Int)} {U D : Nat → Nat → Bool} (h : IsTab n ps U D) (x y : Int) : leqB n (War (baseTab ps) n) x y = leqB n U x y := by
  unfold leqB
  cases hx : hasB n x
  · rfl
  · cases hy : hasB n y
    · rfl
    · have h1 := hasB_true.1 hx
      have h2 := hasB_true.1 hy
      rw [Bool.eq_iff_iff]
      simp only [Bool.and_true, Bool.true_and]
      exact (War_iff h x.toNat y.toNat (by omega) (by omega)).symm

theorem allTo_iff {p : Nat → Bool} : ∀ d, allTo p d = true ↔ ∀ i, i < d → p i = true
  | 0 => by simp [allTo]
  | d + 1 => by
    rw [allTo, Bool.and_eq_true, allTo_iff d]
    constructor
    · rintro ⟨h1, h2⟩ i hi
      by_cases e : i = d
      · rw [e]; exact h2
      · exact h1 i (by omega)
    · intro h; exact ⟨fun i hi => h i (by omega), h d (by omega)⟩

theorem firstFrom_spec (p : Nat → Bool) : ∀ k c, (firstFrom p c k = -1 ∧ ∀ i, c ≤ i → i < c + k → p i = false) ∨ ∃ i : Nat, c ≤ i ∧ i < c + k ∧ firstFrom p c k = i ∧ p i = true
  | 0, c => Or.inl ⟨rfl, fun i h1 h2 => by omega⟩
  | k + 1, c => by
    rw [firstFrom]
    cases h : p c
    · rcases firstFrom_spec p k (c + 1) with ⟨h1, h2⟩ | ⟨i, h1, h2, h3, h4⟩
      · refine Or.inl ⟨by simpa using h1, fun i hc1 hc2 => ?_⟩
        by_cases e : i = c
        · rw [e]; exact h
        · exact h2 i (by omega) (by omega)
      · exact Or.inr ⟨i, by omega, by omega, by simpa using h3, h4⟩
    · exact Or.inr ⟨c, by omega, by omega, by simp, h⟩
theorem first_spec (p : Nat → Bool) (n : Nat) : (firstFrom p 0 n = -1 ∧ ∀ i, i < n → p i = false) ∨ ∃ i : Nat, i < n ∧ firstFrom p 0 n = i ∧ p i = true := by
  rcases firstFrom_spec p n 0 with ⟨h1, h2⟩ | ⟨i, h1, h2, h3, h4⟩
  · exact Or.inl ⟨h1, fun i hi => h2 i (Nat.zero_le i) (by rw [Nat.zero_add]; exact hi)⟩
  · exact Or.inr ⟨i, by rw [Nat.zero_add] at h2; exact h2, h3, h4⟩
theorem first_of {p : Nat → Bool} {n c : Nat} (hc : c < n) (h : p c = true) (hu : ∀ d, d < n → p d = true → d = c) : firstFrom p 0 n = c := by
  rcases first_spec p n with ⟨_, h2⟩ | ⟨d, h1, h2, h3⟩
  · rw [h2 c hc] at h; cases h
  · rw [h2, hu d h1 h3]
theorem first_none {p : Nat → Bool} {n : Nat} (h : ∀ i, i < n → p i = false) : firstFrom p 0 n = -1 := by
  rcases first_spec p n with ⟨h1, _⟩ | ⟨d, h1, _, h3⟩
  · exact h1
  · rw [h d h1] at h3; cases h3

theorem leqB_nat {n : Nat} {T : Nat → Nat → Bool} {a b : Nat} (ha : a < n) (hb : b < n) : leqB n T a b = T a b := leqB_in ha hb
theorem leqB_out {n : Nat} {T : Nat → Nat → Bool} {x y : Int} (h : hasB n x = false ∨ hasB n y = false) : leqB n T x y = false := by
  unfold leqB; rcases h with h | h <;> simp [h]

theorem least_lub {n : Nat} {T : Nat → Nat → Bool} {a b c : Nat} (ha : a < n) (hb : b < n) (hc : c < n) : leastTo (leqB n T) a b c n = true ↔ Lub n T a b c := by
  unfold leastTo
  rw [Bool.and_eq_true, Bool.and_eq_true, allTo_iff, leqB_nat ha hc, leqB_nat hb hc]
  constructor
  · rintro ⟨⟨h1, h2⟩, h3⟩
    refine ⟨hc, h1, h2, fun d hd h4 h5 => ?_⟩
    have := h3 d hd
    rw [leqB_nat ha hd, leqB_nat hb hd, leqB_nat hc hd, h4, h5] at this
    simpa using this
  · rintro ⟨_, h1, h2, h3⟩
    refine ⟨⟨h1, h2⟩, fun d hd => ?_⟩
    rw [leqB_nat ha hd, leqB_nat hb hd, leqB_nat hc hd]
    cases h4 : T a d
    · rfl
    · cases h5 : T b d
      · rfl
      · rw [h3 d hd h4 h5]; rfl
theorem most_glb {n : Nat} {T : Nat → Nat → Bool} {a b c : Nat} (ha : a < n) (hb : b < n) (hc : c < n) : leastTo (fun x y => leqB n T y x) a b c n = true ↔ Glb n T a b c := by
  unfold leastTo
  simp only []
  rw [Bool.and_eq_true, Bool.and_eq_true, allTo_iff, leqB_nat hc ha, leqB_nat hc hb]
  constructor
  · rintro ⟨⟨h1, h2⟩, h3⟩
    refine ⟨hc, h1, h2, fun d hd h4 h5 => ?_⟩
    have := h3 d hd
    rw [leqB_nat hd ha, leqB_nat hd hb, leqB_nat hd hc, h4, h5] at this
    simpa using this
  · rintro ⟨_, h1, h2, h3⟩
    refine ⟨⟨h1, h2⟩, fun d hd => ?_⟩
    rw [leqB_nat hd ha, leqB_nat hd hb, leqB_nat hd hc]
    cases h4 : T d a
    · rfl
    · cases h5 : T d b
      · rfl
      · rw [h3 d hd h4 h5]; rfl

/-- The same table, named otherwise. -/
theorem IsTab.war {n : Nat} {ps : List (Int × Int)} {U D : Nat → Nat → Bool} (h : IsTab n ps U D) {a b : Nat} (ha : a < n) (hb : b < n) : War (baseTab ps) n a b = U a b := by
  rw [Bool.eq_iff_iff]; exact (War_iff h a b ha hb).symm

theorem Lub.of_eq {n : Nat} {U T : Nat → Nat → Bool} (e : ∀ a b, a < n → b < n → T a b = U a b) {a b c : Nat} (ha : a < n) (hb : b < n) : Lub n T a b c ↔ Lub n U a b c := by
  constructor
  · rintro ⟨h0, h1, h2, h3⟩
    exact ⟨h0, by rw [← e a c ha h0]; exact h1, by rw [← e b c hb h0]; exact h2, fun d hd h4 h5 => by rw [← e c d h0 hd]; exact h3 d hd (by rw [e a d ha hd]; exact h4) (by rw [e b d hb hd]; exact h5)⟩
  · rintro ⟨h0, h1, h2, h3⟩
    exact ⟨h0, by rw [e a c ha h0]; exact h1, by rw [e b c hb h0]; exact h2, fun d hd h4 h5 => by rw [e c d h0 hd]; exact h3 d hd (by rw [← e a d ha hd]; exact h4) (by rw [← e b d hb hd]; exact h5)⟩
theorem Glb.of_eq {n : Nat} {U T : Nat → Nat → Bool} (e : ∀ a b, a < n → b < n → T a b = U a b) {a b c : Nat} (ha : a < n) (hb : b < n) : Glb n T a b c ↔ Glb n U a b c := by
  constructor
  · rintro ⟨h0, h1, h2, h3⟩
    exact ⟨h0, by rw [← e c a h0 ha]; exact h1, by rw [← e c b h0 hb]; exact h2, fun d hd h4 h5 => by rw [← e d c hd h0]; exact h3 d hd (by rw [e d a hd ha]; exact h4) (by rw [e d b hd hb]; exact h5)⟩
  · rintro ⟨h0, h1, h2, h3⟩
    exact ⟨h0, by rw [e c a h0 ha]; exact h1, by rw [e c b h0 hb]; exact h2, fun d hd h4 h5 => by rw [e d c hd h0]; exact h3 d hd (by rw [← e d a hd ha]; exact h4) (by rw [← e d b hd hb]; exact h5)⟩

theorem refOk_iff {n : Nat} {ps : List (Int × Int)} {U D : Nat → Nat → Bool} (h : IsTab n ps U D) : refOk n (War (baseTab ps) n) = true ↔ IsLat n U := by
  have hle := h.le
  have e : ∀ a b, a < n → b < n → War (baseTab ps) n a b = U a b := fun a b ha hb => h.war ha hb
  constructor
  · intro ho
    have hall : ∀ a b, a < n → b < n → badB n (War (baseTab ps) n) a b = false := fun a b ha hb => by
      unfold refOk at ho
      have := List.all_eq_true.1 (List.all_eq_true.1 ho a (List.mem_range.2 ha)) b (List.mem_range.2 hb)
      simpa using this
    refine ⟨h.one_le, hle, h.within, h.refl, fun a b c ha hb hc h1 h2 => h.trans a b ha hb h1 c (by omega) h2, fun a b ha hb h1 h2 => ?_, fun a b ha hb => ?_, fun a b ha hb => ?_⟩
    · have := hall a b ha hb
      unfold badB at this
      rw [e a b ha hb, e b a hb ha, h1, h2] at this
      simp at this
      exact this.1.1
    · have := hall a b ha hb
      unfold badB at this
      simp only [Bool.or_eq_false_iff, decide_eq_false_iff_not] at this
      rcases first_spec (fun c => leastTo (leqB n (War (baseTab ps) n)) a b c n) n with ⟨h1, _⟩ | ⟨c, h1, _, h3⟩
      · exact absurd (by unfold refJoin; rw [h1]; omega) this.1.2
      · exact ⟨c, (Lub.of_eq e ha hb).1 ((least_lub ha hb h1).1 h3)⟩
    · have := hall a b ha hb
      unfold badB at this
      simp only [Bool.or_eq_false_iff, decide_eq_false_iff_not] at this
      rcases first_spec (fun c => leastTo (fun x y => leqB n (War (baseTab ps) n) y x) a b c n) n with ⟨h1, _⟩ | ⟨c, h1, _, h3⟩
      · exact absurd (by unfold refJoin; rw [h1]; omega) this.2
      · exact ⟨c, (Glb.of_eq e ha hb).1 ((most_glb ha hb h1).1 h3)⟩
  · intro L
    refine refOk_true fun a b ha hb => ?_
    obtain ⟨c, hc⟩ := L.lub a b ha hb
    obtain ⟨d, hd⟩ := L.glb a b ha hb
    have h1 : refJoin (leqB n (War (baseTab ps) n)) n a b = c := first_of hc.1 ((least_lub ha hb hc.1).2 ((Lub.of_eq e ha hb).2 hc)) fun x hx hx2 => Lub.unique L.antisymm ((Lub.of_eq e ha hb).1 ((least_lub ha hb hx).1 hx2)) hc
    have h2 : refJoin (fun x y => leqB n (War (baseTab ps) n) y x) n a b = d := first_of hd.1 ((most_glb ha hb hd.1).2 ((Glb.of_eq e ha hb).2 hd)) fun x hx hx2 => Glb.unique L.antisymm ((Glb.of_eq e ha hb).1 ((most_glb ha hb hx).1 hx2)) hd
    unfold badB
    rw [h1, h2, e a b ha hb, e b a hb ha]
    have : (!decide (a = b) && U a b && U b a) = false := by
      by_cases q : a = b
      · simp [q]
      · cases q1 : U a b
        · simp
        · cases q2 : U b a
          · simp
          · exact absurd (L.antisymm a b ha hb q1 q2) q
    rw [this]; simp

theorem hasB_nat {n : Nat} {x : Int} (h : hasB n x = true) : ∃ X : Nat, x = X ∧ X < n := by
  obtain ⟨h1, h2⟩ := hasB_true.1 h
  exact ⟨x.toNat, by omega, by omega⟩

theorem join_same {w : World} {n : Nat} {ps : List (Int × Int)} {lb : Nat} {U D : Nat → Nat → Bool} (M : Made w n ps lb U D) (x y : Int) : refJoin (leqB n (War (baseTab ps) n)) n x y = joinB n U x y := by
  have e : ∀ a b, a < n → b < n → War (baseTab ps) n a b = U a b := fun a b ha hb => M.tab.war ha hb
  cases hx : hasB n x
  · rw [joinB, hx]
    exact first_none fun i _ => by unfold leastTo; rw [leqB_out (Or.inl hx)]; rfl
  · cases hy : hasB n y
    · rw [joinB, hy, Bool.and_false]
      exact first_none fun i _ => by unfold leastTo; rw [leqB_out (x := y) (Or.inl hy)]; simp
    · obtain ⟨X, rfl, hX⟩ := hasB_nat hx
      obtain ⟨Y, rfl, hY⟩ := hasB_nat hy
      obtain ⟨c, hc⟩ := M.lat.lub X Y hX hY
      rw [M.join hX hY hc]
      exact first_of hc.1 ((least_lub hX hY hc.1).2 ((Lub.of_eq e hX hY).2 hc)) fun d hd h2 => Lub.unique M.lat.antisymm ((Lub.of_eq e hX hY).1 ((least_lub hX hY hd).1 h2)) hc
theorem meet_same {w : World} {n : Nat} {ps : List (Int × Int)} {lb : Nat} {U D : Nat → Nat → Bool} (M : Made w n ps lb U D) (x y : Int) : refJoin (fun x y => leqB n (War (baseTab ps) n) y x) n x y = joinB n D x y := by
  have e : ∀ a b, a < n → b < n → War (baseTab ps) n a b = U a b := fun a b ha hb => M.tab.war ha hb
  cases hx : hasB n x
  · rw [joinB, hx]
    exact first_none fun i _ => by unfold leastTo; simp only []; rw [leqB_out (y := x) (Or.inr hx)]; rfl
  · cases hy : hasB n y
    · rw [joinB, hy, Bool.and_false]
      exact first_none fun i _ => by unfold leastTo; simp only []; rw [leqB_out (y := y) (Or.inr hy)]; simp
    · obtain ⟨X, rfl, hX⟩ := hasB_nat hx
      obtain ⟨Y, rfl, hY⟩ := hasB_nat hy
      obtain ⟨c, hc⟩ := M.lat.glb X Y hX hY
      rw [M.meet hX hY hc]
      exact first_of hc.1 ((most_glb hX hY hc.1).2 ((Glb.of_eq e hX hY).2 hc)) fun d hd h2 => Glb.unique M.lat.antisymm ((Glb.of_eq e hX hY).1 ((most_glb hX hY hd).1 h2)) hc
theorem bottom_same {w : World} {n : Nat} {ps : List (Int × Int)} {lb : Nat} {U D : Nat → Nat → Bool} (M : Made w n ps lb U D) : firstFrom (fun c => allTo (fun d => War (baseTab ps) n c d) n) 0 n = cover U (below n) := by
  obtain ⟨c, hc, h⟩ := M.lat.low n (Nat.le_refl _)
  rw [bottom_eq M.lat hc h]
  refine first_of hc ((allTo_iff n).2 fun i hi => by rw [M.tab.war hc hi]; exact h i hi) fun d hd h2 => ?_
  have h3 := (allTo_iff n).1 h2 c hc
  rw [M.tab.war hd hc] at h3
  exact M.lat.antisymm d c hd hc h3 (h d hd)
theorem top_same {w : World} {n : Nat} {ps : List (Int × Int)} {lb : Nat} {U D : Nat → Nat → Bool} (M : Made w n ps lb U D) : firstFrom (fun c => allTo (fun d => War (baseTab ps) n d c) n) 0 n = cover D (below n) := by
  obtain ⟨c, hc, h⟩ := M.lat.high n (Nat.le_refl _)
  rw [top_eq M.lat M.tab.down hc h]
  refine first_of hc ((allTo_iff n).2 fun i hi => by rw [M.tab.war hi hc]; exact h i hi) fun d hd h2 => ?_
  have h3 := (allTo_iff n).1 h2 c hc
  rw [M.tab.war hc hd] at h3
  exact M.lat.antisymm d c hd hc (h d hd) h3

end Go.Proofs.Ytgkbmdlbljjbfaa
