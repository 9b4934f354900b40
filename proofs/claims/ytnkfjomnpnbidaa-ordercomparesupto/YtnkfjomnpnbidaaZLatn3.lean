/-
  What New's two tests say: that the closed table is a lattice; and what Join, Meet, Bottom and Top then answer.
-/
import Derived.Test.YtnkfjomnpnbidaaZLatt5n2
import Derived.Laws.AppendOwnNone
import Derived.Deep.Heap
import Derived.Test.YtnkfjomnpnbidaaZSizen2
import Derived.Deep.QuietTactic
import Derived.BigQuiet
namespace Go.Proofs.Ytnkfjomnpnbidaa
open Go.RowKit

/-- A table that is a lattice. -/
structure IsLat (n : Nat) (U : Nat → Nat → Bool) : Prop where
  pos : 1 ≤ n
  le : n ≤ 16
  within : ∀ a i, a < n → i < 16 → U a i = true → i < n
  refl : ∀ a, a < n → U a a = true
  trans : ∀ a b c, a < n → b < n → c < n → U a b = true → U b c = true → U a c = true
  antisymm : ∀ a b, a < n → b < n → U a b = true → U b a = true → a = b
  lub : ∀ a b, a < n → b < n → ∃ c, c < n ∧ U a c = true ∧ U b c = true ∧ ∀ d, d < n → U a d = true → U b d = true → U c d = true
  glb : ∀ a b, a < n → b < n → ∃ c, c < n ∧ U c a = true ∧ U c b = true ∧ ∀ d, d < n → U d a = true → U d b = true → U d c = true

theorem coversB_iff {r : Nat → Nat → Bool} {s : Nat → Bool} {a : Nat} (ha : a < 16) : coversB r s a = true ↔ s a = true ∧ ∀ i, i < 16 → s i = true → r a i = true := by
  unfold coversB
  rw [and_one_ne s a ha, Bool.and_eq_true, beq_iff_eq, S_zero_iff]
  constructor
  · rintro ⟨h1, h2⟩
    refine ⟨h1, fun i hi hs => ?_⟩
    have := h2 i hi
    simp [minus, hs] at this
    exact this
  · rintro ⟨h1, h2⟩
    refine ⟨h1, fun i hi => ?_⟩
    simp [minus]
    exact h2 i hi

theorem coverFrom_spec (r : Nat → Nat → Bool) (s : Nat → Bool) : ∀ k a, (coverFrom r s a k = -1 ∧ ∀ c, a ≤ c → c < a + k → coversB r s c = false) ∨ ∃ c : Nat, a ≤ c ∧ c < a + k ∧ coverFrom r s a k = c ∧ coversB r s c = true
  | 0, a => Or.inl ⟨rfl, fun c h1 h2 => by omega⟩
  | k + 1, a => by
    rw [coverFrom]
    cases h : coversB r s a
    · rcases coverFrom_spec r s k (a + 1) with ⟨h1, h2⟩ | ⟨c, h1, h2, h3, h4⟩
      · refine Or.inl ⟨by simpa using h1, fun c hc1 hc2 => ?_⟩
        by_cases e : c = a
        · rw [e]; exact h
        · exact h2 c (by omega) (by omega)
      · exact Or.inr ⟨c, by omega, by omega, by simpa using h3, h4⟩
    · exact Or.inr ⟨a, by omega, by omega, by simp, h⟩

theorem cover_spec (r : Nat → Nat → Bool) (s : Nat → Bool) : (cover r s = -1 ∧ ∀ c, c < 16 → coversB r s c = false) ∨ ∃ c : Nat, c < 16 ∧ cover r s = c ∧ coversB r s c = true := by
  rcases coverFrom_spec r s 16 0 with ⟨h1, h2⟩ | ⟨c, h1, h2, h3, h4⟩
  · exact Or.inl ⟨h1, fun c hc => h2 c (Nat.zero_le c) (by rw [Nat.zero_add]; exact hc)⟩
  · exact Or.inr ⟨c, by rw [Nat.zero_add] at h2; exact h2, h3, h4⟩

theorem cover_of {r : Nat → Nat → Bool} {s : Nat → Bool} {c : Nat} (hc : c < 16) (h : coversB r s c = true) (hu : ∀ d, d < 16 → coversB r s d = true → d = c) : cover r s = c := by
  rcases cover_spec r s with ⟨_, h2⟩ | ⟨d, h1, h2, h3⟩
  · rw [h2 c hc] at h; cases h
  · rw [h2, hu d h1 h3]

theorem joinB_in {n : Nat} {U : Nat → Nat → Bool} {a b : Nat} (ha : a < n) (hb : b < n) : joinB n U a b = cover U (inter (U a) (U b)) := by
  simp [joinB, hasB, ha, hb]

/-- c is the least above a and b. -/
def Lub (n : Nat) (U : Nat → Nat → Bool) (a b c : Nat) : Prop := c < n ∧ U a c = true ∧ U b c = true ∧ ∀ d, d < n → U a d = true → U b d = true → U c d = true
/-- c is the greatest below a and b. -/
def Glb (n : Nat) (U : Nat → Nat → Bool) (a b c : Nat) : Prop := c < n ∧ U c a = true ∧ U c b = true ∧ ∀ d, d < n → U d a = true → U d b = true → U d c = true

theorem covers_lub {n : Nat} {U : Nat → Nat → Bool} (hn : n ≤ 16) (hw : ∀ a i, a < n → i < 16 → U a i = true → i < n) {a b c : Nat} (ha : a < n) (hc : c < 16) :
    coversB U (inter (U a) (U b)) c = true ↔ Lub n U a b c := by
  rw [coversB_iff hc]
  simp only [inter, Bool.and_eq_true]
  constructor
  · rintro ⟨⟨h1, h2⟩, h3⟩
    exact ⟨hw a c ha hc h1, h1, h2, fun d hd h4 h5 => h3 d (by omega) ⟨h4, h5⟩⟩
  · rintro ⟨_, h1, h2, h3⟩
    exact ⟨⟨h1, h2⟩, fun i hi h4 => h3 i (hw a i ha hi h4.1) h4.1 h4.2⟩

theorem down_iff {n : Nat} {U D : Nat → Nat → Bool} (hD : ∀ a i, D a i = downTo n U n 0 a i) (a i : Nat) : D a i = true ↔ a < n ∧ i < n ∧ U i a = true := by
  rw [hD]; simp [downTo]; constructor
  · rintro ⟨⟨⟨h1, h2⟩, h3⟩, _⟩; exact ⟨h1, h2, h3⟩
  · rintro ⟨h1, h2, h3⟩; exact ⟨⟨⟨h1, h2⟩, h3⟩, h2⟩

theorem covers_glb {n : Nat} {U D : Nat → Nat → Bool} (hn : n ≤ 16) (hD : ∀ a i, D a i = downTo n U n 0 a i) {a b c : Nat} (ha : a < n) (hb : b < n) (hc : c < 16) :
    coversB D (inter (D a) (D b)) c = true ↔ Glb n U a b c := by
  rw [coversB_iff hc]
  simp only [inter, Bool.and_eq_true, down_iff hD]
  constructor
  · rintro ⟨⟨⟨_, h1, h2⟩, _, _, h3⟩, h4⟩
    exact ⟨h1, h2, h3, fun d hd h5 h6 => (h4 d (by omega) ⟨⟨ha, hd, h5⟩, hb, hd, h6⟩).2.2⟩
  · rintro ⟨h1, h2, h3, h4⟩
    exact ⟨⟨⟨ha, h1, h2⟩, hb, h1, h3⟩, fun i _ h5 => ⟨h1, h5.1.2.1, h4 i h5.1.2.1 h5.1.2.2 h5.2.2.2⟩⟩

theorem Lub.unique {n : Nat} {U : Nat → Nat → Bool} (hA : ∀ a b, a < n → b < n → U a b = true → U b a = true → a = b) {a b c d : Nat} (h : Lub n U a b c) (k : Lub n U a b d) : c = d :=
  hA c d h.1 k.1 (h.2.2.2 d k.1 k.2.1 k.2.2.1) (k.2.2.2 c h.1 h.2.1 h.2.2.1)
theorem Glb.unique {n : Nat} {U : Nat → Nat → Bool} (hA : ∀ a b, a < n → b < n → U a b = true → U b a = true → a = b) {a b c d : Nat} (h : Glb n U a b c) (k : Glb n U a b d) : c = d :=
  hA c d h.1 k.1 (k.2.2.2 c h.1 h.2.1 h.2.2.1) (h.2.2.2 d k.1 k.2.1 k.2.2.1)

theorem join_eq {n : Nat} {U : Nat → Nat → Bool} (hn : n ≤ 16) (hw : ∀ a i, a < n → i < 16 → U a i = true → i < n) (hA : ∀ a b, a < n → b < n → U a b = true → U b a = true → a = b) {a b c : Nat} (ha : a < n) (hb : b < n) (h : Lub n U a b c) : joinB n U a b = c := by
  have hc : c < 16 := by have := h.1; omega
  rw [joinB_in ha hb]
  exact cover_of hc ((covers_lub hn hw ha hc).2 h) fun d hd h2 => ((covers_lub hn hw ha hd).1 h2).unique hA h
theorem meet_eq {n : Nat} {U D : Nat → Nat → Bool} (hn : n ≤ 16) (hD : ∀ a i, D a i = downTo n U n 0 a i) (hA : ∀ a b, a < n → b < n → U a b = true → U b a = true → a = b) {a b c : Nat} (ha : a < n) (hb : b < n) (h : Glb n U a b c) : joinB n D a b = c := by
  have hc : c < 16 := by have := h.1; omega
  rw [joinB_in ha hb]
  exact cover_of hc ((covers_glb hn hD ha hb hc).2 h) fun d hd h2 => ((covers_glb hn hD ha hb hd).1 h2).unique hA h

theorem join_some {n : Nat} {U : Nat → Nat → Bool} (hn : n ≤ 16) (hw : ∀ a i, a < n → i < 16 → U a i = true → i < n) {a b : Nat} (ha : a < n) (hb : b < n) (h : decide (joinB n U a b < 0) = false) : ∃ c, Lub n U a b c := by
  rw [joinB_in ha hb] at h
  rcases cover_spec U (inter (U a) (U b)) with ⟨h1, _⟩ | ⟨c, h1, _, h3⟩
  · rw [h1] at h; cases h
  · exact ⟨c, (covers_lub hn hw ha h1).1 h3⟩
theorem meet_some {n : Nat} {U D : Nat → Nat → Bool} (hn : n ≤ 16) (hD : ∀ a i, D a i = downTo n U n 0 a i) {a b : Nat} (ha : a < n) (hb : b < n) (h : decide (joinB n D a b < 0) = false) : ∃ c, Glb n U a b c := by
  rw [joinB_in ha hb] at h
  rcases cover_spec D (inter (D a) (D b)) with ⟨h1, _⟩ | ⟨c, h1, _, h3⟩
  · rw [h1] at h; cases h
  · exact ⟨c, (covers_glb hn hD ha hb h1).1 h3⟩

theorem Lub.swap {n : Nat} {U : Nat → Nat → Bool} {a b c : Nat} (h : Lub n U a b c) : Lub n U b a c := ⟨h.1, h.2.2.1, h.2.1, fun d hd h1 h2 => h.2.2.2 d hd h2 h1⟩
theorem Glb.swap {n : Nat} {U : Nat → Nat → Bool} {a b c : Nat} (h : Glb n U a b c) : Glb n U b a c := ⟨h.1, h.2.2.1, h.2.1, fun d hd h1 h2 => h.2.2.2 d hd h2 h1⟩

theorem IsTab.within {n : Nat} {ps : List (Int × Int)} {U D : Nat → Nat → Bool} (h : IsTab n ps U D) (a i : Nat) (ha : a < n) (hi : i < 16) (hu : U a i = true) : i < n :=
  (h.inv.star a i ha hi hu).within (n := n) Rel.lt ha

theorem ordered_iff {n : Nat} {ps : List (Int × Int)} {U D : Nat → Nat → Bool} (h : IsTab n ps U D) : orderedB n U D = true ↔ ∀ a b, a < n → b < n → U a b = true → U b a = true → a = b := by
  have hle := h.le
  constructor
  · intro ho a b ha hb h1 h2
    unfold orderedB at ho
    have h3 := beq_iff_eq.1 (List.all_eq_true.1 ho a (List.mem_range.2 ha))
    have h4 := S_inj h3 b (by omega)
    simp only [inter, h1, Bool.true_and, (down_iff h.down a b).2 ⟨ha, hb, h2⟩, one] at h4
    exact (beq_iff_eq.1 h4.symm).symm
  · intro hA
    refine orderedB_true fun a ha => beq_iff_eq.2 (S_congr fun i hi => ?_)
    rw [Bool.eq_iff_iff]
    simp only [inter, Bool.and_eq_true, down_iff h.down, one, beq_iff_eq]
    constructor
    · rintro ⟨h1, _, h2, h3⟩; exact (hA a i ha h2 h1 h3).symm
    · rintro rfl; exact ⟨h.refl _ ha, ha, ha, h.refl _ ha⟩

theorem flags_iff {n : Nat} {ps : List (Int × Int)} {U D : Nat → Nat → Bool} (h : IsTab n ps U D) : (orderedB n U D && boundedB n U D) = true ↔ IsLat n U := by
  have hle := h.le
  have hw := h.within
  rw [Bool.and_eq_true, ordered_iff h]
  constructor
  · rintro ⟨hA, hb⟩
    unfold boundedB at hb
    have hall : ∀ a b, a < n → b < a → decide (joinB n U a b < 0) = false ∧ decide (joinB n D a b < 0) = false := fun a b ha hba => by
      have := List.all_eq_true.1 (List.all_eq_true.1 hb a (List.mem_range.2 ha)) b (List.mem_range.2 hba)
      rw [Bool.not_eq_true', Bool.or_eq_false_iff] at this
      exact this
    refine ⟨h.one_le, hle, hw, h.refl, fun a b c ha hb hc h1 h2 => h.trans a b ha hb h1 c (by omega) h2, hA, fun a b ha hb => ?_, fun a b ha hb => ?_⟩
    · rcases Nat.lt_trichotomy a b with e | e | e
      · obtain ⟨c, hc⟩ := join_some hle hw hb ha (hall b a hb e).1; exact ⟨c, hc.swap⟩
      · subst e; exact ⟨a, ha, h.refl a ha, h.refl a ha, fun d _ h1 _ => h1⟩
      · obtain ⟨c, hc⟩ := join_some hle hw ha hb (hall a b ha e).1; exact ⟨c, hc⟩
    · rcases Nat.lt_trichotomy a b with e | e | e
      · obtain ⟨c, hc⟩ := meet_some hle h.down hb ha (hall b a hb e).2; exact ⟨c, hc.swap⟩
      · subst e; exact ⟨a, ha, h.refl a ha, h.refl a ha, fun d _ h1 _ => h1⟩
      · obtain ⟨c, hc⟩ := meet_some hle h.down ha hb (hall a b ha e).2; exact ⟨c, hc⟩
  · intro L
    refine ⟨L.antisymm, boundedB_true fun a b ha hba => ?_⟩
    have hb : b < n := by omega
    obtain ⟨c, hc⟩ := L.lub a b ha hb
    obtain ⟨d, hd⟩ := L.glb a b ha hb
    rw [join_eq hle hw L.antisymm ha hb hc, meet_eq hle h.down L.antisymm ha hb hd]
    exact ⟨by simp, by simp⟩

/-- The levels up to k have a common lower bound. -/
theorem IsLat.low {n : Nat} {U : Nat → Nat → Bool} (L : IsLat n U) : ∀ k, k ≤ n → ∃ c, c < n ∧ ∀ i, i < k → U c i = true
  | 0, _ => ⟨0, L.pos, fun i hi => by omega⟩
  | k + 1, hk => by
    obtain ⟨c, hc, h⟩ := IsLat.low L k (by omega)
    obtain ⟨d, hd, h1, h2, _⟩ := L.glb c k hc (by omega)
    refine ⟨d, hd, fun i hi => ?_⟩
    by_cases e : i = k
    · rw [e]; exact h2
    · exact L.trans d c i hd hc (by omega) h1 (h i (by omega))
theorem IsLat.high {n : Nat} {U : Nat → Nat → Bool} (L : IsLat n U) : ∀ k, k ≤ n → ∃ c, c < n ∧ ∀ i, i < k → U i c = true
  | 0, _ => ⟨0, L.pos, fun i hi => by omega⟩
  | k + 1, hk => by
    obtain ⟨c, hc, h⟩ := IsLat.high L k (by omega)
    obtain ⟨d, hd, h1, h2, _⟩ := L.lub c k hc (by omega)
    refine ⟨d, hd, fun i hi => ?_⟩
    by_cases e : i = k
    · rw [e]; exact h2
    · exact L.trans i c d (by omega) hc hd (h i (by omega)) h1

theorem bottom_eq {n : Nat} {U : Nat → Nat → Bool} (L : IsLat n U) {c : Nat} (hc : c < n) (h : ∀ i, i < n → U c i = true) : cover U (below n) = c := by
  have hle := L.le
  refine cover_of (by omega) ((coversB_iff (by omega)).2 ⟨by simp [below, hc], fun i _ hi => h i (by simpa [below] using hi)⟩) fun d hd h2 => ?_
  obtain ⟨h3, h4⟩ := (coversB_iff hd).1 h2
  have hdn : d < n := by simpa [below] using h3
  exact L.antisymm d c hdn hc (h4 c (by omega) (by simp [below, hc])) (h d hdn)
theorem top_eq {n : Nat} {U D : Nat → Nat → Bool} (L : IsLat n U) (hD : ∀ a i, D a i = downTo n U n 0 a i) {c : Nat} (hc : c < n) (h : ∀ i, i < n → U i c = true) : cover D (below n) = c := by
  have hle := L.le
  refine cover_of (by omega) ((coversB_iff (by omega)).2 ⟨by simp [below, hc], fun i _ hi => ?_⟩) fun d hd h2 => ?_
  · have hin : i < n := by simpa [below] using hi
    exact (down_iff hD c i).2 ⟨hc, hin, h i hin⟩
  · obtain ⟨h3, h4⟩ := (coversB_iff hd).1 h2
    have hdn : d < n := by simpa [below] using h3
    exact L.antisymm d c hdn hc (h d hdn) ((down_iff hD d c).1 (h4 c (by omega) (by simp [below, hc]))).2.2

theorem IsTab.up {n : Nat} {ps : List (Int × Int)} {U D : Nat → Nat → Bool} (h : IsTab n ps U D) {x y : Nat} (hst : Star (Rel n (tab ps)) x y) : x < n → U x y = true := by
  have hle := h.le
  induction hst with
  | refl x => exact fun hx => h.refl x hx
  | @head x y z r hyz ih =>
    intro hx
    have hz := hyz.within (n := n) Rel.lt r.2.1
    exact h.trans x y hx r.2.1 (h.inv.ext x y hx (by have := r.2.1; omega) r.2.2) z (by omega) (ih r.2.1)

/-- What the closed table is, where another one is known to be it. -/
theorem IsTab.eq {n : Nat} {ps : List (Int × Int)} {U D : Nat → Nat → Bool} (h : IsTab n ps U D) (T : Nat → Nat → Prop) (hr : ∀ a, a < n → T a a) (ht : ∀ a, a < n → ∀ b, b < n → ∀ c, c < n → T a b → T b c → T a c)
    (hs : ∀ a, a < n → ∀ b, b < n → tab ps a b = true → T a b) (hp : ∀ a b, a < n → b < n → T a b → Star (Rel n (tab ps)) a b) (a b : Nat) (ha : a < n) (hb : b < n) : U a b = true ↔ T a b := by
  have hle := h.le
  have key : ∀ x y, Star (Rel n (tab ps)) x y → x < n → T x y := by
    intro x y hst
    induction hst with
    | refl x => exact fun hx => hr x hx
    | @head x y z r hyz ih => exact fun hx => ht x hx y r.2.1 z (hyz.within (n := n) Rel.lt r.2.1) (hs x hx y r.2.1 r.2.2) (ih r.2.1)
  have up : ∀ x y, Star (Rel n (tab ps)) x y → x < n → U x y = true := by
    intro x y hst
    induction hst with
    | refl x => exact fun hx => h.refl x hx
    | @head x y z r hyz ih =>
      intro hx
      have hz := hyz.within (n := n) Rel.lt r.2.1
      exact h.trans x y hx r.2.1 (h.inv.ext x y hx (by have := r.2.1; omega) r.2.2) z (by omega) (ih r.2.1)
  constructor
  · intro hu; exact key a b (h.inv.star a b ha (by omega) hu) ha
  · intro ht'; exact up a b (hp a b ha hb ht') ha

theorem IsLat.of {n : Nat} {U : Nat → Nat → Bool} (pos : 1 ≤ n) (le : n ≤ 16) (within : ∀ a i, a < n → i < 16 → U a i = true → i < n) (refl : ∀ a, a < n → U a a = true)
    (trans : ∀ a, a < n → ∀ b, b < n → ∀ c, c < n → U a b = true → U b c = true → U a c = true) (anti : ∀ a, a < n → ∀ b, b < n → U a b = true → U b a = true → a = b)
    (lub : ∀ a, a < n → ∀ b, b < n → ∃ c, c < n ∧ U a c = true ∧ U b c = true ∧ ∀ d, d < n → U a d = true → U b d = true → U c d = true)
    (glb : ∀ a, a < n → ∀ b, b < n → ∃ c, c < n ∧ U c a = true ∧ U c b = true ∧ ∀ d, d < n → U d a = true → U d b = true → U d c = true) : IsLat n U :=
  ⟨pos, le, within, refl, fun a b c ha hb hc => trans a ha b hb c hc, fun a b ha hb => anti a ha b hb, fun a b ha hb => lub a ha b hb, fun a b ha hb => glb a ha b hb⟩

theorem IsLat.congr {n : Nat} {U T : Nat → Nat → Bool} (h : IsLat n T) (e : ∀ a b, a < n → b < n → (U a b = true ↔ T a b = true)) (hw : ∀ a i, a < n → i < 16 → U a i = true → i < n) : IsLat n U := by
  refine ⟨h.pos, h.le, hw, fun a ha => (e a a ha ha).2 (h.refl a ha), fun a b c ha hb hc h1 h2 => (e a c ha hc).2 (h.trans a b c ha hb hc ((e a b ha hb).1 h1) ((e b c hb hc).1 h2)),
    fun a b ha hb h1 h2 => h.antisymm a b ha hb ((e a b ha hb).1 h1) ((e b a hb ha).1 h2), fun a b ha hb => ?_, fun a b ha hb => ?_⟩
  · obtain ⟨c, hc, h1, h2, h3⟩ := h.lub a b ha hb
    exact ⟨c, hc, (e a c ha hc).2 h1, (e b c hb hc).2 h2, fun d hd h4 h5 => (e c d hc hd).2 (h3 d hd ((e a d ha hd).1 h4) ((e b d hb hd).1 h5))⟩
  · obtain ⟨c, hc, h1, h2, h3⟩ := h.glb a b ha hb
    exact ⟨c, hc, (e c a hc ha).2 h1, (e c b hc hb).2 h2, fun d hd h4 h5 => (e d c hd hc).2 (h3 d hd ((e d a hd ha).1 h4) ((e d b hd hb).1 h5))⟩

theorem okArgs_good {n : Int} {ps : List (Int × Int)} (h : okArgs n ps = true) : goodB n ps = true := by
  unfold okArgs at h; rw [Bool.and_eq_true] at h; exact h.2

/-- A lattice that New made. -/
structure Made (w : World) (n : Nat) (ps : List (Int × Int)) (b : Nat) (U D : Nat → Nat → Bool) : Prop where
  lt : b < w.heap.size
  at_ : LatAt w b n U D
  tab : IsTab n ps U D
  lat : IsLat n U
  good : goodB n ps = true

theorem Made.drewN {w : World} {n : Nat} {ps : List (Int × Int)} {b : Nat} {U D : Nat → Nat → Bool} (h : Made w n ps b U D) (m : Nat) : Made (w.drewN m) n ps b U D := ⟨h.lt, h.at_.drewN m, h.tab, h.lat, h.good⟩
theorem Made.below {w w' : World} {B n : Nat} {ps : List (Int × Int)} {b : Nat} {U D : Nat → Nat → Bool} (h : Made w n ps b U D) (k : Below B w w') (hb : b < B) : Made w' n ps b U D := ⟨Nat.lt_of_lt_of_le h.lt k.size, h.at_.below k hb, h.tab, h.lat, h.good⟩
theorem Made.later {w w' : World} {n : Nat} {ps : List (Int × Int)} {b : Nat} {U D : Nat → Nat → Bool} (h : Made w n ps b U D) (k : Below w.heap.size w w') : Made w' n ps b U D := h.below k h.lt

theorem NewPost.cases {w w' : World} {n : Int} {ps : List (Int × Int)} {e : Ending} (h : NewPost w n ps e w') :
    Below w.heap.size w w' ∧ ((∃ c : Int, (c = 1 ∨ c = 4) ∧ e = .returned (.tuple #[.pointer none, .int .i64 c])) ∨
      ∃ (N b : Nat) (U D : Nat → Nat → Bool), n = N ∧ w.heap.size ≤ b ∧ e = .returned (.tuple #[.pointer (some ⟨b, 0, none⟩), .int .i64 0]) ∧ Made w' N ps b U D) := by
  obtain ⟨hb, h⟩ := h
  refine ⟨hb, ?_⟩
  rcases h with ⟨_, h⟩ | ⟨hok, N, U, D, hn, ht, h⟩
  · exact Or.inl ⟨1, Or.inl rfl, h⟩
  · rcases h with ⟨_, h⟩ | ⟨hf, b, h1, h2, h3, h4⟩
    · exact Or.inl ⟨4, Or.inr rfl, h⟩
    · exact Or.inr ⟨N, b, U, D, hn, h1, h3, h2, by rw [← hn]; exact h4, ht, (flags_iff ht).1 hf, by rw [← hn]; exact okArgs_good hok⟩

theorem NewPost.ok {w w' : World} {n : Nat} {ps : List (Int × Int)} {e : Ending} (h : NewPost w n ps e w') (ha : okArgs n ps = true) (hl : ∀ U D, IsTab n ps U D → IsLat n U) :
    Below w.heap.size w w' ∧ ∃ (b : Nat) (U D : Nat → Nat → Bool), w.heap.size ≤ b ∧ e = .returned (.tuple #[.pointer (some ⟨b, 0, none⟩), .int .i64 0]) ∧ Made w' n ps b U D := by
  obtain ⟨hb, h⟩ := h
  refine ⟨hb, ?_⟩
  rcases h with ⟨h, _⟩ | ⟨_, N, U, D, hn, ht, h⟩
  · rw [ha] at h; cases h
  · obtain rfl : n = N := by omega
    rcases h with ⟨hf, _⟩ | ⟨_, b, h1, h2, h3, h4⟩
    · rw [(flags_iff ht).2 (hl U D ht)] at hf; cases hf
    · exact ⟨b, U, D, h1, h3, h2, h4, ht, hl U D ht, okArgs_good ha⟩

theorem NewPost.form {w w' : World} {n : Nat} {ps : List (Int × Int)} {e : Ending} (h : NewPost w n ps e w') (ha : okArgs n ps = true) (hl : ∀ U D, IsTab n ps U D → ¬ IsLat n U) :
    Below w.heap.size w w' ∧ e = .returned (.tuple #[.pointer none, .int .i64 4]) := by
  obtain ⟨hb, h⟩ := h
  refine ⟨hb, ?_⟩
  rcases h with ⟨h, _⟩ | ⟨_, N, U, D, hn, ht, h⟩
  · rw [ha] at h; cases h
  · obtain rfl : n = N := by omega
    rcases h with ⟨_, h⟩ | ⟨hf, _⟩
    · exact h
    · exact absurd ((flags_iff ht).1 hf) (hl U D ht)

theorem NewPost.arg {w w' : World} {n : Int} {ps : List (Int × Int)} {e : Ending} (h : NewPost w n ps e w') (ha : okArgs n ps = false) :
    Below w.heap.size w w' ∧ e = .returned (.tuple #[.pointer none, .int .i64 1]) := by
  obtain ⟨hb, h⟩ := h
  refine ⟨hb, ?_⟩
  rcases h with ⟨_, h⟩ | ⟨h, _⟩
  · exact h
  · rw [ha] at h; cases h

theorem Made.join {w : World} {n : Nat} {ps : List (Int × Int)} {b : Nat} {U D : Nat → Nat → Bool} (h : Made w n ps b U D) {x y c : Nat} (hx : x < n) (hy : y < n) (hc : Lub n U x y c) : joinB n U x y = c :=
  join_eq h.lat.le h.lat.within h.lat.antisymm hx hy hc
theorem Made.meet {w : World} {n : Nat} {ps : List (Int × Int)} {b : Nat} {U D : Nat → Nat → Bool} (h : Made w n ps b U D) {x y c : Nat} (hx : x < n) (hy : y < n) (hc : Glb n U x y c) : joinB n D x y = c :=
  meet_eq h.lat.le h.tab.down h.lat.antisymm hx hy hc
theorem Made.leq {w : World} {n : Nat} {ps : List (Int × Int)} {b : Nat} {U D : Nat → Nat → Bool} (_h : Made w n ps b U D) {x y : Nat} (hx : x < n) (hy : y < n) : leqB n U x y = U x y := leqB_in hx hy

theorem lub_iff {n : Nat} {U : Nat → Nat → Bool} (L : IsLat n U) {x y p : Nat} (hy : y < n) (hp : Lub n U x y p) : p = y ↔ U x y = true := by
  constructor
  · rintro rfl; exact hp.2.1
  · intro h; exact L.antisymm p y hp.1 hy (hp.2.2.2 y hy h (L.refl y hy)) hp.2.2.1
theorem glb_iff {n : Nat} {U : Nat → Nat → Bool} (L : IsLat n U) {x y q : Nat} (hx : x < n) (hq : Glb n U x y q) : q = x ↔ U x y = true := by
  constructor
  · rintro rfl; exact hq.2.2.1
  · intro h; exact L.antisymm q x hq.1 hx hq.2.1 (hq.2.2.2 x hx (L.refl x hx) h)
theorem lub_absorb {n : Nat} {U : Nat → Nat → Bool} (L : IsLat n U) {x y q : Nat} (hx : x < n) (hq : Glb n U x y q) : Lub n U x q x := ⟨hx, L.refl x hx, hq.2.1, fun _ _ h _ => h⟩
theorem glb_absorb {n : Nat} {U : Nat → Nat → Bool} (L : IsLat n U) {x y p : Nat} (hx : x < n) (hp : Lub n U x y p) : Glb n U x p x := ⟨hx, L.refl x hx, hp.2.1, fun _ _ h _ => h⟩
theorem lub_assoc {n : Nat} {U : Nat → Nat → Bool} (L : IsLat n U) {x y z p r s : Nat} (hx : x < n) (hy : y < n) (hz : z < n) (hp : Lub n U x y p) (hr : Lub n U p z r) (hs : Lub n U y z s) : Lub n U x s r := by
  refine ⟨hr.1, L.trans x p r hx hp.1 hr.1 hp.2.1 hr.2.1, hs.2.2.2 r hr.1 (L.trans y p r hy hp.1 hr.1 hp.2.2.1 hr.2.1) hr.2.2.1, fun d hd h1 h2 => ?_⟩
  exact hr.2.2.2 d hd (hp.2.2.2 d hd h1 (L.trans y s d hy hs.1 hd hs.2.1 h2)) (L.trans z s d hz hs.1 hd hs.2.2.1 h2)
theorem glb_assoc {n : Nat} {U : Nat → Nat → Bool} (L : IsLat n U) {x y z p r s : Nat} (hx : x < n) (hy : y < n) (hz : z < n) (hp : Glb n U x y p) (hr : Glb n U p z r) (hs : Glb n U y z s) : Glb n U x s r := by
  refine ⟨hr.1, L.trans r p x hr.1 hp.1 hx hr.2.1 hp.2.1, hs.2.2.2 r hr.1 (L.trans r p y hr.1 hp.1 hy hr.2.1 hp.2.2.1) hr.2.2.1, fun d hd h1 h2 => ?_⟩
  exact hr.2.2.2 d hd (hp.2.2.2 d hd h1 (L.trans d s y hd hs.1 hy h2 hs.2.1)) (L.trans d s z hd hs.1 hz h2 hs.2.2.1)

theorem mod_level (a : Int) (N : Nat) (h : 1 ≤ N) : ∃ X : Nat, a % (N : Int) = X ∧ X < N := by
  have h1 := Int.emod_nonneg a (show (N : Int) ≠ 0 by omega)
  have h2 := Int.emod_lt_of_pos a (show (0 : Int) < N by omega)
  exact ⟨(a % (N : Int)).toNat, by omega, by omega⟩

theorem bottom_is (b n : Nat) (v : Int) (U D : Nat → Nat → Bool) (w : World) (hn : n ≤ 16) (L : LatAt w b n U D) (h : cover U (below n) = v) :
    Calls Try.prog 24 #[.pointer (some ⟨b, 0, none⟩)] w (Reads w (.int .i64 v)) := by
  rw [← h]; exact bottom_at b n U D w hn L
theorem top_is (b n : Nat) (v : Int) (U D : Nat → Nat → Bool) (w : World) (hn : n ≤ 16) (L : LatAt w b n U D) (h : cover D (below n) = v) :
    Calls Try.prog 68 #[.pointer (some ⟨b, 0, none⟩)] w (Reads w (.int .i64 v)) := by
  rw [← h]; exact top_at b n U D w hn L

end Go.Proofs.Ytnkfjomnpnbidaa

namespace Go.Proofs.Ytnkfjomnpnbidaa
open Go.RowKit

/-- A lattice of N levels, each below the next one. -/
structure ChainAt (w : World) (b N : Nat) : Prop where
  lt : b < w.heap.size
  pos : 1 ≤ N
  le : N ≤ 16
  ex : ∃ U D, LatAt w b N U D ∧ (∀ x y, x < N → y < N → leqB N U x y = decide (x ≤ y)) ∧ (∀ x y : Nat, x < N → y < N → joinB N U x y = (max x y : Nat)) ∧ (∀ x y : Nat, x < N → y < N → joinB N D x y = (min x y : Nat)) ∧
    cover U (below N) = 0 ∧ cover D (below N) = ((N - 1 : Nat) : Int)

theorem ChainAt.below {w w' : World} {b N : Nat} (h : ChainAt w b N) (k : Below w.heap.size w w') : ChainAt w' b N := by
  obtain ⟨U, D, L, r⟩ := h.ex
  exact ⟨Nat.lt_of_lt_of_le h.lt k.size, h.pos, h.le, U, D, L.below k h.lt, r⟩
theorem ChainAt.same {w w' : World} {b N : Nat} (h : ChainAt w b N) (hb : w'.heap[b]? = w.heap[b]?) (hs : w.heap.size ≤ w'.heap.size) : ChainAt w' b N := by
  obtain ⟨U, D, L, r⟩ := h.ex
  refine ⟨Nat.lt_of_lt_of_le h.lt hs, h.pos, h.le, U, D, ?_, r⟩
  exact ⟨(World.cell?_of_block hb).trans L.len, fun a ha => (World.cell?_of_block hb).trans (L.up a ha), fun a ha => (World.cell?_of_block hb).trans (L.down a ha), fun o => (World.frozen?_of_block hb).trans (L.nf o)⟩

theorem below_drawn {w w' : World} {n : Nat} (h : w' = w.drewN n) : Below w.heap.size w w' := by rw [h]; exact below_draws (Below.refl _ _) _

/-- A call that only reads keeps all. -/
theorem Reads.below {w w' : World} {v : Value} {e : Ending} (h : Reads w v e w') : e = .returned v ∧ Below w.heap.size w w' := by
  obtain ⟨h1, m, h2⟩ := h
  exact ⟨h1, below_drawn h2⟩

theorem ch_len {w : World} {b N : Nat} (h : ChainAt w b N) : Calls Try.prog 66 #[.pointer (some ⟨b, 0, none⟩)] w (Reads w (.int .i64 N)) := by
  obtain ⟨U, D, L, _⟩ := h.ex
  exact len_at b N w L.len
theorem ch_join {w : World} {b N : Nat} (h : ChainAt w b N) {x y : Nat} (hx : x < N) (hy : y < N) : Calls Try.prog 52 #[.pointer (some ⟨b, 0, none⟩), .int .i64 x, .int .i64 y] w (Reads w (.int .i64 (max x y : Nat))) := by
  obtain ⟨U, D, L, _, hj, _⟩ := h.ex
  have := join_at b N x y U D w (by have := h.le; omega) L
  rwa [hj x y hx hy] at this
theorem ch_meet {w : World} {b N : Nat} (h : ChainAt w b N) {x y : Nat} (hx : x < N) (hy : y < N) : Calls Try.prog 67 #[.pointer (some ⟨b, 0, none⟩), .int .i64 x, .int .i64 y] w (Reads w (.int .i64 (min x y : Nat))) := by
  obtain ⟨U, D, L, _, _, hj, _⟩ := h.ex
  have := meet_at b N x y U D w (by have := h.le; omega) L
  rwa [hj x y hx hy] at this
theorem ch_leq {w : World} {b N : Nat} (h : ChainAt w b N) {x y : Nat} (hx : x < N) (hy : y < N) : Calls Try.prog 22 #[.pointer (some ⟨b, 0, none⟩), .int .i64 x, .int .i64 y] w (Reads w (.bool (decide (x ≤ y)))) := by
  obtain ⟨U, D, L, hq, _⟩ := h.ex
  have := leq_at b N x y U D w (by have := h.le; omega) L
  rwa [hq x y hx hy] at this
theorem ch_bottom {w : World} {b N : Nat} (h : ChainAt w b N) : Calls Try.prog 24 #[.pointer (some ⟨b, 0, none⟩)] w (Reads w (.int .i64 0)) := by
  obtain ⟨U, D, L, _, _, _, hb, _⟩ := h.ex
  exact bottom_is b N 0 U D w h.le L hb
theorem ch_top {w : World} {b N : Nat} (h : ChainAt w b N) : Calls Try.prog 68 #[.pointer (some ⟨b, 0, none⟩)] w (Reads w (.int .i64 ((N - 1 : Nat) : Int))) := by
  obtain ⟨U, D, L, _, _, _, _, hb⟩ := h.ex
  exact top_is b N _ U D w h.le L hb

end Go.Proofs.Ytnkfjomnpnbidaa

namespace Go.Proofs.Ytnkfjomnpnbidaa
open Go.RowKit

/-- A region that draws its order, in a family of worlds. -/
theorem wp_region_fam {P : Program} {id : Nat} {Q : Exit → Act → World → Prop} {a : Act} {w : World} {l : List Oper} {I : Type} (F : I → World) (n0 : I) (h0 : w.drew = F n0) (hm : P.follows .mixedOrders = true) (hB : Region.lexB .any l.toArray = true)
    (h : wpQuiet P l.toArray (fun w' => ∃ n, w' = F n) (fun a' => ∀ w', (∃ n, w' = F n) → Q .normal a' w') l a) : (Code.region id l.toArray true).wp P Q a w :=
  wp_region_quiet (C := fun w' => ∃ n, w' = F n) hm hB ⟨n0, h0⟩ (by simpa using h)

/-- All worlds in which nothing that is here has turned. -/
theorem later_family (w : World) : ∃ (I : Type) (_ : Nonempty I) (F : I → World) (n0 : I), w.drew = F n0 ∧ (∀ n, Below w.heap.size w (F n)) ∧ ∀ n w', Below (F n).heap.size (F n) w' → ∃ m, w' = F m :=
  ⟨{ w' : World // Below w.heap.size w w' }, ⟨⟨w, Below.refl _ _⟩⟩, Subtype.val, ⟨w.drew, (Below.refl _ _).drew⟩, rfl, fun n => n.2, fun n w' h => ⟨⟨w', n.2.trans (h.mono n.2.size)⟩, rfl⟩⟩

/-- A contract over such a family. -/
theorem calls_fam {P : Program} {f : FuncId} {args : Array Value} {I : Type} {F : I → World} {v : Value} (hc : ∀ n w', Below (F n).heap.size (F n) w' → ∃ m, w' = F m) (n : I)
    (h : Calls P f args (F n) (Gets (F n) v)) : Calls P f args (F n) fun e w'' => e = .returned v ∧ ∃ m, w'' = F m :=
  h.mono fun _ _ hg => ⟨hg.1, hc n _ hg.2⟩

end Go.Proofs.Ytnkfjomnpnbidaa
