/-
  What sorting a list of terms gives, apart from memory: each one put in its place, of those that are alike the first; a stable sort whose neighbours that are alike go is that.
-/
import Derived.Test.YtnkfjomnpnbidaaZSrtG
import Derived.Test.YtnkfjomnpnbidaaZSrtMn3
import Derived.Test.YtnkfjomnpnbidaaZOrdG
namespace Go.Proofs.Ytnkfjomnpnbidaa
open Go.Shelf Go.RowKit Go.Lib Go.Sort
set_option linter.unusedVariables false

abbrev tc (x y : Tm) : Int := x.er.cmp y.er
def insT : List Tm → Tm → List Tm
  | [], t => [t]
  | u :: us, t => if tc u t < 0 then u :: insT us t else if tc u t = 0 then u :: us else t :: u :: us
def sortT (l : List Tm) : List Tm := l.foldl insT []
theorem sortT_snoc (l : List Tm) (t : Tm) : sortT (l ++ [t]) = insT (sortT l) t := by unfold sortT; rw [List.foldl_append]; rfl

theorem tc_self (x : Tm) : tc x x = 0 := Tm.cmp_self _
theorem tc_neg (x y : Tm) : tc y x = -tc x y := Tm.cmp_neg _ _
theorem tc_v (x y z : Tm) : V3 (tc x y) (tc y z) (tc x z) := Tm.cmp_v _ _ _
theorem tc_rng (x y : Tm) : tc x y = -1 ∨ tc x y = 0 ∨ tc x y = 1 := Tm.cmp_rng _ _
theorem tc_lt {x y z : Tm} (h : tc x y < 0) (k : tc y z < 0) : tc x z < 0 := by
  obtain ⟨a, b, c⟩ := tc_v x y z
  have := tc_rng x y; have := tc_rng y z; omega
theorem tc_le_lt {x y z : Tm} (h : tc x y ≤ 0) (k : tc y z < 0) : tc x z < 0 := by
  obtain ⟨a, b, c⟩ := tc_v x y z
  have := tc_rng x y; have := tc_rng y z; omega
theorem tc_zero {x y z : Tm} (h : tc x y = 0) : tc x z = tc y z := (tc_v x y z).a h
theorem tc_zero' {x y z : Tm} (h : tc y z = 0) : tc x z = tc x y := (tc_v x y z).b h

/-- Each one ahead of all that stand behind it. -/
abbrev SS (l : List Tm) : Prop := l.Pairwise fun x y => tc x y < 0
theorem ss_ext : ∀ {l m : List Tm}, SS l → SS m → (∀ x, x ∈ l ↔ x ∈ m) → l = m
  | [], [], _, _, _ => rfl
  | [], y :: m, _, _, h => by have := (h y).2 (by simp); simp at this
  | x :: l, [], _, _, h => by have := (h x).1 (by simp); simp at this
  | x :: l, y :: m, hl, hm, h => by
    have hl' := List.pairwise_cons.1 hl
    have hm' := List.pairwise_cons.1 hm
    have e : x = y := by
      rcases List.mem_cons.1 ((h x).1 (by simp)) with e | h1
      · exact e
      · rcases List.mem_cons.1 ((h y).2 (by simp)) with e | h2
        · exact e.symm
        · have a := hm'.1 x h1
          have b := hl'.1 y h2
          have := tc_neg x y
          omega
    subst e
    have : l = m := ss_ext hl'.2 hm'.2 fun z => by
      constructor
      · intro hz
        rcases List.mem_cons.1 ((h z).1 (by simp [hz])) with e | h1
        · subst e; have := hl'.1 z hz; rw [tc_self] at this; omega
        · exact h1
      · intro hz
        rcases List.mem_cons.1 ((h z).2 (by simp [hz])) with e | h1
        · subst e; have := hm'.1 z hz; rw [tc_self] at this; omega
        · exact h1
    rw [this]
theorem insT_mem : ∀ (l : List Tm) (t x : Tm), SS l → (x ∈ insT l t ↔ x ∈ l ∨ x = t ∧ ∀ y ∈ l, tc y t ≠ 0)
  | [], t, x, _ => by simp [insT]
  | u :: us, t, x, h => by
    have h' := List.pairwise_cons.1 h
    rw [insT]
    by_cases h1 : tc u t < 0
    · rw [if_pos h1, List.mem_cons, insT_mem us t x h'.2]
      constructor
      · rintro (rfl | hx | ⟨rfl, hy⟩)
        · exact .inl (by simp)
        · exact .inl (by simp [hx])
        · exact .inr ⟨rfl, fun y hm => by rcases List.mem_cons.1 hm with rfl | hm; · omega
                                          · exact hy y hm⟩
      · rintro (hx | ⟨rfl, hy⟩)
        · rcases List.mem_cons.1 hx with rfl | hx
          · exact .inl rfl
          · exact .inr (.inl hx)
        · exact .inr (.inr ⟨rfl, fun y hm => hy y (by simp [hm])⟩)
    · rw [if_neg h1]
      by_cases h2 : tc u t = 0
      · rw [if_pos h2]
        exact ⟨fun hx => .inl hx, fun hx => by rcases hx with hx | ⟨_, hy⟩; · exact hx
                                               · exact absurd h2 (hy u (by simp))⟩
      · rw [if_neg h2, List.mem_cons]
        constructor
        · rintro (rfl | hx)
          · refine .inr ⟨rfl, fun y hm => ?_⟩
            rcases List.mem_cons.1 hm with rfl | hm
            · exact h2
            · intro e
              have h3 := h'.1 y hm
              rw [← tc_zero' (x := u) e] at h3
              exact h1 h3
          · exact .inl hx
        · rintro (hx | ⟨rfl, _⟩)
          · exact .inr hx
          · exact .inl rfl
theorem insT_ss : ∀ (l : List Tm) (t : Tm), SS l → SS (insT l t)
  | [], t, _ => by simp [insT]
  | u :: us, t, h => by
    have h' := List.pairwise_cons.1 h
    rw [insT]
    by_cases h1 : tc u t < 0
    · rw [if_pos h1]
      refine List.pairwise_cons.2 ⟨fun y hy => ?_, insT_ss us t h'.2⟩
      rcases (insT_mem us t y h'.2).1 hy with hy | ⟨rfl, _⟩
      · exact h'.1 y hy
      · exact h1
    · rw [if_neg h1]
      by_cases h2 : tc u t = 0
      · rw [if_pos h2]; exact h
      · rw [if_neg h2]
        have h3 : tc t u < 0 := by have := tc_neg u t; omega
        refine List.pairwise_cons.2 ⟨fun y hy => ?_, h⟩
        rcases List.mem_cons.1 hy with rfl | hy
        · exact h3
        · exact tc_lt h3 (h'.1 y hy)
theorem sortT_ss (l : List Tm) : SS (sortT l) := by
  have : ∀ r : List Tm, SS (sortT r.reverse) := fun r => by
    induction r with
    | nil => exact List.Pairwise.nil
    | cons t r ih => rw [List.reverse_cons, sortT_snoc]; exact insT_ss _ _ ih
  have h := this l.reverse
  rwa [List.reverse_reverse] at h
/-- The first of those that are alike. -/
def First (l : List Tm) (x : Tm) : Prop := ∃ i : Nat, l[i]? = some x ∧ ∀ (j : Nat) (y : Tm), j < i → l[j]? = some y → tc y x ≠ 0
theorem first_nil (x : Tm) : ¬ First [] x := fun ⟨i, h, _⟩ => by simp at h
theorem first_snoc (l : List Tm) (t x : Tm) : First (l ++ [t]) x ↔ First l x ∨ x = t ∧ ∀ y ∈ l, tc y t ≠ 0 := by
  constructor
  · rintro ⟨i, h, hj⟩
    by_cases hi : i < l.length
    · rw [List.getElem?_append_left hi] at h
      exact .inl ⟨i, h, fun j y hji hy => hj j y hji (by rw [List.getElem?_append_left (by omega)]; exact hy)⟩
    · have hil : i = l.length := by
        have := (List.getElem?_eq_some_iff.1 h).1
        simp at this; omega
      subst hil
      rw [List.getElem?_append_right (Nat.le_refl _), Nat.sub_self] at h
      have e : t = x := by simpa using h
      subst e
      refine .inr ⟨rfl, fun y hy => ?_⟩
      obtain ⟨j, hjl, e⟩ := List.getElem_of_mem hy
      exact hj j y hjl (by rw [List.getElem?_append_left hjl, List.getElem?_eq_getElem hjl, e])
  · rintro (⟨i, h, hj⟩ | ⟨rfl, hy⟩)
    · have hi := (List.getElem?_eq_some_iff.1 h).1
      exact ⟨i, by rw [List.getElem?_append_left hi]; exact h, fun j y hji hy => hj j y hji (by rw [List.getElem?_append_left (by omega)] at hy; exact hy)⟩
    · refine ⟨l.length, by simp, fun j y hji h => ?_⟩
      rw [List.getElem?_append_left hji] at h
      exact hy y (List.mem_of_getElem? h)
theorem first_rep {l : List Tm} : ∀ {y : Tm}, y ∈ l → ∃ x, First l x ∧ tc x y = 0 := by
  have : ∀ r : List Tm, ∀ y ∈ r.reverse, ∃ x, First r.reverse x ∧ tc x y = 0 := fun r => by
    induction r with
    | nil => intro y hy; simp at hy
    | cons t r ih =>
      intro y hy
      rw [List.reverse_cons] at hy ⊢
      rcases List.mem_append.1 hy with hy | hy
      · obtain ⟨x, h1, h2⟩ := ih y hy
        exact ⟨x, (first_snoc _ _ _).2 (.inl h1), h2⟩
      · obtain rfl : y = t := by simpa using hy
        by_cases h : ∃ z ∈ r.reverse, tc z y = 0
        · obtain ⟨z, hz, e⟩ := h
          obtain ⟨x, h1, h2⟩ := ih z hz
          exact ⟨x, (first_snoc _ _ _).2 (.inl h1), by rw [tc_zero h2]; exact e⟩
        · exact ⟨y, (first_snoc _ _ _).2 (.inr ⟨rfl, fun z hz e => h ⟨z, hz, e⟩⟩), tc_self y⟩
  intro y hy
  have h := this l.reverse y (by rw [List.reverse_reverse]; exact hy)
  rwa [List.reverse_reverse] at h
theorem sortT_mem (l : List Tm) : ∀ x, x ∈ sortT l ↔ First l x := by
  have : ∀ r : List Tm, ∀ x, x ∈ sortT r.reverse ↔ First r.reverse x := fun r => by
    induction r with
    | nil => intro x; exact ⟨fun h => by simp [sortT] at h, fun h => absurd h (first_nil x)⟩
    | cons t r ih =>
      intro x
      rw [List.reverse_cons, sortT_snoc, insT_mem _ _ _ (sortT_ss _), first_snoc, ih x]
      refine or_congr Iff.rfl (and_congr Iff.rfl ⟨fun h y hy e => ?_, fun h y hy => ?_⟩)
      · obtain ⟨z, hz, e'⟩ := first_rep hy
        exact h z ((ih z).2 hz) (by rw [tc_zero e']; exact e)
      · obtain ⟨i, hi, _⟩ := (ih y).1 hy
        exact h y (List.mem_of_getElem? hi)
  have h := this l.reverse
  rwa [List.reverse_reverse] at h
/-- What rises, each once, of the first ones: there is one such list. -/
theorem sortT_eq {l m : List Tm} (h : SS m) (hm : ∀ x, x ∈ m ↔ First l x) : m = sortT l :=
  ss_ext h (sortT_ss l) fun x => (hm x).trans (sortT_mem l x).symm

theorem insT_length : ∀ (l : List Tm) (t : Tm), (insT l t).length ≤ l.length + 1
  | [], t => by simp [insT]
  | u :: us, t => by
    rw [insT]; have := insT_length us t
    split
    · simpa using this
    · split <;> simp
theorem sortT_length (l : List Tm) : (sortT l).length ≤ l.length := by
  have : ∀ r : List Tm, (sortT r.reverse).length ≤ r.reverse.length := fun r => by
    induction r with
    | nil => simp [sortT]
    | cons t r ih => rw [List.reverse_cons, sortT_snoc, List.length_append]; have := insT_length (sortT r.reverse) t; simp at ih ⊢; omega
  have h := this l.reverse
  rwa [List.reverse_reverse] at h
section
variable {α : Type} [Inhabited α]
/-- What is left of the stable sort behind the neighbours that are alike. -/
theorem stable_left {cf : α → α → Int} {tg : α → Nat} {ef : α → α → Bool} {f : α → Tm} (hcf : ∀ x y, cf x y = tc (f x) (f y)) (hef : ∀ x y, ef x y = decide (tc (f x) (f y) = 0))
    {d d' : Array α} {n : Nat} (hn : d.size = n) (hp : PermIn 0 n d d') (hs : SortedIn (ltT cf tg) 0 n d') (ht : ∀ p q, p < q → q < n → tg d[p]! < tg d[q]!) :
    (keptUpTo (keepsF ef d') d' d'.size).map f = sortT (d.toList.map f) := by
  have hn' : d'.size = n := hp.1.trans hn
  have hperm : d'.toList.Perm d.toList := by
    have h := hp.2.2
    rwa [show d'.extract 0 n = d' by rw [← hn']; simp, show d.extract 0 n = d by rw [← hn]; simp] at h
  have le : ∀ i j, i < j → j < n → tc (f d'[i]!) (f d'[j]!) ≤ 0 ∧ (tc (f d'[i]!) (f d'[j]!) = 0 → tg d'[i]! ≤ tg d'[j]!) := fun i j h1 h2 => by
    have h := hs i j (Nat.zero_le _) h1 h2
    simp only [ltT, decide_eq_false_iff_not] at h
    rw [hcf] at h
    have := tc_neg (f d'[i]!) (f d'[j]!)
    omega
  have nodup : ∀ i j, i < n → j < n → tg d'[i]! = tg d'[j]! → i = j := by
    have h1 : (d.toList.map tg).Pairwise (· ≠ ·) := by
      rw [List.pairwise_iff_getElem]
      intro i j hi hj hij
      simp only [List.length_map, Array.length_toList] at hi hj
      simp only [List.getElem_map, Array.getElem_toList]
      have := ht i j hij (by omega)
      rw [getElem!_pos d i hi, getElem!_pos d j hj] at this
      omega
    have h2 : (d'.toList.map tg).Pairwise (· ≠ ·) := ((hperm.map tg).pairwise_iff fun h => h.symm).2 h1
    have h3 : ∀ i j, i < j → j < n → tg d'[i]! ≠ tg d'[j]! := fun i j h4 h5 => by
      have h := List.pairwise_iff_getElem.1 h2 i j (by simp; omega) (by simp; omega) h4
      simp only [List.getElem_map, Array.getElem_toList] at h
      rw [getElem!_pos d' i (by omega), getElem!_pos d' j (by omega)]
      exact h
    intro i j hi hj e
    rcases Nat.lt_trichotomy i j with h | h | h
    · exact absurd e (h3 i j h hj)
    · exact h
    · exact absurd e.symm (h3 j i h hi)
  have kept : ∀ j, keepsF ef d' j = true ↔ j = 0 ∨ tc (f d'[j]!) (f d'[j - 1]!) ≠ 0 := fun j => by
    simp only [keepsF, Bool.or_eq_true, decide_eq_true_eq, Bool.not_eq_true', hef, decide_eq_false_iff_not]
  have memd : ∀ x, x ∈ d'.toList ↔ ∃ i, i < n ∧ d[i]! = x := fun x => by
    rw [hperm.mem_iff]
    constructor
    · intro h
      obtain ⟨i, hi, e⟩ := List.getElem_of_mem h
      simp only [Array.length_toList] at hi
      exact ⟨i, by omega, by rw [getElem!_pos d i hi]; simpa using e⟩
    · rintro ⟨i, hi, rfl⟩
      rw [getElem!_pos d i (by omega)]; exact Array.mem_toList_iff.2 (Array.getElem_mem _)
  have memd' : ∀ x, x ∈ d'.toList ↔ ∃ i, i < n ∧ d'[i]! = x := fun x => by
    constructor
    · intro h
      obtain ⟨i, hi, e⟩ := List.getElem_of_mem h
      simp only [Array.length_toList] at hi
      exact ⟨i, by omega, by rw [getElem!_pos d' i hi]; simpa using e⟩
    · rintro ⟨i, hi, rfl⟩
      rw [getElem!_pos d' i (by omega)]; exact Array.mem_toList_iff.2 (Array.getElem_mem _)
  -- a place that stays holds the one with the lowest tag
  have low : ∀ j, j < n → (keepsF ef d' j = true ↔ ∀ i, i < n → tc (f d'[i]!) (f d'[j]!) = 0 → tg d'[j]! ≤ tg d'[i]!) := fun j hj => by
    rw [kept]
    constructor
    · intro h i hi e
      by_cases hij : i < j
      · exfalso
        rcases h with h | h
        · omega
        · have a := (le (j - 1) j (by omega) hj).1
          have n1 := tc_neg (f d'[j]!) (f d'[j - 1]!)
          have lt : tc (f d'[j - 1]!) (f d'[j]!) < 0 := by omega
          by_cases hij' : i = j - 1
          · subst hij'; omega
          · have := tc_le_lt (le i (j - 1) (by omega) (by omega)).1 lt
            omega
      · by_cases hij' : i = j
        · subst hij'; exact Nat.le_refl _
        · exact (le j i (by omega) hi).2 (by have := tc_neg (f d'[i]!) (f d'[j]!); omega)
    · intro h
      by_cases hj0 : j = 0
      · exact .inl hj0
      · refine .inr fun e => ?_
        have e' : tc (f d'[j - 1]!) (f d'[j]!) = 0 := by have := tc_neg (f d'[j]!) (f d'[j - 1]!); omega
        have a := h (j - 1) (by omega) e'
        have b := (le (j - 1) j (by omega) hj).2 e'
        have := nodup (j - 1) j (by omega) hj (by omega)
        omega
  refine sortT_eq ?_ fun x => ?_
  · rw [keptUpTo, List.map_map, SS, List.pairwise_map]
    refine List.Pairwise.imp_of_mem ?_ ((List.pairwise_lt_range (n := d'.size)).filter _)
    intro i j hi hj hij
    have hj1 := (List.mem_filter.1 hj)
    have hjn : j < n := by have := List.mem_range.1 hj1.1; omega
    have hk := (kept j).1 hj1.2
    show tc (f d'[i]!) (f d'[j]!) < 0
    have a := (le (j - 1) j (by omega) hjn).1
    have n1 := tc_neg (f d'[j]!) (f d'[j - 1]!)
    have lt : tc (f d'[j - 1]!) (f d'[j]!) < 0 := by
      rcases hk with hk | hk
      · omega
      · omega
    by_cases e : i = j - 1
    · subst e; exact lt
    · exact tc_le_lt (le i (j - 1) (by omega) (by omega)).1 lt
  · rw [keptUpTo, List.map_map, List.mem_map]
    constructor
    · rintro ⟨j, hj, rfl⟩
      have hj1 := (List.mem_filter.1 hj)
      have hjn : j < n := by have := List.mem_range.1 hj1.1; omega
      have hl := (low j hjn).1 hj1.2
      obtain ⟨i, hi, e⟩ := (memd d'[j]!).1 ((memd' _).2 ⟨j, hjn, rfl⟩)
      refine ⟨i, by rw [List.getElem?_map, List.getElem?_eq_getElem (by simp; omega)]; simp only [Option.map_some, Array.getElem_toList]; rw [← getElem!_pos d i (by omega), e]; rfl, fun q y hq hy e' => ?_⟩
      rw [List.getElem?_map, List.getElem?_eq_getElem (by simp; omega)] at hy
      simp only [Option.map_some, Array.getElem_toList, Option.some.injEq] at hy
      rw [← getElem!_pos d q (by omega)] at hy
      obtain ⟨r, hr, er⟩ := (memd' d[q]!).1 ((memd _).2 ⟨q, by omega, rfl⟩)
      have h1 := hl r hr (by rw [er, hy]; exact e')
      rw [er, ← e] at h1
      have := ht q i hq hi
      omega
    · rintro ⟨i, hi, hq⟩
      have hil : i < n := by have := (List.getElem?_eq_some_iff.1 hi).1; simp at this; omega
      rw [List.getElem?_map, List.getElem?_eq_getElem (by simp; omega)] at hi
      simp only [Option.map_some, Array.getElem_toList, Option.some.injEq] at hi
      rw [← getElem!_pos d i (by omega)] at hi
      obtain ⟨j, hj, ej⟩ := (memd' d[i]!).1 ((memd _).2 ⟨i, hil, rfl⟩)
      refine ⟨j, List.mem_filter.2 ⟨List.mem_range.2 (by omega), (low j hj).2 fun r hr e => ?_⟩, by show f d'[j]! = x; rw [ej]; exact hi⟩
      obtain ⟨q, hqn, eq⟩ := (memd d'[r]!).1 ((memd' _).2 ⟨r, hr, rfl⟩)
      rw [ej, hi] at e
      by_cases hqi : q < i
      · exfalso
        refine hq q (f d[q]!) hqi ?_ (by rw [eq]; exact e)
        rw [List.getElem?_map, List.getElem?_eq_getElem (by simp; omega)]
        simp only [Option.map_some, Array.getElem_toList]
        rw [← getElem!_pos d q (by omega)]
      · rw [ej, ← eq]
        by_cases e2 : q = i
        · subst e2; exact Nat.le_refl _
        · exact Nat.le_of_lt (ht i q (by omega) hqn)
end
end Go.Proofs.Ytnkfjomnpnbidaa
