/-
  The stable sort, apart from memory: exchanges of ranges, turns of a range, what merging in place makes of two ascending parts.
-/
import Derived.Test.YtnkfjomnpnbidaaZSrtAn2
import Derived.Test.YtnkfjomnpnbidaaZOrdG
import Derived.Sort.LotA
namespace Go.Proofs.Ytnkfjomnpnbidaa
open Go.Shelf Go.RowKit Go.Lib Go.Sort
set_option linter.unusedVariables false
section
variable {α : Type} [Inhabited α] {cf : α → α → Int} {tg : α → Nat}

/-- An order of things of which some are alike. -/
structure Tot (cf : α → α → Int) : Prop where
  neg : ∀ x y, cf y x = -cf x y
  v : ∀ x y z, V3 (cf x y) (cf y z) (cf x z)
  rng : ∀ x y, cf x y = -1 ∨ cf x y = 0 ∨ cf x y = 1
/-- Ahead, or alike and tagged lower. -/
def ltT (cf : α → α → Int) (tg : α → Nat) (x y : α) : Bool := decide (cf x y < 0 ∨ cf x y = 0 ∧ tg x < tg y)
omit [Inhabited α] in
theorem Tot.swo (h : Tot cf) : SWO (ltT cf tg) where
  irrefl x := by
    have := h.neg x x
    simp only [ltT, decide_eq_false_iff_not]; omega
  trans x y z a b := by
    simp only [ltT, decide_eq_true_eq] at *
    obtain ⟨v1, v2, v3⟩ := h.v x y z
    have r1 := h.rng x y; have r2 := h.rng y z; have r3 := h.rng x z
    omega
  ntrans x y z a b := by
    simp only [ltT, decide_eq_false_iff_not] at *
    obtain ⟨v1, v2, v3⟩ := h.v x y z
    have r1 := h.rng x y; have r2 := h.rng y z; have r3 := h.rng x z
    omega
omit [Inhabited α] in
theorem ltT_of (x y : α) (h : tg x < tg y) : ltT cf tg y x = ltOf cf y x := by
  unfold ltT ltOf
  rw [decide_eq_decide]; omega

theorem swp_at (d : Array α) (i j k : Nat) (hi : i < d.size) (hj : j < d.size) : (swp d i j)[k]! = if k = j then d[i]! else if k = i then d[j]! else d[k]! := swp_get d hi hj k
theorem swaps_at (d : Array α) (a b : Nat) : ∀ (n : Nat), a + n ≤ b → b + n ≤ d.size → ∀ k, (swaps d a b n)[k]! = if a ≤ k ∧ k < a + n then d[k + (b - a)]! else if b ≤ k ∧ k < b + n then d[k - (b - a)]! else d[k]!
  | 0, _, _, k => by rw [swaps, if_neg (by omega), if_neg (by omega)]
  | n + 1, h1, h2, k => by
    have ih := swaps_at d a b n (by omega) (by omega)
    rw [swaps, swp_at _ _ _ _ (by rw [size_swaps]; omega) (by rw [size_swaps]; omega), ih, ih, ih]
    by_cases e1 : k = b + n
    · subst e1
      rw [if_pos rfl, if_neg (by omega), if_neg (by omega), if_neg (by omega), if_pos (by omega)]
      congr 1; omega
    · rw [if_neg e1]
      by_cases e2 : k = a + n
      · subst e2
        rw [if_pos rfl, if_neg (by omega), if_neg (by omega), if_pos (by omega)]
        congr 1; omega
      · rw [if_neg e2]
        by_cases e3 : a ≤ k ∧ k < a + n
        · rw [if_pos e3, if_pos (by omega)]
        · rw [if_neg e3, if_neg (show ¬(a ≤ k ∧ k < a + (n + 1)) by omega)]
          by_cases e4 : b ≤ k ∧ k < b + n
          · rw [if_pos e4, if_pos (by omega)]
          · rw [if_neg e4, if_neg (by omega)]
theorem swaps_perm (d : Array α) (lo hi a b : Nat) (hlo : lo ≤ a) (hab : lo ≤ b) (hs : hi ≤ d.size) : ∀ n, a + n ≤ hi → b + n ≤ hi → PermIn lo hi d (swaps d a b n)
  | 0, _, _ => permIn_refl d lo hi
  | n + 1, h1, h2 => by
    rw [swaps]
    exact permIn_trans _ _ _ _ _ (swaps_perm d lo hi a b hlo hab hs n (by omega) (by omega)) (swp_permIn _ _ _ _ _ (by omega) (by omega) (by omega) (by omega) (by rw [size_swaps]; exact hs))

/-- d' is d with the parts [a, m) and [m, b) one in the other's place. -/
structure Rot (d : Array α) (a m b : Nat) (d' : Array α) : Prop where
  sz : d'.size = d.size
  get : ∀ k, d'[k]! = if a ≤ k ∧ k < a + (b - m) then d[k + (m - a)]! else if a + (b - m) ≤ k ∧ k < b then d[k - (b - m)]! else d[k]!
theorem Rot.none (d : Array α) (a m b : Nat) (h : a ≤ m) (h2 : m ≤ b) (e : a = m ∨ m = b) : Rot d a m b d := by
  refine ⟨rfl, fun k => ?_⟩
  rcases e with rfl | rfl
  · split
    · congr 1; omega
    · split
      · exfalso; omega
      · rfl
  · split
    · exfalso; omega
    · split
      · congr 1; omega
      · rfl
/-- i of the one part, j of the other are left. -/
theorem Rot.gt {d d' : Array α} {m i j : Nat} (hij : j < i) (hm : i ≤ m) (hs : m + j ≤ d.size) (h : Rot (swaps d (m - i) m j) (m - (i - j)) m (m + j) d') : Rot d (m - i) m (m + j) d' := by
  refine ⟨by rw [h.sz, size_swaps], fun k => ?_⟩
  have g := swaps_at d (m - i) m j (by omega) (by omega)
  rw [h.get k, g, g, g]
  by_cases c1 : m - i ≤ k ∧ k < m - i + (m + j - m)
  · rw [if_neg (show ¬(m - (i - j) ≤ k ∧ k < m - (i - j) + (m + j - m)) by omega), if_neg (show ¬(m - (i - j) + (m + j - m) ≤ k ∧ k < m + j) by omega), if_pos (show m - i ≤ k ∧ k < m - i + j by omega), if_pos c1]
  · rw [if_neg c1]
    by_cases c2 : m - (i - j) ≤ k ∧ k < m - (i - j) + (m + j - m)
    · rw [if_pos c2, if_neg (show ¬(m - i ≤ k + (m - (m - (i - j))) ∧ k + (m - (m - (i - j))) < m - i + j) by omega), if_pos (show m ≤ k + (m - (m - (i - j))) ∧ k + (m - (m - (i - j))) < m + j by omega), if_pos (show m - i + (m + j - m) ≤ k ∧ k < m + j by omega)]
      congr 1; omega
    · rw [if_neg c2]
      by_cases c3 : m - (i - j) + (m + j - m) ≤ k ∧ k < m + j
      · rw [if_pos c3, if_neg (show ¬(m - i ≤ k - (m + j - m) ∧ k - (m + j - m) < m - i + j) by omega), if_neg (show ¬(m ≤ k - (m + j - m) ∧ k - (m + j - m) < m + j) by omega), if_pos (show m - i + (m + j - m) ≤ k ∧ k < m + j by omega)]
      · rw [if_neg c3, if_neg (show ¬(m - i ≤ k ∧ k < m - i + j) by omega), if_neg (show ¬(m ≤ k ∧ k < m + j) by omega), if_neg (show ¬(m - i + (m + j - m) ≤ k ∧ k < m + j) by omega)]
theorem Rot.lt {d d' : Array α} {m i j : Nat} (hij : i < j) (hm : i ≤ m) (hs : m + j ≤ d.size) (h : Rot (swaps d (m - i) (m + j - i) i) (m - i) m (m + (j - i)) d') : Rot d (m - i) m (m + j) d' := by
  refine ⟨by rw [h.sz, size_swaps], fun k => ?_⟩
  have g := swaps_at d (m - i) (m + j - i) i (by omega) (by omega)
  rw [h.get k, g, g, g]
  by_cases c1 : m - i ≤ k ∧ k < m - i + (m + (j - i) - m)
  · rw [if_pos c1, if_pos (show m - i ≤ k ∧ k < m - i + (m + j - m) by omega), if_neg (show ¬(m - i ≤ k + (m - (m - i)) ∧ k + (m - (m - i)) < m - i + i) by omega), if_neg (show ¬(m + j - i ≤ k + (m - (m - i)) ∧ k + (m - (m - i)) < m + j - i + i) by omega)]
  · rw [if_neg c1]
    by_cases c2 : m - i + (m + (j - i) - m) ≤ k ∧ k < m + (j - i)
    · rw [if_pos c2, if_pos (show m - i ≤ k - (m + (j - i) - m) ∧ k - (m + (j - i) - m) < m - i + i by omega), if_pos (show m - i ≤ k ∧ k < m - i + (m + j - m) by omega)]
      congr 1; omega
    · rw [if_neg c2, if_neg (show ¬(m - i ≤ k ∧ k < m - i + i) by omega)]
      by_cases c3 : m + j - i ≤ k ∧ k < m + j - i + i
      · rw [if_pos c3, if_neg (show ¬(m - i ≤ k ∧ k < m - i + (m + j - m)) by omega), if_pos (show m - i + (m + j - m) ≤ k ∧ k < m + j by omega)]
        congr 1; omega
      · rw [if_neg c3, if_neg (show ¬(m - i ≤ k ∧ k < m - i + (m + j - m)) by omega), if_neg (show ¬(m - i + (m + j - m) ≤ k ∧ k < m + j) by omega)]
theorem Rot.eq {d : Array α} {m i : Nat} (hm : i ≤ m) (hs : m + i ≤ d.size) : Rot d (m - i) m (m + i) (swaps d (m - i) m i) := by
  refine ⟨by rw [size_swaps], fun k => ?_⟩
  rw [swaps_at d (m - i) m i (by omega) (by omega)]
  by_cases c1 : m - i ≤ k ∧ k < m - i + i
  · rw [if_pos c1, if_pos (show m - i ≤ k ∧ k < m - i + (m + i - m) by omega)]
  · rw [if_neg c1, if_neg (show ¬(m - i ≤ k ∧ k < m - i + (m + i - m)) by omega)]
    by_cases c2 : m ≤ k ∧ k < m + i
    · rw [if_pos c2, if_pos (show m - i + (m + i - m) ≤ k ∧ k < m + i by omega)]; congr 1; omega
    · rw [if_neg c2, if_neg (show ¬(m - i + (m + i - m) ≤ k ∧ k < m + i) by omega)]
/-- One element goes up by one place, or down. -/
theorem Rot.up {d dk : Array α} {a k : Nat} (hk : a ≤ k) (hs : k + 1 < d.size) (h : Rot d a (a + 1) (k + 1) dk) : Rot d a (a + 1) (k + 1 + 1) (swp dk k (k + 1)) := by
  refine ⟨by rw [size_swp, h.sz], fun p => ?_⟩
  rw [swp_at _ _ _ _ (by rw [h.sz]; omega) (by rw [h.sz]; omega), h.get, h.get, h.get]
  by_cases e1 : p = k + 1
  · subst e1
    rw [if_pos rfl, if_neg (show ¬(a ≤ k ∧ k < a + (k + 1 - (a + 1))) by omega), if_pos (show a + (k + 1 - (a + 1)) ≤ k ∧ k < k + 1 by omega), if_neg (show ¬(a ≤ k + 1 ∧ k + 1 < a + (k + 1 + 1 - (a + 1))) by omega), if_pos (show a + (k + 1 + 1 - (a + 1)) ≤ k + 1 ∧ k + 1 < k + 1 + 1 by omega)]
    congr 1; omega
  · rw [if_neg e1]
    by_cases e2 : p = k
    · subst e2
      rw [if_pos rfl, if_neg (show ¬(a ≤ p + 1 ∧ p + 1 < a + (p + 1 - (a + 1))) by omega), if_neg (show ¬(a + (p + 1 - (a + 1)) ≤ p + 1 ∧ p + 1 < p + 1) by omega), if_pos (show a ≤ p ∧ p < a + (p + 1 + 1 - (a + 1)) by omega)]
      congr 1; omega
    · rw [if_neg e2]
      by_cases c1 : a ≤ p ∧ p < a + (k + 1 - (a + 1))
      · rw [if_pos c1, if_pos (show a ≤ p ∧ p < a + (k + 1 + 1 - (a + 1)) by omega)]
      · rw [if_neg c1, if_neg (show ¬(a + (k + 1 - (a + 1)) ≤ p ∧ p < k + 1) by omega), if_neg (show ¬(a ≤ p ∧ p < a + (k + 1 + 1 - (a + 1))) by omega), if_neg (show ¬(a + (k + 1 + 1 - (a + 1)) ≤ p ∧ p < k + 1 + 1) by omega)]
theorem Rot.down {d dk : Array α} {m k : Nat} (hk : k + 1 ≤ m) (hs : m < d.size) (h : Rot d (k + 1) m (m + 1) dk) : Rot d k m (m + 1) (swp dk (k + 1) k) := by
  refine ⟨by rw [size_swp, h.sz], fun p => ?_⟩
  rw [swp_at _ _ _ _ (by rw [h.sz]; omega) (by rw [h.sz]; omega), h.get, h.get, h.get]
  by_cases e1 : p = k
  · subst e1
    rw [if_pos rfl, if_pos (show p + 1 ≤ p + 1 ∧ p + 1 < p + 1 + (m + 1 - m) by omega), if_pos (show p ≤ p ∧ p < p + (m + 1 - m) by omega)]
    congr 1; omega
  · rw [if_neg e1]
    by_cases e2 : p = k + 1
    · subst e2
      rw [if_pos rfl, if_neg (show ¬(k + 1 ≤ k ∧ k < k + 1 + (m + 1 - m)) by omega), if_neg (show ¬(k + 1 + (m + 1 - m) ≤ k ∧ k < m + 1) by omega), if_neg (show ¬(k ≤ k + 1 ∧ k + 1 < k + (m + 1 - m)) by omega), if_pos (show k + (m + 1 - m) ≤ k + 1 ∧ k + 1 < m + 1 by omega)]
      congr 1; omega
    · rw [if_neg e2, if_neg (show ¬(k + 1 ≤ p ∧ p < k + 1 + (m + 1 - m)) by omega), if_neg (show ¬(k ≤ p ∧ p < k + (m + 1 - m)) by omega)]
      by_cases c1 : k + 1 + (m + 1 - m) ≤ p ∧ p < m + 1
      · rw [if_pos c1, if_pos (show k + (m + 1 - m) ≤ p ∧ p < m + 1 by omega)]
      · rw [if_neg c1, if_neg (show ¬(k + (m + 1 - m) ≤ p ∧ p < m + 1) by omega)]

/-- Two ascending parts, the first one's tags below the other's. -/
structure Pre (cf : α → α → Int) (tg : α → Nat) (d : Array α) (a m b : Nat) : Prop where
  am : a ≤ m
  mb : m ≤ b
  bs : b ≤ d.size
  l : SortedIn (ltT cf tg) a m d
  r : SortedIn (ltT cf tg) m b d
  tags : ∀ i j, a ≤ i → i < m → m ≤ j → j < b → tg d[i]! < tg d[j]!
/-- Where the parts are cut: s ends the first's lower half, e the other's. -/
structure Cut (cf : α → α → Int) (tg : α → Nat) (d : Array α) (a m b s e : Nat) : Prop where
  sa : a ≤ s
  sm : s ≤ m
  me : m ≤ e
  eb : e ≤ b
  c1 : s = a ∨ e = b ∨ ltT cf tg d[e]! d[s - 1]! = false
  c2 : s = m ∨ e = m ∨ ltT cf tg d[e - 1]! d[s]! = true
theorem sorted_le {lt : α → α → Bool} (hS : SWO lt) {d : Array α} {a b i j : Nat} (h : SortedIn lt a b d) (h1 : a ≤ i) (h2 : i ≤ j) (h3 : j < b) : lt d[j]! d[i]! = false := by
  by_cases e : i = j
  · subst e; exact hS.irrefl _
  · exact h i j h1 (by omega) h3

/-- What lies in the two new parts, behind the turn. -/
structure Turned (cf : α → α → Int) (tg : α → Nat) (d : Array α) (a s mid e b : Nat) : Prop where
  lo : Pre cf tg d a s mid
  hi : Pre cf tg d mid e b
  cross : ∀ i j, a ≤ i → i < mid → mid ≤ j → j < b → ltT cf tg d[j]! d[i]! = false
theorem turned (h : Tot cf) {d d1 : Array α} {a m b s e : Nat} (p : Pre cf tg d a m b) (c : Cut cf tg d a m b s e) (r : Rot d s m e d1) : Turned cf tg d1 a s (s + (e - m)) e b := by
  have hS := h.swo (tg := tg)
  obtain ⟨q1, q2, q3, q4, q5, q6⟩ := p
  obtain ⟨r1, r2, r3, r4, r5, r6⟩ := c
  have A : ∀ k, k < s → d1[k]! = d[k]! := fun k hk => by rw [r.get, if_neg (by omega), if_neg (by omega)]
  have B : ∀ k, s ≤ k → k < s + (e - m) → d1[k]! = d[k + (m - s)]! := fun k h1 h2 => by rw [r.get, if_pos ⟨h1, h2⟩]
  have C : ∀ k, s + (e - m) ≤ k → k < e → d1[k]! = d[k - (e - m)]! := fun k h1 h2 => by rw [r.get, if_neg (by omega), if_pos ⟨h1, h2⟩]
  have D : ∀ k, e ≤ k → d1[k]! = d[k]! := fun k hk => by rw [r.get, if_neg (by omega), if_neg (by omega)]
  have hs := r.sz
  refine ⟨⟨by omega, by omega, by omega, fun i j h1 h2 h3 => ?_, fun i j h1 h2 h3 => ?_, fun i j h1 h2 h3 h4 => ?_⟩, ⟨by omega, by omega, by omega, fun i j h1 h2 h3 => ?_, fun i j h1 h2 h3 => ?_, fun i j h1 h2 h3 h4 => ?_⟩, fun i j h1 h2 h3 h4 => ?_⟩
  · rw [A i (by omega), A j (by omega)]; exact q4 i j h1 h2 (by omega)
  · rw [B i (by omega) (by omega), B j (by omega) (by omega)]; exact q5 _ _ (by omega) (by omega) (by omega)
  · rw [A i (by omega), B j (by omega) (by omega)]; exact q6 _ _ (by omega) (by omega) (by omega) (by omega)
  · rw [C i (by omega) (by omega), C j (by omega) (by omega)]; exact q4 _ _ (by omega) (by omega) (by omega)
  · rw [D i (by omega), D j (by omega)]; exact q5 _ _ (by omega) (by omega) (by omega)
  · rw [C i (by omega) (by omega), D j (by omega)]; exact q6 _ _ (by omega) (by omega) (by omega) (by omega)
  · by_cases hi : i < s
    · rw [A i hi]
      by_cases hj : j < e
      · rw [C j h3 hj]; exact q4 _ _ h1 (by omega) (by omega)
      · rw [D j (by omega)]
        have g : ltT cf tg d[e]! d[s - 1]! = false := by rcases r5 with g | g | g <;> first | (exfalso; omega) | exact g
        exact hS.ntrans _ _ _ (hS.ntrans _ _ _ (sorted_le hS q5 r3 (by omega) h4) g) (sorted_le hS q4 h1 (by omega) (by omega))
    · rw [B i (by omega) h2]
      by_cases hj : j < e
      · rw [C j h3 hj]
        have g : ltT cf tg d[e - 1]! d[s]! = true := by rcases r6 with g | g | g <;> first | (exfalso; omega) | exact g
        exact hS.ntrans _ _ _ (hS.ntrans _ _ _ (sorted_le hS q4 r1 (by omega) (by omega)) (hS.asymmA g)) (sorted_le hS q5 (by omega) (by omega) (by omega))
      · rw [D j (by omega)]; exact q5 _ _ (by omega) (by omega) (by omega)
/-- Both parts ascending, none of the second ahead of one of the first: all of it is. -/
theorem joined {lt : α → α → Bool} {d : Array α} {a mid b : Nat} (h1 : SortedIn lt a mid d) (h2 : SortedIn lt mid b d) (h3 : ∀ i j, a ≤ i → i < mid → mid ≤ j → j < b → lt d[j]! d[i]! = false) : SortedIn lt a b d := fun i j p q r => by
  by_cases hj : j < mid
  · exact h1 i j p q hj
  · by_cases hi : i < mid
    · exact h3 i j p hi (by omega) r
    · exact h2 i j (by omega) q r
/-- Both parts merged, each by itself. -/
theorem merged {d d1 d2 d3 : Array α} {a s mid e b : Nat} (t : Turned cf tg d1 a s mid e b) (p2 : PermIn a mid d1 d2) (s2 : SortedIn (ltT cf tg) a mid d2) (p3 : PermIn mid b d2 d3) (s3 : SortedIn (ltT cf tg) mid b d3) :
    PermIn a b d1 d3 ∧ SortedIn (ltT cf tg) a b d3 := by
  have hb1 : b ≤ d1.size := t.hi.bs
  have hm1 : mid ≤ b := by have := t.hi.am; have := t.hi.mb; omega
  have hm0 : a ≤ mid := by have := t.lo.am; have := t.lo.mb; omega
  have hs2 := p2.1
  have hs3 := p3.1
  refine ⟨permIn_trans _ _ _ _ _ (permIn_mono _ _ _ _ _ _ (Nat.le_refl _) hm1 (by omega) p2) (permIn_mono _ _ _ _ _ _ hm0 (Nat.le_refl _) (by omega) p3), joined (fun i j h1 h2 h3 => ?_) s3 fun i j h1 h2 h3 h4 => ?_⟩
  · rw [p3.2.1 i (by omega), p3.2.1 j (by omega)]; exact s2 i j h1 h2 h3
  · rw [p3.2.1 i (by omega)]
    refine permIn_all d2 d3 mid b (fun x => ltT cf tg x d2[i]! = false) (by omega) p3 (fun q k1 k2 => ?_) j h3 h4
    rw [p2.2.1 q (by omega)]
    exact permIn_all d1 d2 a mid (fun x => ltT cf tg d1[q]! x = false) (by omega) p2 (fun q' k3 k4 => t.cross q' q k3 k4 k1 k2) i h1 h2
theorem Pre.tags_of {d : Array α} {a m b : Nat} (p : Pre cf tg d a m b) {i j : Nat} (h1 : a ≤ i) (h2 : i < m) (h3 : m ≤ j) (h4 : j < b) : ltT cf tg d[j]! d[i]! = ltOf cf d[j]! d[i]! := ltT_of _ _ (p.tags i j h1 h2 h3 h4)

/-! ### The insertion sort puts alike ones by their tags -/
theorem insInner_ltT (a : Nat) : ∀ (j : Nat) (d : Array α), j < d.size → (∀ p, a ≤ p → p < j → tg d[p]! < tg d[j]!) → insInner (ltT cf tg) a j d = insInner (ltOf cf) a j d
  | 0, d, _, _ => rfl
  | j + 1, d, hj, h => by
    rw [insInner, insInner]
    by_cases ha : j + 1 > a
    · rw [ltT_of _ _ (h j (by omega) (by omega))]
      split
      · refine insInner_ltT a j _ (by rw [size_swp]; omega) fun p h1 h2 => ?_
        rw [swp_at _ _ _ _ hj (by omega), swp_at _ _ _ _ hj (by omega), if_neg (by omega), if_neg (by omega), if_pos rfl]
        exact h p h1 (by omega)
      · rfl
    · have e : decide (j + 1 > a) = false := decide_eq_false ha
      rw [e, Bool.false_and, Bool.false_and]; rfl
theorem insInner_perm (lt : α → α → Bool) (a b : Nat) : ∀ (j : Nat) (d : Array α), j < b → b ≤ d.size → a ≤ j → PermIn a b d (insInner lt a j d)
  | 0, d, _, _, _ => permIn_refl d a b
  | j + 1, d, hj, hb, ha => by
    rw [insInner]
    split
    · rename_i hc
      have hc1 : j + 1 > a := by simp only [Bool.and_eq_true, decide_eq_true_eq] at hc; exact hc.1
      exact permIn_trans _ _ _ _ _ (swp_permIn d a b (j + 1) j (by omega) (by omega) (by omega) (by omega) hb) (insInner_perm lt a b j _ (by omega) (by rw [size_swp]; exact hb) (by omega))
    · exact permIn_refl d a b
theorem insOuter_ltT (a b : Nat) : ∀ (n i : Nat) (d : Array α), b - i = n → a < i → b ≤ d.size → (∀ p q, a ≤ p → p < q → i ≤ q → q < b → tg d[p]! < tg d[q]!) → insOuter (ltT cf tg) a b i d = insOuter (ltOf cf) a b i d
  | 0, i, d, hn, _, _, _ => by rw [insOuter_stop _ _ _ _ _ (by omega), insOuter_stop _ _ _ _ _ (by omega)]
  | n + 1, i, d, hn, hi, hb, h => by
    rw [insOuter_go (ltT cf tg) a b i d (by omega), insOuter_go (ltOf cf) a b i d (by omega), insInner_ltT a i d (by omega) fun p h1 h2 => h p i h1 h2 (Nat.le_refl _) (by omega)]
    have P := insInner_perm (ltOf cf) a (i + 1) i d (by omega) (by omega) (by omega)
    refine insOuter_ltT a b n (i + 1) _ (by omega) (by omega) (by rw [P.1]; exact hb) fun p q h1 h2 h3 h4 => ?_
    rw [P.2.1 q (by omega)]
    by_cases hp : p < i + 1
    · exact permIn_all d _ a (i + 1) (fun x => tg x < tg d[q]!) (by omega) P (fun r k1 k2 => h r q k1 (by omega) (by omega) h4) p h1 hp
    · rw [P.2.1 p (by omega)]; exact h p q h1 h2 (by omega) h4
theorem inserted (h : Tot cf) (d : Array α) (a b : Nat) (hab : a ≤ b) (hb : b ≤ d.size) (ht : ∀ p q, a ≤ p → p < q → q < b → tg d[p]! < tg d[q]!) :
    PermIn a b d (insertionSort (ltOf cf) d a b) ∧ SortedIn (ltT cf tg) a b (insertionSort (ltOf cf) d a b) := by
  have e : insertionSort (ltT cf tg) d a b = insertionSort (ltOf cf) d a b := insOuter_ltT a b _ (a + 1) d rfl (by omega) hb fun p q h1 h2 _ h4 => ht p q h1 h2 h4
  rw [← e]
  exact insertionSort_holds (h.swo (tg := tg)) d a b hab hb
end
end Go.Proofs.Ytnkfjomnpnbidaa

namespace Go.Proofs.Ytnkfjomnpnbidaa
open Go.Shelf Go.RowKit Go.Lib Go.Sort
set_option linter.unusedVariables false
section
variable {P : Program} {α : Type} [Inhabited α]
set_option maxHeartbeats 4000000 in
set_option maxRecDepth 1000000 in
theorem rotate_at (k : Nat) (L : LO P k) (enc : α → List Value) (fv : Value) (w0 : World) (blk off cap a m b : Nat) (d : Array α) (w : World)
    (R : RowB enc k w0 blk) (S : SWb enc k w0 blk off d w) (ham : a < m) (hmb : m < b) (hb : b ≤ d.size) (hsz : d.size < 4611686018427387904) :
    Calls P 81 #[.slice (some ⟨blk, off, none⟩) d.size cap, .int .i64 a, .int .i64 m, .int .i64 b, fv] w fun e w' => e = .returned (.tuple #[]) ∧ ∃ d', SWb enc k w0 blk off d' w' ∧ Rot d a m b d' ∧ PermIn a b d d' := by
  have mixed := L.mixed; have t0 := L.t0; have a0 := L.a0; have z0 := L.z0; have v0 := L.v0; have t3 := L.t3; have a3 := L.a3; have z3 := L.z3; have v3 := L.v3; have t4 := L.t4; have a4 := L.a4; have z4 := L.z4; have v4 := L.v4; have t57 := L.t57; have a57 := L.a57; have z57 := L.z57; have v57 := L.v57; have t61 := L.t61; have a61 := L.a61; have z61 := L.z61; have v61 := L.v61; have aE := L.aE; have zE := L.zE
  have e83 : ∀ args w, (callFunc 83 args).run P w = .ok (.enter 83 args) w := enters_of L.f83 (by kernel_rfl) rfl
  have S0 : Aside (SWb enc k w0 blk off d w) := S
  clear S
  go_enter L.f81, Try.ntmps81
  go_wp2
  go_loopg [10, 11] (b - a) (fun gg s10 s11 wr => ∃ (i j : Nat) (dk : Array α), s10 = .int .i64 i ∧ s11 = .int .i64 j ∧ 0 < i ∧ 0 < j ∧ a + i ≤ m ∧ m + j ≤ b ∧ i + j ≤ gg ∧ dk.size = d.size ∧ Aside (PermIn a b d dk) ∧ Aside (SWb enc k w0 blk off dk wr) ∧ Hid (∀ d', Rot dk (m - i) m (m + j) d' → Rot d a m b d'))
  case atStart => exact ⟨m - a, b - m, d, by congr 1; omega, by congr 1; omega, by omega, by omega, by omega, by omega, by omega, rfl, permIn_refl d a b, S0, fun d' h => by rwa [show m - (m - a) = a by omega, show m + (b - m) = b by omega] at h⟩
  case round =>
    clear S0
    obtain ⟨i, j, dk, rfl, rfl, hi0, hj0, hai, hjb, hg, hds, HP, S1, HR⟩ := hrel
    by_cases hij : i = j
    · subst hij
      have hsw : Calls P 83 #[.slice (some ⟨blk, off, none⟩) d.size cap, .int .i64 ((m : Int) - (i : Int)), .int .i64 m, .int .i64 i, fv] wr fun e w' => e = .returned (.tuple #[]) ∧ SWb enc k w0 blk off (swaps dk (m - i) m i) w' := by
        rw [show ((m : Int) - (i : Int)) = ((m - i : Nat) : Int) by omega, ← hds]
        exact swapRange_at k L enc fv w0 blk off cap (m - i) m i dk wr R S1.out (by omega) (by omega) (by omega)
      clear S1
      go_wp2_with (go_at_fn 83; refine hsw.mono ?_; clear hsw; rintro e w2 ⟨rfl, S2⟩)
      go_end0
      exact ⟨rfl, _, S2, HR.out _ (Rot.eq (by omega) (by omega)), permIn_trans _ _ _ _ _ HP.out (swaps_perm dk a b _ _ (by omega) (by omega) (by omega) _ (by omega) (by omega))⟩
    · have hne : ((i : Int) != (j : Int)) = true := by simpa using (by omega : ¬ (i : Int) = (j : Int))
      by_cases hgt : j < i
      · have hgtz : (j : Int) < (i : Int) := by omega
        have hsw : Calls P 83 #[.slice (some ⟨blk, off, none⟩) d.size cap, .int .i64 ((m : Int) - (i : Int)), .int .i64 m, .int .i64 j, fv] wr fun e w' => e = .returned (.tuple #[]) ∧ SWb enc k w0 blk off (swaps dk (m - i) m j) w' := by
          rw [show ((m : Int) - (i : Int)) = ((m - i : Nat) : Int) by omega, ← hds]
          exact swapRange_at k L enc fv w0 blk off cap (m - i) m j dk wr R S1.out (by omega) (by omega) (by omega)
        clear S1
        go_wp2_with (go_at_fn 83; refine hsw.mono ?_; clear hsw; rintro e w2 ⟨rfl, S2⟩)
        go_roundg (i - j + j)
        case measure => omega
        case rel => exact ⟨i - j, j, _, by congr 1; omega, rfl, by omega, hj0, by omega, hjb, Nat.le_refl _, by rw [size_swaps]; exact hds, permIn_trans _ _ _ _ _ HP.out (swaps_perm dk a b _ _ (by omega) (by omega) (by omega) _ (by omega) (by omega)), S2, fun d' h => HR.out d' (Rot.gt hgt (by omega) (by omega) h)⟩
      · have hgtz : ¬ (j : Int) < (i : Int) := by omega
        have hsw : Calls P 83 #[.slice (some ⟨blk, off, none⟩) d.size cap, .int .i64 ((m : Int) - (i : Int)), .int .i64 ((m : Int) + (j : Int) - (i : Int)), .int .i64 i, fv] wr fun e w' => e = .returned (.tuple #[]) ∧ SWb enc k w0 blk off (swaps dk (m - i) (m + j - i) i) w' := by
          rw [show ((m : Int) - (i : Int)) = ((m - i : Nat) : Int) by omega, show ((m : Int) + (j : Int) - (i : Int)) = ((m + j - i : Nat) : Int) by omega, ← hds]
          exact swapRange_at k L enc fv w0 blk off cap (m - i) (m + j - i) i dk wr R S1.out (by omega) (by omega) (by omega)
        clear S1
        go_wp2_with (go_at_fn 83; refine hsw.mono ?_; clear hsw; rintro e w2 ⟨rfl, S2⟩)
        go_roundg (i + (j - i))
        case measure => omega
        case rel => exact ⟨i, j - i, _, rfl, by congr 1; omega, hi0, by omega, hai, by omega, Nat.le_refl _, by rw [size_swaps]; exact hds, permIn_trans _ _ _ _ _ HP.out (swaps_perm dk a b _ _ (by omega) (by omega) (by omega) _ (by omega) (by omega)), S2, fun d' h => HR.out d' (Rot.lt (by omega) (by omega) (by omega) h)⟩
end
end Go.Proofs.Ytnkfjomnpnbidaa

namespace Go.Proofs.Ytnkfjomnpnbidaa
open Go.Shelf Go.RowKit Go.Lib Go.Sort
set_option linter.unusedVariables false
section
variable {P : Program} {α : Type} [Inhabited α]

/-- What stands behind a turn by one place, its element brought behind all that are ahead of it. -/
theorem left_done {cf : α → α → Int} {tg : α → Nat} (hT : Tot cf) {d d' : Array α} {a b i : Nat} (p : Pre cf tg d a (a + 1) b) (h1 : a + 1 ≤ i) (h2 : i ≤ b) (c1 : i = a + 1 ∨ ltT cf tg d[i - 1]! d[a]! = true) (c2 : i = b ∨ ltT cf tg d[i]! d[a]! = false) (r : Rot d a (a + 1) i d') : SortedIn (ltT cf tg) a b d' := by
  have hS := hT.swo (tg := tg)
  have t := turned hT p (s := a) (e := i) ⟨Nat.le_refl _, Nat.le_succ _, h1, h2, .inl rfl, .inr c1⟩ r
  have hm : a + (i - (a + 1)) = i - 1 := by omega
  rw [hm] at t
  refine joined t.lo.r (joined t.hi.l t.hi.r fun x y k1 k2 k3 k4 => ?_) fun x y k1 k2 k3 k4 => t.cross x y k1 k2 k3 k4
  obtain rfl : x = i - 1 := by omega
  have e1 : d'[i - 1]! = d[a]! := by rw [r.get, if_neg (by omega), if_pos (by omega)]; congr 1; omega
  have e2 : d'[y]! = d[y]! := by rw [r.get, if_neg (by omega), if_neg (by omega)]
  have g : ltT cf tg d[i]! d[a]! = false := by rcases c2 with c | c <;> first | (exfalso; omega) | exact c
  rw [e1, e2]
  exact hS.ntrans _ _ _ (sorted_le hS p.r h1 k3 k4) g

set_option maxHeartbeats 4000000 in
set_option maxRecDepth 1000000 in
theorem mergeL_at (k : Nat) (L : LO P k) (enc : α → List Value) (cf : α → α → Int) (tg : α → Nat) (hT : Tot cf) (g : Nat) (cb : Array Value) (w0 : World) (blk off cap a b : Nat) (d : Array α) (w : World)
    (eg : ∀ args w, (callFunc g args).run P w = .ok (.enter g args) w) (R : RowB enc k w0 blk) (C : CmpB P g cb enc k cf w0 blk off d.size) (S : SWb enc k w0 blk off d w) (p : Pre cf tg d a (a + 1) b) (hab : a + 1 < b) (hsz : d.size < 4611686018427387904) :
    Calls P 74 #[.slice (some ⟨blk, off, none⟩) d.size cap, .int .i64 a, .int .i64 ((a : Int) + 1), .int .i64 b, .func (.func g) #[] cb] w fun e w' => e = .returned (.tuple #[]) ∧ ∃ d', SWb enc k w0 blk off d' w' ∧ PermIn a b d d' ∧ SortedIn (ltT cf tg) a b d' := by
  have mixed := L.mixed; have t0 := L.t0; have a0 := L.a0; have z0 := L.z0; have v0 := L.v0; have t3 := L.t3; have a3 := L.a3; have z3 := L.z3; have v3 := L.v3; have t4 := L.t4; have a4 := L.a4; have z4 := L.z4; have v4 := L.v4; have t57 := L.t57; have a57 := L.a57; have z57 := L.z57; have v57 := L.v57; have t61 := L.t61; have a61 := L.a61; have z61 := L.z61; have v61 := L.v61; have t93 := L.t93; have a93 := L.a93; have z93 := L.z93; have v93 := L.v93; have aE := L.aE; have zE := L.zE
  have u57 := run_underlying L.t57
  have hbd : b ≤ d.size := p.bs
  have HP : Aside (Pre cf tg d a (a + 1) b) := p
  have HC : Aside _ := C
  have S0 : Aside (SWb enc k w0 blk off d w) := S
  clear C S p
  have one : (((a : Int) + 1 - (a : Int)) == 1) = true := by simp; omega
  go_enter L.f74, Try.ntmps74
  go_wp2
  go_loopg [10, 11] (b - (a + 1)) (fun gg s10 s11 wr => ∃ (i j : Nat), s10 = .int .i64 i ∧ s11 = .int .i64 j ∧ a + 1 ≤ i ∧ i ≤ j ∧ j ≤ b ∧ j - i ≤ gg ∧ Aside (SWb enc k w0 blk off d wr) ∧ Hid (i = a + 1 ∨ ltT cf tg d[i - 1]! d[a]! = true) ∧ Hid (j = b ∨ ltT cf tg d[j]! d[a]! = false))
  case atStart => exact ⟨a + 1, b, by go_num, rfl, Nat.le_refl _, by omega, Nat.le_refl _, Nat.le_refl _, S0, Or.inl rfl, Or.inl rfl⟩
  case round =>
    clear S0
    obtain ⟨i, j, rfl, rfl, hai, hij, hjb, hg, S1, H1, H2⟩ := hrel
    by_cases hlt : i < j
    · have hltz : (i : Int) < (j : Int) := by omega
      obtain ⟨h, hh⟩ : ∃ h, h = (i + j) / 2 := ⟨_, rfl⟩
      have hhz : ((i : Int) + (j : Int)) / 2 = (h : Int) := by omega
      have hih : i ≤ h := by omega
      have hhj : h < j := by omega
      have hhd : (h : Int) < (d.size : Int) := by omega
      have had : (a : Int) < (d.size : Int) := by omega
      have HH := Lib.hid hh
      clear hh
      have lh := S1.out.ldb R P h (by omega)
      have la := S1.out.ldb R P a (by omega)
      obtain ⟨xh, hxh⟩ : ∃ x, d[h]! = x := ⟨_, rfl⟩
      obtain ⟨xa, hxa⟩ : ∃ x, d[a]! = x := ⟨_, rfl⟩
      have hcg := S1.out.cmpb R HC.out rfl xh xa
      have htg : ltT cf tg d[h]! d[a]! = ltOf cf d[h]! d[a]! := HP.out.tags_of (Nat.le_refl _) (by omega) (by omega) (by omega)
      rw [hxh] at lh htg
      rw [hxa] at la htg
      have HX : Hid (d[h]! = xh ∧ d[a]! = xa ∧ ltT cf tg xh xa = ltOf cf xh xa) := ⟨hxh, hxa, htg⟩
      clear hxh hxa htg
      by_cases hlv : cf xh xa < 0
      · go_wp2_with fail
        refine wp_region_quiet_below (by assumption) (by kernel_rfl) ?_
        repeat (quiet_step (first | (go_at_fn g; refine Calls.regrown_of (hcg _ _))))
        refine wpQuiet_nil ?_
        intro _ hw'
        obtain ⟨⟨nq, osq⟩, hw''⟩ := hw'
        subst hw''
        go_wp2_with fail
        go_roundg (j - (h + 1))
        case measure => omega
        case rel => exact ⟨h + 1, j, by go_num, rfl, by omega, by omega, hjb, Nat.le_refl _, S1.out.regrown R nq osq, Or.inr (by show ltT cf tg d[h + 1 - 1]! d[a]! = true; rw [Nat.add_sub_cancel, HX.out.1, HX.out.2.1, HX.out.2.2]; exact decide_eq_true hlv), H2⟩
      · go_wp2_with fail
        refine wp_region_quiet_below (by assumption) (by kernel_rfl) ?_
        repeat (quiet_step (first | (go_at_fn g; refine Calls.regrown_of (hcg _ _))))
        refine wpQuiet_nil ?_
        intro _ hw'
        obtain ⟨⟨nq, osq⟩, hw''⟩ := hw'
        subst hw''
        go_wp2_with fail
        go_roundg (h - i)
        case measure => omega
        case rel => exact ⟨i, h, rfl, rfl, hai, hih, by omega, Nat.le_refl _, S1.out.regrown R nq osq, H1, Or.inr (by show ltT cf tg d[h]! d[a]! = false; rw [HX.out.1, HX.out.2.1, HX.out.2.2]; exact decide_eq_false (by omega))⟩
    · have hltz : ¬ (i : Int) < (j : Int) := by omega
      obtain rfl : i = j := by omega
      go_wp2
      go_loopg [13] (i - a) (fun g2 s13 wr2 => ∃ (q : Nat) (dk : Array α), s13 = .int .i64 q ∧ a ≤ q ∧ q + 1 ≤ i ∧ i - q ≤ g2 ∧ dk.size = d.size ∧ Aside (SWb enc k w0 blk off dk wr2) ∧ Aside (PermIn a b d dk) ∧ Aside (Rot d a (a + 1) (q + 1) dk))
      case atStart => exact ⟨a, d, rfl, Nat.le_refl _, hai, Nat.le_refl _, rfl, S1, permIn_refl d a b, Rot.none d a (a + 1) (a + 1) (by omega) (by omega) (.inr rfl)⟩
      case round =>
        clear S1
        obtain ⟨q, dk, rfl, haq, hqi, hg2, hds, S2, HPm, HR⟩ := hrel
        by_cases hq : q < i - 1
        · have hqz : (q : Int) < (i : Int) - 1 := by omega
          go_wp2_with fail
          have e1 : ((q : Int) + 1).toNat = q + 1 := by omega
          have p1 : (0 : Int) ≤ (q : Int) + 1 := by omega
          have b1 : (q : Int) + 1 < (d.size : Int) := by omega
          have b0 : (q : Int) < (d.size : Int) := by omega
          have r1 : IntKind.i64.wrap ((q : Int) + 1) = (q : Int) + 1 := by rw [IntKind.wrap_i64]; omega
          have S3 : Aside _ := S2.out.swapped R q (q + 1) (by omega) (by omega)
          have la := S2.out.ld1 R P q (by omega)
          have lb := S2.out.ld1 R P (q + 1) (by omega)
          have sa := S2.out.st1 R P q (by omega) dk[q + 1]!
          have sb := S2.out.st2 R P q (q + 1) (by omega) (by omega) dk[q + 1]! dk[q]!
          have na : (enc dk[q]!).length = k := R.hk _
          have nb : (enc dk[q + 1]!).length = k := R.hk _
          generalize enc dk[q]! = cI at S3 la sb na
          generalize enc dk[q + 1]! = cJ at S3 lb sa sb nb
          clear S2
          go_wp2_with fail
          go_big_region_o
          clear la lb sa sb
          generalize (wr.drew.setCells blk (off + q * k) cJ).setCells blk (off + (q + 1) * k) cI = w2 at S3 ⊢
          go_wp2
          go_roundg (i - (q + 1))
          case measure => omega
          case rel => exact ⟨q + 1, _, by go_num, by omega, by omega, Nat.le_refl _, by rw [size_swp]; exact hds, S3, permIn_trans _ _ _ _ _ HPm.out (swp_permIn dk a b q (q + 1) (by omega) (by omega) (by omega) (by omega) (by omega)), Rot.up haq (by omega) HR.out⟩
        · have hqz : ¬ (q : Int) < (i : Int) - 1 := by omega
          obtain rfl : i = q + 1 := by omega
          go_wp2
          try rw [Exit.noGoto_ret]
          (try simp only [Exit.inBlock, Exit.then]); refine bodyPost_ret (results_none rfl _ _ _) rfl ?_
          exact ⟨rfl, dk, S2.out, HPm.out, left_done hT HP.out hai hjb H1.out H2.out HR.out⟩
end
end Go.Proofs.Ytnkfjomnpnbidaa
