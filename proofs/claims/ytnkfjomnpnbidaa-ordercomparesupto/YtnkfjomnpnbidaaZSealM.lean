/-
  Terms and levels: the join of a term's seals, what it is erased, opened and hidden; over levels that are one below the next one.
-/
import Derived.Test.YtnkfjomnpnbidaaZSizen2
namespace Go.Proofs.Ytnkfjomnpnbidaa
open Go.RowKit Go.Shelf
set_option linter.unusedVariables false

mutual
/-- The levels of a term's seals, joined to one. -/
def Tm.jn (J : Nat → Nat → Nat) (lv : Int → Nat) : Tm → Nat → Nat
  | .mk k n _ ks, a => Tm.jns J lv ks (if k = 4 then J a (lv n) else a)
def Tm.jns (J : Nat → Nat → Nat) (lv : Int → Nat) : List Tm → Nat → Nat
  | [], a => a
  | t :: ts, a => Tm.jns J lv ts (t.jn J lv a)
end
mutual
/-- A term without its seals. -/
def Tm.er : Tm → Tm
  | .mk k n s ks => if k = 4 ∧ ks.length = 1 then (Tm.ers ks).headD (.mk k n s ks) else .mk k n s (Tm.ers ks)
def Tm.ers : List Tm → List Tm
  | [] => []
  | t :: ts => t.er :: Tm.ers ts
end
def holeTm : Tm := .mk 3 0 (ByteArray.mk #[104, 111, 108, 101]) []
mutual
/-- A term, its seals hidden whose numbers aren't let through. -/
def Tm.hd (p : Int → Bool) : Tm → Tm
  | .mk k n s ks => if k = 4 ∧ p n = false then holeTm else .mk k n s (Tm.hds p ks)
def Tm.hds (p : Int → Bool) : List Tm → List Tm
  | [] => []
  | t :: ts => t.hd p :: Tm.hds p ts
end
mutual
/-- The term behind the seals that a term begins with, and their levels, joined to one. -/
def Tm.strip (J : Nat → Nat → Nat) (lv : Int → Nat) : Tm → Nat → Tm × Nat
  | .mk k n s ks, a => if k = 4 ∧ ks.length = 1 then Tm.strips J lv ks (.mk k n s ks) (J a (lv n)) else (.mk k n s ks, a)
def Tm.strips (J : Nat → Nat → Nat) (lv : Int → Nat) : List Tm → Tm → Nat → Tm × Nat
  | [], d, a => (d, a)
  | t :: _, _, a => t.strip J lv a
end
def putT (t : Tm) (l : Int) : Tm := .mk 4 l (ByteArray.mk #[]) [t]
def Tm.wrapsT : Tm → Bool
  | .mk k _ _ ks => decide (k = 4 ∧ ks.length = 1)
/-- A term's kids, each sealed. -/
def Tm.over' (T : Tm) (l : Int) : Tm := .mk T.kind T.num T.name (T.kids.map fun t => putT t l)
def Tm.opened (J : Nat → Nat → Nat) (lv : Int → Nat) (bot : Nat) (T : Tm) : Tm × Nat :=
  if T.wrapsT = true then ((T.strip J lv bot).1.over' (T.strip J lv bot).2, (T.strip J lv bot).2) else (T, bot)

section
variable {J : Nat → Nat → Nat} {lv : Int → Nat}
theorem Tm.jn_mk (k n : Int) (s : ByteArray) (ks : List Tm) (a : Nat) : (Tm.mk k n s ks).jn J lv a = Tm.jns J lv ks (if k = 4 then J a (lv n) else a) := by rw [Tm.jn]
theorem Tm.jns_nil (a : Nat) : Tm.jns J lv [] a = a := by rw [Tm.jns]
theorem Tm.jns_cons (t : Tm) (ts : List Tm) (a : Nat) : Tm.jns J lv (t :: ts) a = Tm.jns J lv ts (t.jn J lv a) := by rw [Tm.jns]
theorem Tm.jns_append (xs ys : List Tm) : ∀ a, Tm.jns J lv (xs ++ ys) a = Tm.jns J lv ys (Tm.jns J lv xs a) := by
  induction xs with
  | nil => intro a; rw [List.nil_append, Tm.jns_nil]
  | cons x xs ih => intro a; rw [List.cons_append, Tm.jns_cons, Tm.jns_cons, ih]
theorem Tm.ers_eq : ∀ ks : List Tm, Tm.ers ks = ks.map Tm.er
  | [] => by rw [Tm.ers]; rfl
  | t :: ts => by rw [Tm.ers, Tm.ers_eq ts]; rfl
theorem Tm.hds_eq (p : Int → Bool) : ∀ ks : List Tm, Tm.hds p ks = ks.map (Tm.hd p)
  | [] => by rw [Tm.hds]; rfl
  | t :: ts => by rw [Tm.hds, Tm.hds_eq p ts]; rfl
theorem Tm.er_wraps (n : Int) (s : ByteArray) (t : Tm) : (Tm.mk 4 n s [t]).er = t.er := by rw [Tm.er, if_pos ⟨rfl, rfl⟩, Tm.ers_eq]; rfl
theorem Tm.er_else {k n : Int} {s : ByteArray} {ks : List Tm} (h : ¬ (k = 4 ∧ ks.length = 1)) : (Tm.mk k n s ks).er = .mk k n s (ks.map Tm.er) := by rw [Tm.er, if_neg h, Tm.ers_eq]
theorem Tm.hd_hole {p : Int → Bool} {k n : Int} {s : ByteArray} {ks : List Tm} (h : k = 4 ∧ p n = false) : (Tm.mk k n s ks).hd p = holeTm := by rw [Tm.hd, if_pos h]
theorem Tm.hd_else {p : Int → Bool} {k n : Int} {s : ByteArray} {ks : List Tm} (h : ¬ (k = 4 ∧ p n = false)) : (Tm.mk k n s ks).hd p = .mk k n s (ks.map (Tm.hd p)) := by rw [Tm.hd, if_neg h, Tm.hds_eq]
theorem Tm.strip_wraps (n : Int) (s : ByteArray) (t : Tm) (a : Nat) : (Tm.mk 4 n s [t]).strip J lv a = t.strip J lv (J a (lv n)) := by rw [Tm.strip, if_pos ⟨rfl, rfl⟩, Tm.strips]
theorem Tm.strip_else {k n : Int} {s : ByteArray} {ks : List Tm} (h : ¬ (k = 4 ∧ ks.length = 1)) (a : Nat) : (Tm.mk k n s ks).strip J lv a = (.mk k n s ks, a) := by rw [Tm.strip, if_neg h]
theorem wraps_form {k n : Int} {s : ByteArray} {ks : List Tm} (h : k = 4 ∧ ks.length = 1) : ∃ t, k = 4 ∧ ks = [t] := by
  obtain ⟨h1, h2⟩ := h
  match ks, h2 with
  | [t], _ => exact ⟨t, h1, rfl⟩
theorem holeTm_hd (p : Int → Bool) : holeTm.hd p = holeTm := by unfold holeTm; rw [Tm.hd_else (fun e => absurd e.1 (by decide))]; rfl

theorem Tm.er_er (T : Tm) : T.er.er = T.er := by
  induction T using Tm.ind with
  | h k n s ks ih =>
    by_cases h : k = 4 ∧ ks.length = 1
    · obtain ⟨t, rfl, rfl⟩ := wraps_form (n := n) (s := s) h
      rw [Tm.er_wraps, ih t (by simp)]
    · rw [Tm.er_else h, Tm.er_else (by simpa using h)]
      congr 1
      rw [List.map_map]
      exact List.map_congr_left fun t ht => ih t ht
theorem Tm.sizes_map_le {f : Tm → Tm} : ∀ {ks : List Tm}, (∀ t ∈ ks, (f t).size ≤ t.size) → Tm.sizes (ks.map f) ≤ Tm.sizes ks
  | [], _ => by simp
  | t :: ts, h => by
    rw [List.map_cons, Tm.sizes_cons, Tm.sizes_cons]
    have h1 := h t (by simp)
    have h2 := Tm.sizes_map_le (ks := ts) (fun u hu => h u (by simp [hu]))
    omega
theorem Tm.deeps_map_le {f : Tm → Tm} : ∀ {ks : List Tm}, (∀ t ∈ ks, (f t).deep ≤ t.deep) → Tm.deeps (ks.map f) ≤ Tm.deeps ks
  | [], _ => by simp
  | t :: ts, h => by
    rw [List.map_cons, Tm.deeps_cons, Tm.deeps_cons]
    have h1 := h t (by simp)
    have h2 := Tm.deeps_map_le (ks := ts) (fun u hu => h u (by simp [hu]))
    omega
theorem Tm.er_size (T : Tm) : T.er.size ≤ T.size := by
  induction T using Tm.ind with
  | h k n s ks ih =>
    by_cases h : k = 4 ∧ ks.length = 1
    · obtain ⟨t, rfl, rfl⟩ := wraps_form (n := n) (s := s) h
      have := ih t (by simp)
      rw [Tm.er_wraps, Tm.size_mk, Tm.sizes_cons]; omega
    · have := Tm.sizes_map_le ih
      rw [Tm.er_else h, Tm.size_mk, Tm.size_mk]; omega
theorem Tm.er_deep (T : Tm) : T.er.deep ≤ T.deep := by
  induction T using Tm.ind with
  | h k n s ks ih =>
    by_cases h : k = 4 ∧ ks.length = 1
    · obtain ⟨t, rfl, rfl⟩ := wraps_form (n := n) (s := s) h
      have := ih t (by simp)
      rw [Tm.er_wraps, Tm.deep_mk, Tm.deeps_cons]; omega
    · have := Tm.deeps_map_le ih
      rw [Tm.er_else h, Tm.deep_mk, Tm.deep_mk]; omega
theorem Tm.hd_size (p : Int → Bool) (T : Tm) : (T.hd p).size ≤ T.size := by
  induction T using Tm.ind with
  | h k n s ks ih =>
    by_cases h : k = 4 ∧ p n = false
    · rw [Tm.hd_hole h, Tm.size_mk]
      have : holeTm.size = 1 := rfl
      omega
    · have := Tm.sizes_map_le ih
      rw [Tm.hd_else h, Tm.size_mk, Tm.size_mk]; omega
theorem Tm.hd_hd (p q : Int → Bool) (T : Tm) : (T.hd p).hd q = T.hd fun n => p n && q n := by
  induction T using Tm.ind with
  | h k n s ks ih =>
    by_cases h : k = 4 ∧ p n = false
    · rw [Tm.hd_hole h, holeTm_hd, Tm.hd_hole ⟨h.1, by simp [h.2]⟩]
    · rw [Tm.hd_else h]
      by_cases h' : k = 4 ∧ q n = false
      · rw [Tm.hd_hole h', Tm.hd_hole ⟨h'.1, by simp [h'.2]⟩]
      · rw [Tm.hd_else h', Tm.hd_else (fun e => by
          by_cases hk : k = 4
          · have h1 : p n = true := by cases hp : p n with | true => rfl | false => exact absurd ⟨hk, hp⟩ h
            have h2 : q n = true := by cases hp : q n with | true => rfl | false => exact absurd ⟨hk, hp⟩ h'
            simp [h1, h2] at e
          · exact hk e.1)]
        congr 1
        rw [List.map_map]
        exact List.map_congr_left fun t ht => ih t ht
theorem Tm.hd_all {p : Int → Bool} (hp : ∀ n, p n = true) (T : Tm) : T.hd p = T := by
  induction T using Tm.ind with
  | h k n s ks ih =>
    rw [Tm.hd_else (fun e => by rw [hp] at e; cases e.2)]
    congr 1
    exact (List.map_congr_left fun t ht => ih t ht).trans (List.map_id _)
end

/-! Levels one below the next one -/
/-- A seal's level, of so many levels one below the next one. -/
def lvC (N : Nat) (n : Int) : Nat := if 0 ≤ n ∧ n < (N : Int) then n.toNat else N - 1
theorem lvC_lt {N : Nat} (hN : 1 ≤ N) (n : Int) : lvC N n < N := by unfold lvC; split <;> omega
theorem lvC_in {N x : Nat} (h : x < N) : lvC N (x : Int) = x := by unfold lvC; rw [if_pos (by omega)]; omega
abbrev Tm.jC (N : Nat) (T : Tm) (a : Nat) : Nat := T.jn Nat.max (lvC N) a
theorem jns_max {N : Nat} : ∀ {ks : List Tm}, (∀ t ∈ ks, ∀ a, t.jC N a = max a (t.jC N 0)) → ∀ a, Tm.jns Nat.max (lvC N) ks a = max a (Tm.jns Nat.max (lvC N) ks 0)
  | [], _, a => by rw [Tm.jns_nil, Tm.jns_nil]; omega
  | t :: ts, h, a => by
    have h1 := h t (by simp)
    have h2 := jns_max (N := N) (ks := ts) (fun u hu => h u (by simp [hu]))
    rw [Tm.jns_cons, Tm.jns_cons, h2, h2 (t.jn Nat.max (lvC N) 0)]
    have h3 := h1 a
    simp only [Tm.jC] at h3
    omega
theorem jC_max {N : Nat} (T : Tm) : ∀ a, T.jC N a = max a (T.jC N 0) := by
  induction T using Tm.ind with
  | h k n s ks ih =>
    intro a
    have h := jns_max (N := N) ih
    simp only [Tm.jC, Tm.jn_mk]
    rw [h, h (if k = 4 then Nat.max 0 (lvC N n) else 0)]
    have e : ∀ x y : Nat, Nat.max x y = max x y := fun _ _ => rfl
    split
    · rw [e, e]; omega
    · omega
theorem jns_all {N : Nat} (ks : List Tm) (a : Nat) : Tm.jns Nat.max (lvC N) ks a = max a (Tm.jns Nat.max (lvC N) ks 0) := jns_max (fun t _ => jC_max t) a
theorem jC_mk (N : Nat) (k n : Int) (s : ByteArray) (ks : List Tm) : (Tm.mk k n s ks).jC N 0 = max (if k = 4 then lvC N n else 0) (Tm.jns Nat.max (lvC N) ks 0) := by
  simp only [Tm.jC, Tm.jn_mk]
  rw [jns_all]
  have e : ∀ x : Nat, Nat.max 0 x = x := fun x => by show max 0 x = x; omega
  split
  · rw [e]
  · rfl
theorem jns_cons0 (N : Nat) (t : Tm) (ts : List Tm) : Tm.jns Nat.max (lvC N) (t :: ts) 0 = max (t.jC N 0) (Tm.jns Nat.max (lvC N) ts 0) := by rw [Tm.jns_cons, jns_all]
theorem jns_mem {N : Nat} {t : Tm} : ∀ {ks : List Tm}, t ∈ ks → t.jC N 0 ≤ Tm.jns Nat.max (lvC N) ks 0
  | u :: us, h => by
    rw [jns_cons0]
    rcases List.mem_cons.1 h with rfl | h
    · omega
    · have := jns_mem (N := N) h; omega
theorem jns_le {N M : Nat} : ∀ {ks : List Tm}, (∀ t ∈ ks, t.jC N 0 ≤ M) → Tm.jns Nat.max (lvC N) ks 0 ≤ M
  | [], _ => by rw [Tm.jns_nil]; omega
  | t :: ts, h => by
    rw [jns_cons0]
    have h1 := h t (by simp)
    have h2 := jns_le (N := N) (M := M) (ks := ts) (fun u hu => h u (by simp [hu]))
    omega
theorem jC_le {N : Nat} (hN : 1 ≤ N) (T : Tm) : T.jC N 0 ≤ N - 1 := by
  induction T using Tm.ind with
  | h k n s ks ih =>
    rw [jC_mk]
    have h1 := jns_le ih
    have h2 := lvC_lt hN n
    split <;> omega
theorem jC_put (N : Nat) (t : Tm) (x : Nat) (hx : x < N) : (putT t x).jC N 0 = max x (t.jC N 0) := by
  rw [putT, jC_mk, if_pos rfl, lvC_in hx, jns_cons0, Tm.jns_nil]; omega
theorem jns_put (N : Nat) (m : Nat) (hm : m < N) : ∀ ks : List Tm, max m (Tm.jns Nat.max (lvC N) (ks.map fun t => putT t m) 0) = max m (Tm.jns Nat.max (lvC N) ks 0)
  | [] => by rw [List.map_nil]
  | t :: ts => by
    rw [List.map_cons, jns_cons0, jns_cons0, jC_put N t m hm]
    have := jns_put N m hm ts
    omega

/-- What a hidden term joins. -/
theorem jC_hd {N x : Nat} (T : Tm) : (T.hd fun n => decide (lvC N n ≤ x)).jC N 0 ≤ x := by
  induction T using Tm.ind with
  | h k n s ks ih =>
    by_cases h : k = 4 ∧ decide (lvC N n ≤ x) = false
    · rw [Tm.hd_hole h]
      have : holeTm.jC N 0 = 0 := by unfold holeTm; rw [jC_mk, Tm.jns_nil]; rfl
      omega
    · rw [Tm.hd_else h, jC_mk]
      have h1 := jns_le (N := N) (M := x) (ks := ks.map (Tm.hd fun n => decide (lvC N n ≤ x))) (fun t ht => by
        obtain ⟨u, hu, rfl⟩ := List.mem_map.1 ht
        exact ih u hu)
      split
      · rename_i hk
        have : lvC N n ≤ x := by
          rcases Nat.lt_or_ge x (lvC N n) with h2 | h2
          · exact absurd ⟨hk, decide_eq_false (by omega)⟩ h
          · exact h2
        omega
      · omega

/-! Opening -/
theorem strip_max {N : Nat} (T : Tm) : ∀ a, (T.strip Nat.max (lvC N) a) = ((T.strip Nat.max (lvC N) 0).1, max a (T.strip Nat.max (lvC N) 0).2) := by
  induction T using Tm.ind with
  | h k n s ks ih =>
    intro a
    by_cases h : k = 4 ∧ ks.length = 1
    · obtain ⟨t, rfl, rfl⟩ := wraps_form (n := n) (s := s) h
      have e : ∀ x y : Nat, Nat.max x y = max x y := fun _ _ => rfl
      have h1 := ih t (by simp)
      rw [Tm.strip_wraps, Tm.strip_wraps, h1 (Nat.max a (lvC N n)), h1 (Nat.max 0 (lvC N n)), e, e]
      simp only [Prod.mk.injEq, true_and]
      omega
    · rw [Tm.strip_else h, Tm.strip_else h]
      simp only [Prod.mk.injEq, true_and]
      omega
/-- What stands behind a term's seals is no seal of one term. -/
theorem strip_end {N : Nat} (T : Tm) : ∀ a, (T.strip Nat.max (lvC N) a).1.wrapsT = false := by
  induction T using Tm.ind with
  | h k n s ks ih =>
    intro a
    by_cases h : k = 4 ∧ ks.length = 1
    · obtain ⟨t, rfl, rfl⟩ := wraps_form (n := n) (s := s) h
      rw [Tm.strip_wraps]; exact ih t (by simp) _
    · rw [Tm.strip_else h]; exact decide_eq_false h
theorem strip_lt {N : Nat} (hN : 1 ≤ N) (T : Tm) : ∀ a, a < N → (T.strip Nat.max (lvC N) a).2 < N := by
  induction T using Tm.ind with
  | h k n s ks ih =>
    intro a ha
    by_cases h : k = 4 ∧ ks.length = 1
    · obtain ⟨t, rfl, rfl⟩ := wraps_form (n := n) (s := s) h
      rw [Tm.strip_wraps]
      have := lvC_lt hN n
      exact ih t (by simp) _ (show max a (lvC N n) < N by omega)
    · rw [Tm.strip_else h]; exact ha
theorem strip_size {N : Nat} (T : Tm) : ∀ a, (T.strip Nat.max (lvC N) a).1.size ≤ T.size := by
  induction T using Tm.ind with
  | h k n s ks ih =>
    intro a
    by_cases h : k = 4 ∧ ks.length = 1
    · obtain ⟨t, rfl, rfl⟩ := wraps_form (n := n) (s := s) h
      have := ih t (by simp) (Nat.max a (lvC N n))
      rw [Tm.strip_wraps, Tm.size_mk, Tm.sizes_cons]; omega
    · rw [Tm.strip_else h]; exact Nat.le_refl _
theorem strip_er {N : Nat} (T : Tm) : ∀ a, (T.strip Nat.max (lvC N) a).1.er = T.er := by
  induction T using Tm.ind with
  | h k n s ks ih =>
    intro a
    by_cases h : k = 4 ∧ ks.length = 1
    · obtain ⟨t, rfl, rfl⟩ := wraps_form (n := n) (s := s) h
      rw [Tm.strip_wraps, Tm.er_wraps]; exact ih t (by simp) _
    · rw [Tm.strip_else h]
theorem strip_jC {N : Nat} (T : Tm) : max (T.strip Nat.max (lvC N) 0).2 ((T.strip Nat.max (lvC N) 0).1.jC N 0) = T.jC N 0 := by
  induction T using Tm.ind with
  | h k n s ks ih =>
    by_cases h : k = 4 ∧ ks.length = 1
    · obtain ⟨t, rfl, rfl⟩ := wraps_form (n := n) (s := s) h
      have h1 := ih t (by simp)
      rw [Tm.strip_wraps, strip_max, jC_mk, if_pos rfl, jns_cons0, Tm.jns_nil]
      have e : Nat.max 0 (lvC N n) = lvC N n := by show max 0 (lvC N n) = _; omega
      rw [e]
      simp only
      omega
    · rw [Tm.strip_else h]; simp only; omega
theorem Tm.eta (T : Tm) : Tm.mk T.kind T.num T.name T.kids = T := by cases T; rfl
theorem over_er {T : Tm} (h : T.wrapsT = false) (l : Int) : (T.over' l).er = T.er := by
  obtain ⟨k, n, s, ks⟩ := T
  have h' : ¬ (k = 4 ∧ ks.length = 1) := of_decide_eq_false h
  show (Tm.mk k n s (ks.map fun t => putT t l)).er = _
  rw [Tm.er_else h', Tm.er_else (by simpa using h'), List.map_map]
  exact congrArg _ (List.map_congr_left fun t _ => Tm.er_wraps l _ t)
theorem over_jC {N m : Nat} (hm : m < N) (T : Tm) : max m ((T.over' m).jC N 0) = max m (T.jC N 0) := by
  obtain ⟨k, n, s, ks⟩ := T
  show max m ((Tm.mk k n s (ks.map fun t => putT t m)).jC N 0) = _
  rw [jC_mk, jC_mk]
  have := jns_put N m hm ks
  split <;> omega

abbrev Tm.openC (N : Nat) (T : Tm) : Tm × Nat := T.opened Nat.max (lvC N) 0
theorem openC_pos {N : Nat} {T : Tm} (h : T.wrapsT = true) : T.openC N = ((T.strip Nat.max (lvC N) 0).1.over' (T.strip Nat.max (lvC N) 0).2, (T.strip Nat.max (lvC N) 0).2) := if_pos h
theorem openC_neg {N : Nat} {T : Tm} (h : T.wrapsT = false) : T.openC N = (T, 0) := if_neg (by rw [h]; decide)
theorem openC_er (N : Nat) (T : Tm) : (T.openC N).1.er = T.er := by
  cases h : T.wrapsT with
  | true => rw [openC_pos h]; exact (over_er (strip_end T 0) _).trans (strip_er T 0)
  | false => rw [openC_neg h]
theorem openC_jC {N : Nat} (hN : 1 ≤ N) (T : Tm) : max (T.openC N).2 ((T.openC N).1.jC N 0) = T.jC N 0 := by
  cases h : T.wrapsT with
  | true =>
    rw [openC_pos h]
    simp only
    rw [over_jC (strip_lt hN T 0 (by omega)), strip_jC]
  | false => rw [openC_neg h]; simp only; omega
theorem openC_lt {N : Nat} (hN : 1 ≤ N) (T : Tm) : (T.openC N).2 < N := by
  cases h : T.wrapsT with
  | true => rw [openC_pos h]; exact strip_lt hN T 0 (by omega)
  | false => rw [openC_neg h]; exact hN
/-- A term behind one seal more: what it is opened. -/
theorem strip_put {N x : Nat} (hx : x < N) (T : Tm) : (putT T x).strip Nat.max (lvC N) 0 = ((T.strip Nat.max (lvC N) 0).1, max x (T.strip Nat.max (lvC N) 0).2) := by
  have e : Nat.max 0 (lvC N x) = x := by rw [lvC_in hx]; show max 0 x = x; omega
  rw [putT, Tm.strip_wraps, e, strip_max]
theorem put_wraps (T : Tm) (l : Int) : (putT T l).wrapsT = true := decide_eq_true (p := (4 : Int) = 4 ∧ [T].length = 1) ⟨rfl, rfl⟩
theorem open_put {N x : Nat} (hx : x < N) (T : Tm) : (putT T x).openC N = ((T.strip Nat.max (lvC N) 0).1.over' (max x (T.strip Nat.max (lvC N) 0).2 : Nat), max x (T.strip Nat.max (lvC N) 0).2) := by
  rw [openC_pos (put_wraps T x), strip_put hx]
theorem sizes_puts (l : Int) : ∀ ks : List Tm, Tm.sizes (ks.map fun t => putT t l) = Tm.sizes ks + ks.length
  | [] => rfl
  | t :: ts => by
    rw [List.map_cons, Tm.sizes_cons, Tm.sizes_cons, sizes_puts l ts, putT, Tm.size_mk, Tm.sizes_cons, Tm.sizes_nil, List.length_cons]; omega
theorem over_size (T : Tm) (l : Int) : (T.over' l).size ≤ 2 * T.size := by
  obtain ⟨k, n, s, ks⟩ := T
  show (Tm.mk k n s (ks.map fun t => putT t l)).size ≤ _
  rw [Tm.size_mk, Tm.size_mk, sizes_puts]
  have := Tm.length_le_sizes ks
  omega
theorem openC_size (N : Nat) (T : Tm) : (T.openC N).1.size ≤ 2 * T.size := by
  cases h : T.wrapsT with
  | true =>
    rw [openC_pos h]
    have h1 := over_size (T.strip Nat.max (lvC N) 0).1 (T.strip Nat.max (lvC N) 0).2
    have h2 := strip_size (N := N) T 0
    simp only
    omega
  | false => rw [openC_neg h]; simp only; omega

end Go.Proofs.Ytnkfjomnpnbidaa
