/-
  What shifting does to a term: plain facts, nothing of the program.
-/
import Derived.Test.YtllggpmmcamkmaaVars
import Derived.Test.YtllggpmmcamkmaaMake
namespace Go.Proofs.Ytllggpmmcamkmaa
open Go.RowKit Go.Shelf
set_option linter.unusedVariables false

theorem wrap64_two (n a b : Int) : wrap64 (wrap64 (n + a) + b) = wrap64 (n + wrap64 (a + b)) := by simp only [wrap64]; omega
theorem wrap64_back (a : Int) : wrap64 (a + wrap64 (-a)) = 0 := by simp only [wrap64]; omega
theorem wrap64_inj {n m a : Int} (hn : i64ok n) (hm : i64ok m) (h : wrap64 (n + a) = wrap64 (m + a)) : n = m := by
  obtain ⟨h1, h2⟩ := hn
  obtain ⟨h3, h4⟩ := hm
  simp only [wrap64] at h
  omega

theorem Tm.shift_shift (a b : Int) (T : Tm) : (T.shift a).shift b = T.shift (wrap64 (a + b)) := by
  induction T using Tm.ind with
  | h k n s ks ih =>
    rw [Tm.shift_mk, Tm.shift_mk, Tm.shift_mk, Tm.shifts_eq, Tm.shifts_eq, Tm.shifts_eq, List.map_map]
    congr 1
    · by_cases hk : k = 1
      · rw [if_pos hk, if_pos hk, if_pos hk, wrap64_two]
      · rw [if_neg hk, if_neg hk, if_neg hk]
    · exact List.map_congr_left fun t ht => ih t ht

theorem Tm.sizes_shift (a : Int) : ∀ ks : List Tm, (∀ t ∈ ks, (t.shift a).size = t.size) → Tm.sizes (ks.map (Tm.shift a)) = Tm.sizes ks
  | [], _ => rfl
  | t :: ts, h => by rw [List.map_cons, Tm.sizes_cons, Tm.sizes_cons, h t (by simp), Tm.sizes_shift a ts fun u hu => h u (by simp [hu])]
theorem Tm.size_shift (a : Int) (T : Tm) : (T.shift a).size = T.size := by
  induction T using Tm.ind with
  | h k n s ks ih => rw [Tm.shift_mk, Tm.shifts_eq, Tm.size_mk, Tm.size_mk, Tm.sizes_shift a ks ih]
theorem Tm.deeps_shift (a : Int) : ∀ ks : List Tm, (∀ t ∈ ks, (t.shift a).deep = t.deep) → Tm.deeps (ks.map (Tm.shift a)) = Tm.deeps ks
  | [], _ => rfl
  | t :: ts, h => by rw [List.map_cons, Tm.deeps_cons, Tm.deeps_cons, h t (by simp), Tm.deeps_shift a ts fun u hu => h u (by simp [hu])]
theorem Tm.deep_shift (a : Int) (T : Tm) : (T.shift a).deep = T.deep := by
  induction T using Tm.ind with
  | h k n s ks ih => rw [Tm.shift_mk, Tm.shifts_eq, Tm.deep_mk, Tm.deep_mk, Tm.deeps_shift a ks ih]

theorem Tm.partss_shift (a : Int) (d : Nat) : ∀ ks : List Tm, (∀ t ∈ ks, ∀ d, (t.shift a).parts d = (t.parts d).map fun x => (x.1, x.2.shift a)) → Tm.partss d (ks.map (Tm.shift a)) = (Tm.partss d ks).map fun x => (x.1, x.2.shift a)
  | [], _ => by simp [Tm.partss_nil]
  | t :: ts, h => by rw [List.map_cons, Tm.partss_cons, Tm.partss_cons, List.map_append, h t (by simp), Tm.partss_shift a d ts fun u hu => h u (by simp [hu])]
theorem Tm.parts_shift (a : Int) (T : Tm) : ∀ d, (T.shift a).parts d = (T.parts d).map fun x => (x.1, x.2.shift a) := by
  induction T using Tm.ind with
  | h k n s ks ih =>
    intro d
    rw [Tm.parts_mk, List.map_cons, Tm.shift_mk, Tm.shifts_eq, Tm.parts_mk, Tm.partss_shift a (d + 1) ks ih]

/-- The numbers of all parts are within their range. -/
theorem parts_ok {p : Nat → Prop} {W : World} {v : Value} {T : Tm} (h : TmIn p W v T) : ∀ d, ∀ x ∈ T.parts d, i64ok x.2.num := by
  induction h with
  | @mk k n s a cap ks hk hn hs hc hm ha vs K N S hv hkid ih =>
    intro d x hx
    rw [Tm.parts_mk] at hx
    rcases List.mem_cons.1 hx with rfl | hx
    · exact hn
    · have key : ∀ (l : List Tm), (∀ t ∈ l, ∀ d, ∀ x ∈ t.parts d, i64ok x.2.num) → ∀ d, ∀ x ∈ Tm.partss d l, i64ok x.2.num := by
        intro l
        induction l with
        | nil => intro _ d x hx; rw [Tm.partss_nil] at hx; cases hx
        | cons t ts iht =>
          intro h d x hx
          rw [Tm.partss_cons] at hx
          rcases List.mem_append.1 hx with hx | hx
          · exact h t (by simp) d x hx
          · exact iht (fun u hu => h u (by simp [hu])) d x hx
      refine key ks (fun t ht => ?_) (d + 1) x hx
      obtain ⟨i, hi, rfl⟩ := List.getElem_of_mem ht
      exact ih i hi

theorem contains_map {a n : Int} : ∀ {l : List Int}, i64ok n → (∀ m ∈ l, i64ok m) → (l.map fun m => wrap64 (m + a)).contains (wrap64 (n + a)) = l.contains n
  | [], _, _ => rfl
  | m :: l, hn, hl => by
    rw [List.map_cons, List.contains_cons, List.contains_cons, contains_map hn fun x hx => hl x (by simp [hx])]
    congr 1
    rw [Bool.eq_iff_iff]
    simp only [beq_iff_eq]
    exact ⟨fun e => wrap64_inj hn (hl m (by simp)) e, fun e => by rw [e]⟩

theorem addV_ok {acc : List Int} {x : Nat × Tm} (ha : ∀ m ∈ acc, i64ok m) (hx : i64ok x.2.num) : ∀ m ∈ addV acc x, i64ok m := by
  unfold addV addNew
  split
  · split
    · exact ha
    · intro m hm
      rcases List.mem_append.1 hm with hm | hm
      · exact ha m hm
      · simp at hm; subst hm; exact hx
  · exact ha

theorem vars_foldl (a : Int) : ∀ (l : List (Nat × Tm)) (acc : List Int), (∀ m ∈ acc, i64ok m) → (∀ x ∈ l, i64ok x.2.num) →
    (l.map fun x => (x.1, x.2.shift a)).foldl addV (acc.map fun m => wrap64 (m + a)) = (l.foldl addV acc).map fun m => wrap64 (m + a)
  | [], acc, _, _ => rfl
  | x :: l, acc, ha, hl => by
    rw [List.map_cons, List.foldl_cons, List.foldl_cons, ← vars_foldl a l (addV acc x) (addV_ok ha (hl x (by simp))) fun y hy => hl y (by simp [hy])]
    congr 1
    obtain ⟨d, k, n, s, ks⟩ := x
    show addV _ (d, (Tm.mk k n s ks).shift a) = _
    rw [Tm.shift_mk]
    unfold addV
    show (if k = 1 then addNew _ (if k = 1 then wrap64 (n + a) else n) else _) = (if k = 1 then addNew acc n else acc).map _
    by_cases hk : k = 1
    · rw [if_pos hk, if_pos hk, if_pos hk]
      unfold addNew
      have hn : i64ok n := hl (d, .mk k n s ks) (by simp)
      rw [contains_map hn ha]
      split
      · rfl
      · rw [List.map_append]; rfl
    · rw [if_neg hk, if_neg hk]

theorem vars_shift {p : Nat → Prop} {W : World} {v : Value} {T : Tm} (h : TmIn p W v T) (a : Int) : (T.shift a).vars = T.vars.map fun m => wrap64 (m + a) := by
  rw [Tm.vars, Tm.parts_shift]
  exact vars_foldl a (T.parts 1) [] (by simp) (parts_ok h 1)

theorem vars_len_le (T : Tm) : T.vars.length ≤ T.size := by have := varsL_length (T.parts 1); rw [T.parts_length] at this; exact this

theorem vars_ok {p : Nat → Prop} {W : World} {v : Value} {T : Tm} (h : TmIn p W v T) : ∀ m ∈ T.vars, i64ok m := by
  have key : ∀ (l : List (Nat × Tm)) (acc : List Int), (∀ m ∈ acc, i64ok m) → (∀ x ∈ l, i64ok x.2.num) → ∀ m ∈ l.foldl addV acc, i64ok m := by
    intro l
    induction l with
    | nil => intro acc ha _; exact ha
    | cons x l ih => intro acc ha hl; rw [List.foldl_cons]; exact ih _ (addV_ok ha (hl x (by simp))) fun y hy => hl y (by simp [hy])
  exact key (T.parts 1) [] (by simp) (parts_ok h 1)

end Go.Proofs.Ytllggpmmcamkmaa
