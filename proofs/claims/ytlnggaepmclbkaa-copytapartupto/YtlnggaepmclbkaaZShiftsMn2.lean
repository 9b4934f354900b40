/-
  What shifting does to a term: plain facts, nothing of the program.
-/
import Derived.Test.YtlnggaepmclbkaaZVarsn3
import Derived.Test.YtlnggaepmclbkaaZShiftn2
import Derived.Test.YtlnggaepmclbkaaZStoSn2
namespace Go.Proofs.Ytlnggaepmclbkaa
open Go.RowKit Go.Shelf
set_option linter.unusedVariables false

theorem wrap64_two (n a b : Int) : wrap64 (wrap64 (n + a) + b) = wrap64 (n + wrap64 (a + b)) := by simp only [wrap64]; omega
theorem wrap64_back (a : Int) : wrap64 (a + wrap64 (-a)) = 0 := by simp only [wrap64]; omega
theorem wrap64_inj {n m a : Int} (hn : i64ok n) (hm : i64ok m) (h : wrap64 (n + a) = wrap64 (m + a)) : n = m := by
  obtain ⟨h1, h2⟩ := hn
  obtain ⟨h3, h4⟩ := hm
  simp only [wrap64] at h
  omega

theorem Tm.shift_shift (a b : Int) (T : Tm) : (T.shift a).shift b = T.shift (wrap64 (a + b)) := by
  induction T using Tm.ind with
  | h k n s ks ih =>
    rw [Tm.shift_mk, Tm.shift_mk, Tm.shift_mk, Tm.shifts_eq, Tm.shifts_eq, Tm.shifts_eq, List.map_map]
    congr 1
    · by_cases hk : k = 1
      · rw [if_pos hk, if_pos hk, if_pos hk, wrap64_two]
      · rw [if_neg hk, if_neg hk, if_neg hk]
    · exact List.map_congr_left fun t ht => ih t ht

theorem Tm.sizes_shift (a : Int) : ∀ ks : List Tm, (∀ t ∈ ks, (t.shift a).size = t.size) → Tm.sizes (ks.map (Tm.shift a)) = Tm.sizes ks
  | [], _ => rfl
  | t :: ts, h => by rw [List.map_cons, Tm.sizes_cons, Tm.sizes_cons, h t (by simp), Tm.sizes_shift a ts fun u hu => h u (by simp [hu])]
theorem Tm.size_shift (a : Int) (T : Tm) : (T.shift a).size = T.size := by
  induction T using Tm.ind with
  | h k n s ks ih => rw [Tm.shift_mk, Tm.shifts_eq, Tm.size_mk, Tm.size_mk, Tm.sizes_shift a ks ih]
theorem Tm.deeps_shift (a : Int) : ∀ ks : List Tm, (∀ t ∈ ks, (t.shift a).deep = t.deep) → Tm.deeps (ks.map (Tm.shift a)) = Tm.deeps ks
  | [], _ => rfl
  | t :: ts, h => by rw [List.map_cons, Tm.deeps_cons, Tm.deeps_cons, h t (by simp), Tm.deeps_shift a ts fun u hu => h u (by simp [hu])]
theorem Tm.deep_shift (a : Int) (T : Tm) : (T.shift a).deep = T.deep := by
  induction T using Tm.ind with
  | h k n s ks ih => rw [Tm.shift_mk, Tm.shifts_eq, Tm.deep_mk, Tm.deep_mk, Tm.deeps_shift a ks ih]

theorem Tm.partss_shift (a : Int) (d : Nat) : ∀ ks : List Tm, (∀ t ∈ ks, ∀ d, (t.shift a).parts d = (t.parts d).map fun x => (x.1, x.2.shift a)) → Tm.partss d (ks.map (Tm.shift a)) = (Tm.partss d ks).map fun x => (x.1, x.2.shift a)
  | [], _ => by simp [Tm.partss_nil]
  | t :: ts, h => by rw [List.map_cons, Tm.partss_cons, Tm.partss_cons, List.map_append, h t (by simp), Tm.partss_shift a d ts fun u hu => h u (by simp [hu])]
theorem Tm.parts_shift (a : Int) (T : Tm) : ∀ d, (T.shift a).parts d = (T.parts d).map fun x => (x.1, x.2.shift a) := by
  induction T using Tm.ind with
  | h k n s ks ih =>
    intro d
    rw [Tm.parts_mk, List.map_cons, Tm.shift_mk, Tm.shifts_eq, Tm.parts_mk, Tm.partss_shift a (d + 1) ks ih]

/-- The numbers of all parts are within their range. -/
theorem parts_ok {p : Nat → Prop} {W : World} {v : Value} {T : Tm} (h : TmIn p W v T) : ∀ d, ∀ x ∈ T.parts d, i64ok x.2.num := by
  induction h with
  | @mk k n s a cap ks hk hn hs hc hm ha vs K N S hv hkid ih =>
    intro d x hx
    rw [Tm.parts_mk] at hx
    rcases List.mem_cons.1 hx with rfl | hx
    · exact hn
    · have key : ∀ (l : List Tm), (∀ t ∈ l, ∀ d, ∀ x ∈ t.parts d, i64ok x.2.num) → ∀ d, ∀ x ∈ Tm.partss d l, i64ok x.2.num := by
        intro l
        induction l with
        | nil => intro _ d x hx; rw [Tm.partss_nil] at hx; cases hx
        | cons t ts iht =>
          intro h d x hx
          rw [Tm.partss_cons] at hx
          rcases List.mem_append.1 hx with hx | hx
          · exact h t (by simp) d x hx
          · exact iht (fun u hu => h u (by simp [hu])) d x hx
      refine key ks (fun t ht => ?_) (d + 1) x hx
      obtain ⟨i, hi, rfl⟩ := List.getElem_of_mem ht
      exact ih i hi

theorem contains_map {a n : Int} : ∀ {l : List Int}, i64ok n → (∀ m ∈ l, i64ok m) → (l.map fun m => wrap64 (m + a)).contains (wrap64 (n + a)) = l.contains n
  | [], _, _ => rfl
  | m :: l, hn, hl => by
    rw [List.map_cons, List.contains_cons, List.contains_cons, contains_map hn fun x hx => hl x (by simp [hx])]
    congr 1
    rw [Bool.eq_iff_iff]
    simp only [beq_iff_eq]
    exact ⟨fun e => wrap64_inj hn (hl m (by simp)) e, fun e => by rw [e]⟩

theorem addV_ok {acc : List Int} {x : Nat × Tm} (ha : ∀ m ∈ acc, i64ok m) (hx : i64ok x.2.num) : ∀ m ∈ addV acc x, i64ok m := by
  unfold addV addNew
  split
  · split
    · exact ha
    · intro m hm
      rcases List.mem_append.1 hm with hm | hm
      · exact ha m hm
      · simp at hm; subst hm; exact hx
  · exact ha

theorem vars_foldl (a : Int) : ∀ (l : List (Nat × Tm)) (acc : List Int), (∀ m ∈ acc, i64ok m) → (∀ x ∈ l, i64ok x.2.num) →
    (l.map fun x => (x.1, x.2.shift a)).foldl addV (acc.map fun m => wrap64 (m + a)) = (l.foldl addV acc).map fun m => wrap64 (m + a)
  | [], acc, _, _ => rfl
  | x :: l, acc, ha, hl => by
    rw [List.map_cons, List.foldl_cons, List.foldl_cons, ← vars_foldl a l (addV acc x) (addV_ok ha (hl x (by simp))) fun y hy => hl y (by simp [hy])]
    congr 1
    obtain ⟨d, k, n, s, ks⟩ := x
    show addV _ (d, (Tm.mk k n s ks).shift a) = _
    rw [Tm.shift_mk]
    unfold addV
    show (if k = 1 then addNew _ (if k = 1 then wrap64 (n + a) else n) else _) = (if k = 1 then addNew acc n else acc).map _
    by_cases hk : k = 1
    · rw [if_pos hk, if_pos hk, if_pos hk]
      unfold addNew
      have hn : i64ok n := hl (d, .mk k n s ks) (by simp)
      rw [contains_map hn ha]
      split
      · rfl
      · rw [List.map_append]; rfl
    · rw [if_neg hk, if_neg hk]

theorem vars_shift {p : Nat → Prop} {W : World} {v : Value} {T : Tm} (h : TmIn p W v T) (a : Int) : (T.shift a).vars = T.vars.map fun m => wrap64 (m + a) := by
  rw [Tm.vars, Tm.parts_shift]
  exact vars_foldl a (T.parts 1) [] (by simp) (parts_ok h 1)

theorem vars_len_le (T : Tm) : T.vars.length ≤ T.size := by have := varsL_length (T.parts 1); rw [T.parts_length] at this; exact this

theorem vars_ok {p : Nat → Prop} {W : World} {v : Value} {T : Tm} (h : TmIn p W v T) : ∀ m ∈ T.vars, i64ok m := by
  have key : ∀ (l : List (Nat × Tm)) (acc : List Int), (∀ m ∈ acc, i64ok m) → (∀ x ∈ l, i64ok x.2.num) → ∀ m ∈ l.foldl addV acc, i64ok m := by
    intro l
    induction l with
    | nil => intro acc ha _; exact ha
    | cons x l ih => intro acc ha hl; rw [List.foldl_cons]; exact ih _ (addV_ok ha (hl x (by simp))) fun y hy => hl y (by simp [hy])
  exact key (T.parts 1) [] (by simp) (parts_ok h 1)

end Go.Proofs.Ytlnggaepmclbkaa

namespace Go.Proofs.Ytlnggaepmclbkaa
open Go.RowKit Go.Shelf
set_option linter.unusedVariables false

mutual
/-- The term with other numbers of its variables. -/
def Tm.rn (f : Int → Int) : Tm → Tm
  | .mk k n s ks => .mk k (if k = 1 then f n else n) s (Tm.rns f ks)
def Tm.rns (f : Int → Int) : List Tm → List Tm
  | [] => []
  | t :: ts => t.rn f :: Tm.rns f ts
end
theorem Tm.rns_eq (f : Int → Int) : ∀ ks : List Tm, Tm.rns f ks = ks.map (Tm.rn f)
  | [] => by rw [Tm.rns]; rfl
  | t :: ts => by rw [Tm.rns, Tm.rns_eq f ts]; rfl
theorem Tm.rn_mk (f : Int → Int) (k n : Int) (s : ByteArray) (ks : List Tm) : (Tm.mk k n s ks).rn f = .mk k (if k = 1 then f n else n) s (ks.map (Tm.rn f)) := by rw [Tm.rn, Tm.rns_eq]
theorem Tm.shift_rn (a : Int) (T : Tm) : T.shift a = T.rn fun n => wrap64 (n + a) := by
  induction T using Tm.ind with
  | h k n s ks ih =>
    rw [Tm.shift_mk, Tm.rn_mk, Tm.shifts_eq]
    congr 1
    exact List.map_congr_left fun t ht => ih t ht
theorem Tm.rn_rn (f g : Int → Int) (T : Tm) : (T.rn f).rn g = T.rn fun x => g (f x) := by
  induction T using Tm.ind with
  | h k n s ks ih =>
    rw [Tm.rn_mk, Tm.rn_mk, Tm.rn_mk, List.map_map]
    congr 1
    · by_cases hk : k = 1
      · rw [if_pos hk, if_pos hk, if_pos hk]
      · rw [if_neg hk, if_neg hk, if_neg hk]
    · exact List.map_congr_left fun t ht => ih t ht
theorem Tm.rn_congr (f g : Int → Int) (T : Tm) : (∀ x, Occ x T → f x = g x) → T.rn f = T.rn g := by
  induction T using Tm.ind with
  | h k n s ks ih =>
    intro h
    rw [Tm.rn_mk, Tm.rn_mk]
    congr 1
    · by_cases hk : k = 1
      · subst hk
        rw [if_pos rfl, if_pos rfl, h n (.here rfl)]
      · rw [if_neg hk, if_neg hk]
    · exact List.map_congr_left fun t ht => ih t ht fun x hx => h x (.kid ht hx)
theorem Tm.rn_id (T : Tm) : (T.rn fun x => x) = T := by
  induction T using Tm.ind with
  | h k n s ks ih =>
    rw [Tm.rn_mk]
    congr 1
    · split <;> rfl
    · conv => rhs; rw [← List.map_id ks]
      exact List.map_congr_left fun t ht => ih t ht
theorem Tm.rn_same (f : Int → Int) (T : Tm) (h : ∀ x, Occ x T → f x = x) : T.rn f = T := (Tm.rn_congr f (fun x => x) T h).trans T.rn_id
theorem Tm.sizes_rn (f : Int → Int) : ∀ ks : List Tm, (∀ t ∈ ks, (t.rn f).size = t.size) → Tm.sizes (ks.map (Tm.rn f)) = Tm.sizes ks
  | [], _ => rfl
  | t :: ts, h => by rw [List.map_cons, Tm.sizes_cons, Tm.sizes_cons, h t (by simp), Tm.sizes_rn f ts fun u hu => h u (by simp [hu])]
theorem Tm.size_rn (f : Int → Int) (T : Tm) : (T.rn f).size = T.size := by
  induction T using Tm.ind with
  | h k n s ks ih => rw [Tm.rn_mk, Tm.size_mk, Tm.size_mk, Tm.sizes_rn f ks ih]
theorem Tm.partss_rn (f : Int → Int) (d : Nat) : ∀ ks : List Tm, (∀ t ∈ ks, ∀ d, (t.rn f).parts d = (t.parts d).map fun x => (x.1, x.2.rn f)) → Tm.partss d (ks.map (Tm.rn f)) = (Tm.partss d ks).map fun x => (x.1, x.2.rn f)
  | [], _ => by simp [Tm.partss_nil]
  | t :: ts, h => by rw [List.map_cons, Tm.partss_cons, Tm.partss_cons, List.map_append, h t (by simp), Tm.partss_rn f d ts fun u hu => h u (by simp [hu])]
theorem Tm.parts_rn (f : Int → Int) (T : Tm) : ∀ d, (T.rn f).parts d = (T.parts d).map fun x => (x.1, x.2.rn f) := by
  induction T using Tm.ind with
  | h k n s ks ih =>
    intro d
    rw [Tm.parts_mk, List.map_cons, Tm.rn_mk, Tm.parts_mk, Tm.partss_rn f (d + 1) ks ih]

/-- One number for each. -/
def Inj (f : Int → Int) (l : List Int) : Prop := ∀ x ∈ l, ∀ y ∈ l, f x = f y → x = y
theorem contains_mapI {f : Int → Int} {S : List Int} (hf : Inj f S) {n : Int} : ∀ {l : List Int}, n ∈ S → (∀ m ∈ l, m ∈ S) → (l.map f).contains (f n) = l.contains n
  | [], _, _ => rfl
  | m :: l, hn, hl => by
    rw [List.map_cons, List.contains_cons, List.contains_cons, contains_mapI hf hn fun x hx => hl x (by simp [hx])]
    congr 1
    rw [Bool.eq_iff_iff]
    simp only [beq_iff_eq]
    exact ⟨fun e => hf n hn m (hl m (by simp)) e, fun e => by rw [e]⟩
theorem vars_foldI {f : Int → Int} {S : List Int} (hf : Inj f S) : ∀ (l : List (Nat × Tm)) (acc : List Int), (∀ m ∈ acc, m ∈ S) → (∀ x ∈ l, x.2.kind = 1 → x.2.num ∈ S) →
    (l.map fun x => (x.1, x.2.rn f)).foldl addV (acc.map f) = (l.foldl addV acc).map f
  | [], acc, _, _ => rfl
  | x :: l, acc, ha, hl => by
    have hacc : ∀ m ∈ addV acc x, m ∈ S := by
      unfold addV addNew
      split
      · rename_i hk
        split
        · exact ha
        · intro m hm
          rcases List.mem_append.1 hm with hm | hm
          · exact ha m hm
          · simp at hm; subst hm; exact hl x (by simp) hk
      · exact ha
    rw [List.map_cons, List.foldl_cons, List.foldl_cons, ← vars_foldI hf l (addV acc x) hacc fun y hy => hl y (by simp [hy])]
    congr 1
    obtain ⟨d, k, n, s, ks⟩ := x
    show addV _ (d, (Tm.mk k n s ks).rn f) = _
    rw [Tm.rn_mk]
    unfold addV
    show (if k = 1 then addNew _ (if k = 1 then f n else n) else _) = (if k = 1 then addNew acc n else acc).map _
    by_cases hk : k = 1
    · rw [if_pos hk, if_pos hk, if_pos hk]
      unfold addNew
      have hn : n ∈ S := hl (d, .mk k n s ks) (by simp) hk
      rw [contains_mapI hf hn ha]
      split
      · rfl
      · rw [List.map_append]; rfl
    · rw [if_neg hk, if_neg hk]
theorem vars_rn {f : Int → Int} (T : Tm) (hf : Inj f T.vars) : (T.rn f).vars = T.vars.map f := by
  rw [Tm.vars, Tm.parts_rn]
  exact vars_foldI hf (T.parts 1) [] (by simp) fun x hx hk => (mem_vars _ T).2 ((occ_parts _ T 1).1 ⟨x, hx, hk, rfl⟩)
/-- Where a number stands in the list; 0 if it isn't there. -/
def idx (l : List Int) (x : Int) : Int := if x ∈ l then (l.idxOf x : Int) else 0
theorem idx_in {l : List Int} {x : Int} (h : x ∈ l) : idx l x = (l.idxOf x : Int) := if_pos h
theorem idx_inj (l : List Int) : Inj (idx l) l := by
  intro x hx y hy e
  rw [idx_in hx, idx_in hy] at e
  have e : l.idxOf x = l.idxOf y := by omega
  have h1 := List.getElem_idxOf (List.idxOf_lt_length_of_mem hx)
  have h2 := List.getElem_idxOf (List.idxOf_lt_length_of_mem hy)
  rw [← h1, ← h2]
  congr 1
theorem idxOf_map {f : Int → Int} : ∀ {l : List Int} {x : Int}, Inj f l → x ∈ l → (l.map f).idxOf (f x) = l.idxOf x
  | y :: l, x, hf, hx => by
    rw [List.map_cons, List.idxOf_cons, List.idxOf_cons]
    by_cases e : y = x
    · subst e; simp
    · have e2 : ¬ f y = f x := fun h => e (hf y (by simp) x hx h)
      have hx' : x ∈ l := (List.mem_cons.1 hx).resolve_left fun h => e h.symm
      have ih := idxOf_map (f := f) (l := l) (x := x) (fun a ha b hb => hf a (by simp [ha]) b (by simp [hb])) hx'
      rw [ih]
      rw [beq_false_of_ne e, beq_false_of_ne e2]
theorem idx_map {f : Int → Int} {l : List Int} {x : Int} (hf : Inj f l) (hx : x ∈ l) : idx (l.map f) (f x) = idx l x := by
  rw [idx_in hx, idx_in (List.mem_map.2 ⟨x, hx, rfl⟩), idxOf_map hf hx]
theorem idx_get {l : List Int} (hn : l.Nodup) (i : Nat) (hi : i < l.length) : idx l l[i] = (i : Int) := by
  rw [idx_in (List.getElem_mem hi), List.Nodup.idxOf_getElem hn]
theorem idx_range (l : List Int) (x : Int) : 0 ≤ idx l x ∧ (l ≠ [] → idx l x < (l.length : Int)) ∧ (l = [] → idx l x = 0) := by
  unfold idx
  split
  · rename_i h
    have := List.idxOf_lt_length_of_mem h
    exact ⟨by omega, fun _ => by omega, fun e => by subst e; cases h⟩
  · exact ⟨by omega, fun h => by have := List.length_pos_iff.2 h; omega, fun _ => rfl⟩

/-- P13.1: Norm. -/
def Tm.norm (T : Tm) : Tm := T.rn (idx T.vars)
theorem norm_rn {f : Int → Int} (T : Tm) (hf : Inj f T.vars) : (T.rn f).norm = T.norm := by
  unfold Tm.norm
  rw [vars_rn T hf, Tm.rn_rn]
  exact Tm.rn_congr _ _ T fun x hx => idx_map hf ((mem_vars x T).2 hx)
theorem norm_norm (T : Tm) : T.norm.norm = T.norm := norm_rn T (idx_inj _)
theorem norm_size (T : Tm) : T.norm.size = T.size := T.size_rn _
theorem norm_vars (T : Tm) : T.norm.vars = T.vars.map (idx T.vars) := vars_rn T (idx_inj _)
theorem norm_vars_len (T : Tm) : T.norm.vars.length = T.vars.length := by rw [norm_vars, List.length_map]
theorem shift_inj {T : Tm} (a : Int) (h : ∀ m ∈ T.vars, i64ok m) : Inj (fun n => wrap64 (n + a)) T.vars := fun x hx y hy e => wrap64_inj (h x hx) (h y hy) e
theorem norm_shift {T : Tm} (a : Int) (h : ∀ m ∈ T.vars, i64ok m) : (T.shift a).norm = T.norm := by
  rw [Tm.shift_rn]
  exact norm_rn T (shift_inj a h)
theorem shift_vars_len {T : Tm} (a : Int) (h : ∀ m ∈ T.vars, i64ok m) : (T.shift a).vars.length = T.vars.length := by
  rw [Tm.shift_rn, vars_rn T (shift_inj a h), List.length_map]
theorem norm_vars_get (T : Tm) (i : Nat) (hi : i < T.norm.vars.length) : T.norm.vars[i] = (i : Int) := by
  have hi' : i < T.vars.length := by rw [← norm_vars_len]; exact hi
  have e : T.norm.vars[i]? = some (i : Int) := by
    rw [norm_vars, List.getElem?_map, List.getElem?_eq_getElem hi', Option.map_some, idx_get (vars_nodup T) i hi']
  rw [List.getElem?_eq_getElem hi] at e
  exact Option.some.inj e
theorem norm_vars_ok (T : Tm) (hs : T.size ≤ 1000000000000) : ∀ m ∈ T.norm.vars, i64ok m := by
  intro m hm
  obtain ⟨i, hi, rfl⟩ := List.getElem_of_mem hm
  rw [norm_vars_get T i hi]
  have := vars_len_le T
  rw [norm_vars_len] at hi
  unfold i64ok
  omega
/-- What a copy's variables are, above n others. -/
theorem copy_vars_get (T : Tm) (n : Nat) (hs : T.size ≤ 1000000000) (hn : n ≤ 1000000000) (i : Nat) (hi : i < (T.norm.shift (n : Int)).vars.length) : (T.norm.shift (n : Int)).vars[i] = ((n + i : Nat) : Int) := by
  have hok := norm_vars_ok T (by omega)
  have hl := shift_vars_len (n : Int) hok
  have hi' : i < T.norm.vars.length := by rw [← hl]; exact hi
  have hlen := vars_len_le T
  rw [norm_vars_len] at hi'
  have e : (T.norm.shift (n : Int)).vars[i]? = some ((n + i : Nat) : Int) := by
    rw [Tm.shift_rn, vars_rn _ (shift_inj _ hok), List.getElem?_map, List.getElem?_eq_getElem (by rw [norm_vars_len]; exact hi'), Option.map_some, norm_vars_get]
    congr 1
    simp only [wrap64]
    omega
  rw [List.getElem?_eq_getElem hi] at e
  exact Option.some.inj e
theorem copy_vars_len (T : Tm) (a : Int) (hs : T.size ≤ 1000000000) : (T.norm.shift a).vars.length = T.vars.length := by
  rw [shift_vars_len a (norm_vars_ok T (by omega)), norm_vars_len]
theorem copy_norm (T : Tm) (a : Int) (hs : T.size ≤ 1000000000) : (T.norm.shift a).norm = T.norm := by
  rw [norm_shift a (norm_vars_ok T (by omega)), norm_norm]
theorem no_vars_rn {T : Tm} (h : T.vars = []) (f : Int → Int) : T.rn f = T := Tm.rn_same f T fun x hx => by
  have := (mem_vars x T).2 hx
  rw [h] at this; cases this
theorem no_vars_norm {T : Tm} (h : T.vars = []) : T.norm = T := no_vars_rn h _
theorem no_vars_shift {T : Tm} (h : T.vars = []) (a : Int) : T.shift a = T := by rw [Tm.shift_rn]; exact no_vars_rn h _
theorem shift_zero {T : Tm} (h : ∀ m ∈ T.vars, i64ok m) : T.shift 0 = T := by
  rw [Tm.shift_rn]
  refine Tm.rn_same _ T fun x hx => ?_
  obtain ⟨h1, h2⟩ := h x ((mem_vars x T).2 hx)
  simp only [wrap64]
  omega

theorem keyI (x : Int) : WideAt.IsKeyLit (.int .i64 x) := trivial
/-- A map that tells where numbers stand in a list. -/
structure IdxMap (D : DataW Unit) (l : List Int) : Prop where
  tidy : Maps.Tidy D
  size : Maps.size D = l.length
  has : ∀ x, Maps.has D (.int .i64 x) = decide (x ∈ l)
  at' : ∀ x, D.atKey (.int .i64 x) (.lit (.int .i64 0)) = .lit (.int .i64 (idx l x))
theorem IdxMap.nil : IdxMap (.map []) [] := ⟨Maps.tidy_empty, rfl, fun x => by simp [Maps.has], fun x => rfl⟩
theorem idx_snoc_same {l : List Int} {x : Int} (hx : x ∉ l) : idx (l ++ [x]) x = (l.length : Int) := by
  rw [idx_in (by simp), List.idxOf_append, if_neg hx]
  simp
theorem idx_snoc_other {l : List Int} {x y : Int} (hy : y ≠ x) : idx (l ++ [x]) y = idx l y := by
  unfold idx
  by_cases h : y ∈ l
  · rw [if_pos h, if_pos (by simp [h]), List.idxOf_append, if_pos h]
  · rw [if_neg h, if_neg (by simp [h, hy])]
theorem IdxMap.snoc {D : DataW Unit} {l : List Int} (h : IdxMap D l) {x : Int} (hx : x ∉ l) : IdxMap (D.put (.int .i64 x) (.lit (.int .i64 (l.length : Int)))) (l ++ [x]) := by
  refine ⟨h.tidy.put (keyI x) _, ?_, fun y => ?_, fun y => ?_⟩
  · rw [Maps.size_put h.tidy, h.has, decide_eq_false hx, h.size, List.length_append]; rfl
  · by_cases e : y = x
    · subst e
      rw [Maps.has_put_same h.tidy.isMap (keyI _)]; simp
    · rw [Maps.has_put_other (by intro e2; cases e2; exact e rfl), h.has]
      simp [e]
  · by_cases e : y = x
    · subst e
      rw [Maps.atKey_put_same h.tidy.isMap (keyI _), idx_snoc_same hx]
    · rw [Maps.atKey_put_other (by intro e2; cases e2; exact e rfl), h.at', idx_snoc_other e]
end Go.Proofs.Ytlnggaepmclbkaa
