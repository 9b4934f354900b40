/-
  What may be: facts on checked terms.
-/
import Derived.Test.YtbdkakpbhijilaaShown
import Derived.Test.YtbdkakpbhijilaaOwnI

namespace Go.Proofs.Ytbdkakpbhijilaa
open Go.RowKit Go.Shelf
set_option linter.unusedVariables false

theorem validL_append (L : Int) (l r : List (Nat × Tm)) : validL L (l ++ r) = (validL L l && validL L r) := by simp [validL]
theorem validL_partss (L : Int) (d e : Nat) : ∀ ks : List Tm, (∀ t ∈ ks, ∀ d e, validL L (t.parts d) = validL L (t.parts e)) → validL L (Tm.partss d ks) = validL L (Tm.partss e ks)
  | [], _ => by simp [Tm.partss_nil]
  | t :: ts, h => by rw [Tm.partss_cons, Tm.partss_cons, validL_append, validL_append, h t (by simp) d e, validL_partss L d e ts fun u hu => h u (by simp [hu])]
theorem validL_parts (L : Int) (T : Tm) : ∀ d e, validL L (T.parts d) = validL L (T.parts e) := by
  induction T using Tm.ind with
  | h k n s ks ih =>
    intro d e
    rw [Tm.parts_mk, Tm.parts_mk]
    show validL L ([(d, Tm.mk k n s ks)] ++ _) = validL L ([(e, Tm.mk k n s ks)] ++ _)
    rw [validL_append, validL_append, validL_partss L (d + 1) (e + 1) ks ih]
    rfl
theorem validL_kids (L : Int) (d : Nat) : ∀ ks : List Tm, validL L (Tm.partss d ks) = ks.all (Tm.valid L)
  | [] => by simp [Tm.partss_nil, validL]
  | t :: ts => by rw [Tm.partss_cons, validL_append, validL_kids L d ts, List.all_cons, validL_parts L t d 1]; rfl
theorem valid_mk (L k n : Int) (s : ByteArray) (ks : List Tm) : (Tm.mk k n s ks).valid L = ((Tm.mk k n s ks).formed L && ks.all (Tm.valid L)) := by
  rw [Tm.valid, Tm.parts_mk]
  show validL L ([(1, Tm.mk k n s ks)] ++ _) = _
  rw [validL_append, validL_kids]
  simp [validL]
theorem groundL_append (l r : List (Nat × Tm)) : groundL (l ++ r) = (groundL l && groundL r) := by simp [groundL]
theorem ground_nums (l : List (Nat × Tm)) : groundL l = decide ((nums l).length = 0) := by
  induction l with
  | nil => rfl
  | cons x l ih =>
    show groundL ([x] ++ l) = decide ((nums ([x] ++ l)).length = 0)
    rw [groundL_append, nums_append, ih, List.length_append]
    unfold groundL nums
    by_cases h : x.2.kind = 1
    · simp [h]
    · simp [h]
theorem foldl_len (xs : List Int) : ((xs.foldl addNew []).length = 0) ↔ xs.length = 0 := by
  constructor
  · intro h
    cases xs with
    | nil => rfl
    | cons x xs =>
      rw [List.foldl_cons, foldl_addNew] at h
      simp [addNew] at h
  · intro h
    rw [List.eq_nil_of_length_eq_zero h]; rfl
theorem ground_vars (T : Tm) : T.ground = decide (T.vars.length = 0) := by
  rw [Tm.ground, ground_nums, Tm.vars, varsL, foldl_addV, decide_eq_decide]
  exact (foldl_len _).symm
theorem ground_seal (n : Int) (s : ByteArray) (T : Tm) : (Tm.mk 4 n s [T]).ground = T.ground := by
  rw [Tm.ground, Tm.ground, ground_nums, ground_nums, Tm.parts_mk, Tm.partss_cons, Tm.partss_nil, List.append_nil]
  show decide ((nums ([(1, Tm.mk 4 n s [T])] ++ _)).length = 0) = _
  rw [nums_append, nums_parts T (1 + 1) 1]
  rfl

theorem check_zero {L : Int} {T : Tm} (h : T.check L = 0) : T.size ≤ 1000 ∧ T.deep ≤ 60 ∧ T.valid L = true := by
  unfold Tm.check at h
  split at h
  · cases h
  · split at h
    · cases h
    · split at h
      · exact ⟨by omega, by omega, by assumption⟩
      · cases h
theorem check_of {L : Int} {T : Tm} (h1 : T.size ≤ 1000) (h2 : T.deep ≤ 60) : T.check L = if T.valid L = true then 0 else 4 := by
  rw [Tm.check, if_neg (by omega), if_neg (by omega)]
theorem deep_le_deeps {t : Tm} : ∀ {ks : List Tm}, t ∈ ks → t.deep ≤ Tm.deeps ks
  | u :: us, h => by
    rw [Tm.deeps_cons]
    rcases List.mem_cons.1 h with rfl | h
    · omega
    · have := deep_le_deeps h; omega
theorem check_kid {L k n : Int} {s : ByteArray} {ks : List Tm} (h : (Tm.mk k n s ks).check L = 0) {t : Tm} (ht : t ∈ ks) : t.check L = 0 := by
  obtain ⟨h1, h2, h3⟩ := check_zero h
  rw [Tm.size_mk] at h1
  rw [Tm.deep_mk] at h2
  have g1 := Tm.size_le_sizes ht
  have g2 := deep_le_deeps ht
  rw [valid_mk] at h3
  simp only [Bool.and_eq_true, List.all_eq_true] at h3
  rw [check_of (by omega) (by omega), if_pos (h3.2 t ht)]

/-- What a seal's check tells. -/
theorem check_seal_big {L n : Int} {T : Tm} (h : 1000 ≤ T.size ∨ 60 ≤ T.deep) : (Tm.mk 4 n (ByteArray.mk #[]) [T]).check L ≠ 0 := by
  intro e
  obtain ⟨h1, h2, _⟩ := check_zero e
  rw [Tm.size_mk, Tm.sizes_cons, Tm.sizes_nil] at h1
  rw [Tm.deep_mk, Tm.deeps_cons, Tm.deeps_nil] at h2
  omega
theorem check_seal {L n : Int} {T : Tm} (h1 : T.size < 1000) (h2 : T.deep < 60) (hv : T.valid L = true) (hn : 0 ≤ n) : (Tm.mk 4 n (ByteArray.mk #[]) [T]).check L = if T.vars.length = 0 ∧ n < L then 0 else 4 := by
  have ht : (ByteArray.mk #[]).toList = [] := empty_toList
  rw [check_of (by rw [Tm.size_mk, Tm.sizes_cons, Tm.sizes_nil]; omega) (by rw [Tm.deep_mk, Tm.deeps_cons, Tm.deeps_nil]; omega), valid_mk, Tm.formed_eq L 4 n _ [T] 1 rfl, ground_seal, ground_vars]
  simp only [List.all_cons, List.all_nil, hv, ht]
  by_cases g1 : T.vars.length = 0 <;> by_cases g2 : n < L <;> simp [g1, g2, hn]
theorem check_pair {L : Int} {T : Tm} (hv : T.valid L = true) : (Tm.mk 3 0 (ByteArray.mk #[102]) [T, T]).check L ≠ 4 := by
  have hs : (ByteArray.mk #[102]).size = 1 := rfl
  have : (Tm.mk 3 0 (ByteArray.mk #[102]) [T, T]).valid L = true := by
    rw [valid_mk, Tm.formed_eq L 3 0 _ [T, T] 2 rfl]
    simp [hv, hs]
  unfold Tm.check
  rw [this]
  split
  · decide
  · split
    · decide
    · decide

theorem seal_term {w : World} {n : Int} {k1 n1 : Int} {s1 : ByteArray} {a1 : Option Addr} {l1 c1 : Nat} {T : Tm} (hn : i64ok n) (h : Has w (.agg #[.int .i64 k1, .int .i64 n1, .string s1, .slice a1 l1 c1]) T) :
    Has (w.alloc (.cells #[.int .i64 k1, .int .i64 n1, .string s1, .slice a1 l1 c1] 24)) (.agg #[.int .i64 4, .int .i64 n, .string (ByteArray.mk #[]), .slice (some ⟨w.heap.size, 0, none⟩) 1 1]) (.mk 4 n (ByteArray.mk #[]) [T]) :=
  (one_term h).term ⟨by decide, by decide⟩ hn (Nat.zero_le _)


end Go.Proofs.Ytbdkakpbhijilaa
