/-
  What the law's own at tells; a term that may be, and of which it tells nothing, is as the texts ask: apart from memory.
-/
import Derived.Test.YtfencolokfghfaaDoorWrJ
import Derived.Test.YtfencolokfghfaaDoorLawWAnsw
namespace Go.Proofs.YtfencolokfghfaaDoor
open Go.Shelf Go.RowKit Go.Sort
set_option linter.unusedVariables false

def lowC (c : UInt8) : Bool := decide (c.toNat < 32) && decide (c ≠ 10)
mutual
/-- What at tells of a term. -/
def Tm.atb : Tm → Bool
  | .mk k n s ks => (decide (k = 3) && decide (s.data.toList = [64]) && decide (ks.length = 2)) || (s.data.toList.any lowC || Tm.atbs ks)
def Tm.atbs : List Tm → Bool
  | [] => false
  | t :: ts => t.atb || Tm.atbs ts
end
theorem Tm.atbs_any : ∀ ks : List Tm, Tm.atbs ks = ks.any Tm.atb
  | [] => by rw [Tm.atbs]; rfl
  | t :: ts => by rw [Tm.atbs, Tm.atbs_any ts]; rfl
theorem Tm.atb_mk (k n : Int) (s : ByteArray) (ks : List Tm) : (Tm.mk k n s ks).atb = ((decide (k = 3) && decide (s.data.toList = [64]) && decide (ks.length = 2)) || (s.data.toList.any lowC || ks.any Tm.atb)) := by
  rw [Tm.atb, Tm.atbs_any]
theorem valid_parts8 (lv : Int) (T : Tm) (d : Nat) : validL lv (T.parts d) = validL lv (T.parts 1) := by
  have key : ∀ (T : Tm) (d e : Nat), validL lv (T.parts d) = validL lv (T.parts e) := by
    intro T
    induction T using Tm.ind with
    | h k n s ks ih =>
      intro d e
      have : ∀ (ks : List Tm), (∀ t ∈ ks, ∀ d e : Nat, validL lv (t.parts d) = validL lv (t.parts e)) → ∀ d e, validL lv (Tm.partss d ks) = validL lv (Tm.partss e ks) := by
        intro ks
        induction ks with
        | nil => intro _ d e; rw [Tm.partss_nil, Tm.partss_nil]
        | cons t ts iht =>
          intro h d e
          have h1 := h t (by simp) d e
          have h2 := iht (fun u hu => h u (by simp [hu])) d e
          unfold validL at h1 h2 ⊢
          rw [Tm.partss_cons, Tm.partss_cons, List.all_append, List.all_append, h1, h2]
      have h3 := this ks ih (d + 1) (e + 1)
      unfold validL at h3 ⊢
      rw [Tm.parts_mk, Tm.parts_mk, List.all_cons, List.all_cons, h3]
  exact key T d 1
theorem valid_mk8 (lv : Int) (k n : Int) (s : ByteArray) (ks : List Tm) : (Tm.mk k n s ks).valid lv = ((Tm.mk k n s ks).formed lv && ks.all fun t => t.valid lv) := by
  have : ∀ (ks : List Tm) (d : Nat), validL lv (Tm.partss d ks) = ks.all fun t => t.valid lv := by
    intro ks
    induction ks with
    | nil => intro d; rw [Tm.partss_nil]; rfl
    | cons t ts ih =>
      intro d
      have h1 := valid_parts8 lv t d
      have h2 := ih d
      unfold validL at h1 h2
      unfold validL
      rw [Tm.partss_cons, List.all_append, h1, h2, List.all_cons]
      rfl
  have h3 := this ks 2
  unfold validL at h3
  unfold Tm.valid validL
  rw [Tm.parts_mk, List.all_cons, h3]
  rfl
theorem Tm.okws_all : ∀ {ks : List Tm}, (∀ t ∈ ks, t.okw = true) → Tm.okws ks = true
  | [], _ => by rw [Tm.okws]
  | t :: ts, h => by rw [Tm.okws, h t (by simp), Tm.okws_all (fun u hu => h u (by simp [hu]))]; rfl
theorem ba_toList {s : ByteArray} (h : s.toList = []) : s.data.toList = [] := by
  rw [ByteArray.toList_eq] at h
  exact h
theorem okw_of (T : Tm) : T.valid 16 = true → T.atb = false → T.okw = true := by
  induction T using Tm.ind with
  | h k n s ks ih =>
    intro hv ha
    rw [valid_mk8, Bool.and_eq_true, List.all_eq_true] at hv
    rw [Tm.atb_mk, Bool.or_eq_false_iff, Bool.or_eq_false_iff] at ha
    have hax := List.any_eq_false.1 ha.2.2
    have hks : Tm.okws ks = true := Tm.okws_all fun t ht => ih t ht (hv.2 t ht) (by simpa using hax t ht)
    have hf := hv.1
    rw [Tm.formed_eq 16 k n s ks ks.length rfl] at hf
    rw [Tm.okw, hks, Bool.and_true]
    split at hf
    · rename_i h1
      simp only [Bool.and_eq_true, decide_eq_true_eq] at hf
      simp [h1, ba_toList hf.1.2, List.eq_nil_of_length_eq_zero hf.2]
    · split at hf
      · rename_i h1
        simp only [Bool.and_eq_true, decide_eq_true_eq] at hf
        simp [h1, ba_toList hf.1, List.eq_nil_of_length_eq_zero hf.2]
      · split at hf
        · rename_i h1
          simp only [Bool.and_eq_true, decide_eq_true_eq] at hf
          have := ha.1
          simp only [h1, decide_true, Bool.true_and] at this
          simp [h1, hf.1.1, this]
        · split at hf
          · rename_i h1
            simp only [Bool.and_eq_true, decide_eq_true_eq] at hf
            simp [h1, ba_toList hf.1.1.1.1, hf.1.2]
          · cases hf
theorem check_valid {T : Tm} (h : T.check 16 = 0) : T.valid 16 = true := by
  unfold Tm.check at h
  split at h
  · cases h
  · split at h
    · cases h
    · split at h
      · assumption
      · cases h
end Go.Proofs.YtfencolokfghfaaDoor
