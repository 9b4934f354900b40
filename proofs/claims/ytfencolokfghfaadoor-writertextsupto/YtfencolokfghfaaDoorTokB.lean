/-
  The walks of what skips blanks and comments, of quotation marks, of names and numbers.
-/
import Derived.Test.YtfencolokfghfaaDoorTokA
import Derived.Laws.Strings2
namespace Go.Proofs.YtfencolokfghfaaDoor
open Go.RowKit Go.Lib
set_option linter.unusedVariables false

/-- How many bytes of a text there are up to the line's end, that included. -/
def cmt (l : List UInt8) : Nat := if Lib.indexByte l 10 < 0 then l.length else (Lib.indexByte l 10).toNat + 1
theorem cmt_cons (c : UInt8) (l : List UInt8) : cmt (c :: l) = if c = 10 then 1 else cmt l + 1 := by
  unfold cmt
  have hge := Lib.indexByte_ge l 10
  by_cases h : c = 10
  · subst h; simp [Lib.indexByte]
  · have h' : (c == 10) = false := by simp [h]
    rw [Lib.indexByte, h']
    simp only [Bool.false_eq_true, if_false, if_neg h]
    by_cases hm : Lib.indexByte l 10 = -1
    · simp [hm]
    · have : (Lib.indexByte l 10 == -1) = false := by simp [hm]
      rw [this]
      simp only [Bool.false_eq_true, if_false]
      rw [if_neg (by omega), if_neg (by omega)]
      omega
theorem cmt_nil : cmt [] = 0 := rfl
theorem skp_true : ∀ l : List UInt8, skp true l = cmt l + skp false (l.drop (cmt l))
  | [] => by simp [skp, cmt_nil]
  | c :: l => by
    rw [cmt_cons, skp]
    by_cases h : c = 10
    · simp [h]; omega
    · simp only [if_neg h]
      rw [skp_true l]
      simp
      omega
theorem cmt_pos {c : UInt8} {l : List UInt8} : 0 < cmt (c :: l) := by rw [cmt_cons]; split <;> omega
theorem cmt_le : ∀ l : List UInt8, cmt l ≤ l.length
  | [] => by simp [cmt_nil]
  | c :: l => by
    have := cmt_le l
    rw [cmt_cons]; split <;> simp <;> omega
/-- One step of what is skipped. -/
theorem skp_rem {l : List UInt8} {j : Nat} {r : List UInt8} (h : l.drop j = 37 :: r) : skp false (l.drop j) = cmt (l.drop j) + skp false (l.drop (j + cmt (l.drop j))) := by
  rw [← List.drop_drop, h, cmt_cons, if_neg (by decide)]
  rw [skp]
  simp only [if_pos]
  rw [skp_true]
  simp
  omega

theorem ext_list (s : ByteArray) (a b : Nat) : (s.extract a b).data.toList = (s.data.toList.drop a).take (b - a) := by
  have : s = ByteArray.mk s.data.toList.toArray := by simp
  conv => lhs; rw [this, ByteArray.extract_mk]
theorem ext_drop {s : ByteArray} {l : List UInt8} (hs : s.data.toList = l) (a : Nat) : (s.extract a s.size).data.toList = l.drop a := by
  have := len_of hs
  rw [ext_list, hs, List.take_of_length_le (by simp; omega)]
theorem ext_take {s : ByteArray} {l : List UInt8} (hs : s.data.toList = l) (b : Nat) : (s.extract 0 b).data.toList = l.take b := by
  rw [ext_list, hs]; simp

theorem len_le {s : ByteArray} {l : List UInt8} (hs : s.data.toList = l) : s.size ≤ l.length ∧ l.length ≤ s.size := by have := len_of hs; omega

theorem drop_cons {l : List UInt8} {j : Nat} {c : UInt8} (hc : l[j]? = some c) : l.drop j = c :: l.drop (j + 1) := by
  obtain ⟨h, e⟩ := List.getElem?_eq_some_iff.1 hc
  rw [List.drop_eq_getElem_cons h, e]

theorem ne_int {c d : UInt8} (h : ¬ c = d) : ((c.toNat : Int) == (d.toNat : Int)) = false := by
  simp only [beq_eq_false_iff_ne, ne_eq]
  intro e
  exact h (UInt8.toNat_inj.1 (by omega))

theorem beq39 (c : UInt8) : ((c.toNat : Int) == 39) = (c == 39) := by
  by_cases h : c = 39
  · subst h; rfl
  · have := ne_int h
    rw [show ((39 : UInt8).toNat : Int) = 39 from rfl] at this
    rw [this]; simp [h]

def meanV (l : List UInt8) : Array Value := match meanR l with | none => #[.int .u8 0, .int .i64 0] | some (c, n) => #[.int .u8 c.toNat, .int .i64 n]
theorem ext_list2 {s : ByteArray} {l : List UInt8} (hs : s.data.toList = l) : (s.extract 0 (min 2 (s.size : Int)).toNat).toList = l.take 2 := by
  have hl := len_of hs
  rw [ByteArray.toList_eq, ext_take hs]
  by_cases h : 2 ≤ l.length
  · rw [show (min 2 (s.size : Int)).toNat = 2 by omega]
  · rw [List.take_of_length_le (by omega), List.take_of_length_le (by omega)]

end Go.Proofs.YtfencolokfghfaaDoor
