/-
  The walks of what makes a token: written, limited, numbers, names in quotation marks, ends.
-/
import Derived.Test.YtfencolokfghfaaDoorTokB
namespace Go.Proofs.YtfencolokfghfaaDoor
open Go.RowKit Go.Lib
set_option linter.unusedVariables false

def strV (l : List UInt8) : ByteArray := ⟨l.toArray⟩
theorem strV_list (l : List UInt8) : (strV l).data.toList = l := by simp [strV]
theorem strV_of {s : ByteArray} {l : List UInt8} (hs : s.data.toList = l) : s = strV l := by subst hs; simp [strV]
theorem strV_size (l : List UInt8) : (strV l).size = l.length := len_of (strV_list l)
def tokV (t : Tok) : Value := .agg #[.int .i64 t.kind, .string (strV t.s), .int .i64 t.n, .bool t.q, .bool t.tight]
def noTok : Value := .agg #[.int .i64 0, .string ⟨#[]⟩, .int .i64 0, .bool false, .bool false]
def resV : Res → Value
  | .bad c => .tuple #[.agg #[.int .i64 0, .string ⟨#[]⟩, .int .i64 0, .bool false, .bool false], .int .i64 0, .int .i64 c]
  | .tok t n => .tuple #[.agg #[.int .i64 t.kind, .string (strV t.s), .int .i64 t.n, .bool t.q, .bool t.tight], .int .i64 n, .int .i64 0]
/-- A call that answers v and lets all lie that lay. -/
def Ans (w : World) (v : Value) (e : Ending) (w' : World) : Prop := e = .returned v ∧ Below w.heap.size w w'
theorem Ans.of_eq {w : World} {v u : Value} {e : Ending} {w' : World} (h : Ans w v e w') (hv : v = u) : Ans w u e w' := hv ▸ h

theorem limV (k : Int) (s : ByteArray) (l : List UInt8) (hs : s.data.toList = l) (n : Int) (q t : Bool) (z : Nat) :
    (if 64 < s.size then Value.tuple #[.agg #[.int .i64 0, .string ⟨#[]⟩, .int .i64 0, .bool false, .bool false], .int .i64 0, .int .i64 3] else .tuple #[.agg #[.int .i64 k, .string s, .int .i64 n, .bool q, .bool t], .int .i64 z, .int .i64 0]) = resV (limR ⟨k, l, n, q, t⟩ z) := by
  unfold limR
  rw [len_of hs]
  by_cases h : 64 < l.length
  · rw [if_pos h, if_pos h]; rfl
  · rw [if_neg h, if_neg h, strV_of hs]; rfl
/-- What a result is, cell by cell. -/
theorem resV_form (r : Res) : ∃ (k : Int) (s : ByteArray) (n : Int) (q t : Bool) (z c : Int), resV r = .tuple #[.agg #[.int .i64 k, .string s, .int .i64 n, .bool q, .bool t], .int .i64 z, .int .i64 c] := by
  cases r <;> exact ⟨_, _, _, _, _, _, _, rfl⟩

theorem endsB_cons (c : UInt8) (r : List UInt8) : endsB (c :: r) = (c == 46 && (decide (r = []) || decide (0 < skp false r))) := rfl

end Go.Proofs.YtfencolokfghfaaDoor
