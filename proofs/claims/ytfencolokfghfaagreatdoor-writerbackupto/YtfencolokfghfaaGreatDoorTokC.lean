/-
  The walks of what makes a token: written, limited, numbers, names in quotation marks, ends.
-/
import Derived.Test.YtfencolokfghfaaGreatDoorTokB
namespace Go.Proofs.YtfencolokfghfaaGreatDoor
open Go.RowKit Go.Lib
set_option linter.unusedVariables false

def strV (l : List UInt8) : ByteArray := ⟨l.toArray⟩
theorem strV_list (l : List UInt8) : (strV l).data.toList = l := by simp [strV]
theorem strV_of {s : ByteArray} {l : List UInt8} (hs : s.data.toList = l) : s = strV l := by subst hs; simp [strV]
theorem strV_size (l : List UInt8) : (strV l).size = l.length := len_of (strV_list l)
def tokV (t : Tok) : Value := .agg #[.int .i64 t.kind, .string (strV t.s), .int .i64 t.n, .bool t.q, .bool t.tight]
def noTok : Value := .agg #[.int .i64 0, .string ⟨#[]⟩, .int .i64 0, .bool false, .bool false]
def resV : Res → Value
  | .bad c => .tuple #[.agg #[.int .i64 0, .string ⟨#[]⟩, .int .i64 0, .bool false, .bool false], .int .i64 0, .int .i64 c]
  | .tok t n => .tuple #[.agg #[.int .i64 t.kind, .string (strV t.s), .int .i64 t.n, .bool t.q, .bool t.tight], .int .i64 n, .int .i64 0]
/-- A call that answers v and lets all lie that lay. -/
def Ans (w : World) (v : Value) (e : Ending) (w' : World) : Prop := e = .returned v ∧ Below w.heap.size w w'
theorem Ans.of_eq {w : World} {v u : Value} {e : Ending} {w' : World} (h : Ans w v e w') (hv : v = u) : Ans w u e w' := hv ▸ h

set_option maxRecDepth 100000 in
theorem limited_raw (k : Int) (s : ByteArray) (n : Int) (q t : Bool) (z : Int) (w : World) (hm : s.size ≤ 9223372036854775806) :
    Calls Tryz.prog 77 #[.agg #[.int .i64 k, .string s, .int .i64 n, .bool q, .bool t], .int .i64 z] w
      (Ans w (if 64 < s.size then .tuple #[.agg #[.int .i64 0, .string ⟨#[]⟩, .int .i64 0, .bool false, .bool false], .int .i64 0, .int .i64 3] else .tuple #[.agg #[.int .i64 k, .string s, .int .i64 n, .bool q, .bool t], .int .i64 z, .int .i64 0])) := by
  by_cases h : 64 < s.size
  · rw [if_pos h]
    have hi : (64 : Int) < (s.size : Int) := by omega
    go_enter Tryz.func77, Tryz.ntmps77
    go_wp2_with fail
    exact bodyPost_ret (v := .tuple #[.agg #[.int .i64 0, .string ⟨#[]⟩, .int .i64 0, .bool false, .bool false], .int .i64 0, .int .i64 3]) (by simp [results, Tryz.f77, go_sem]) rfl ⟨rfl, bel_al (bel_al (Below.refl _ _) _) _⟩
  · rw [if_neg h]
    have hi : ¬ (64 : Int) < (s.size : Int) := by omega
    go_enter Tryz.func77, Tryz.ntmps77
    go_wp2_with fail
    exact bodyPost_ret (v := .tuple #[.agg #[.int .i64 k, .string s, .int .i64 n, .bool q, .bool t], .int .i64 z, .int .i64 0]) (by simp [results, Tryz.f77, go_sem]) rfl ⟨rfl, bel_al (bel_al (Below.refl _ _) _) _⟩

theorem limV (k : Int) (s : ByteArray) (l : List UInt8) (hs : s.data.toList = l) (n : Int) (q t : Bool) (z : Nat) :
    (if 64 < s.size then Value.tuple #[.agg #[.int .i64 0, .string ⟨#[]⟩, .int .i64 0, .bool false, .bool false], .int .i64 0, .int .i64 3] else .tuple #[.agg #[.int .i64 k, .string s, .int .i64 n, .bool q, .bool t], .int .i64 z, .int .i64 0]) = resV (limR ⟨k, l, n, q, t⟩ z) := by
  unfold limR
  rw [len_of hs]
  by_cases h : 64 < l.length
  · rw [if_pos h, if_pos h]; rfl
  · rw [if_neg h, if_neg h, strV_of hs]; rfl
theorem limited_at (k : Int) (s : ByteArray) (l : List UInt8) (hs : s.data.toList = l) (n : Int) (q t : Bool) (z : Nat) (z' : Int) (hz : z' = z) (w : World) (hm : s.size ≤ 9223372036854775806) :
    Calls Tryz.prog 77 #[.agg #[.int .i64 k, .string s, .int .i64 n, .bool q, .bool t], .int .i64 z'] w (Ans w (resV (limR ⟨k, l, n, q, t⟩ z))) := by
  subst hz
  rw [← limV k s l hs]
  exact limited_raw k s n q t z w hm

/-- What a result is, cell by cell. -/
theorem resV_form (r : Res) : ∃ (k : Int) (s : ByteArray) (n : Int) (q t : Bool) (z c : Int), resV r = .tuple #[.agg #[.int .i64 k, .string s, .int .i64 n, .bool q, .bool t], .int .i64 z, .int .i64 c] := by
  cases r <;> exact ⟨_, _, _, _, _, _, _, rfl⟩

set_option maxRecDepth 100000 in
set_option maxHeartbeats 1000000 in
theorem written_at (k : Int) (s : ByteArray) (l : List UInt8) (hs : s.data.toList = l) (w : World) (hm : s.size ≤ 9223372036854775806) :
    Calls Tryz.prog 58 #[.int .i64 k, .string s] w (Ans w (resV (wrt k l))) := by
  have hl := limited_at k s l hs 0 false false s.size (s.size : Int) rfl (w.alloc (.cells #[.int .i64 0, .string ⟨#[]⟩, .int .i64 0, .bool false, .bool false] 87)) hm
  rw [show limR ⟨k, l, 0, false, false⟩ s.size = wrt k l by rw [wrt, len_of hs]] at hl
  obtain ⟨k', s', n', q', t', z', c', hr⟩ := resV_form (wrt k l)
  rw [hr] at hl ⊢
  have y0 := alloc_new w (.cells #[.int .i64 0, .string ⟨#[]⟩, .int .i64 0, .bool false, .bool false] 87)
  clear hr hs
  go_enter Tryz.func58, Tryz.ntmps58
  go_wp2_with (go_at_call 77; refine hl.mono ?_; rintro e w4 ⟨rfl, hb⟩; have y := (hb.block w.heap.size (by simp)).trans y0; clear y0 hl; obtain ⟨x0, x1, x2, x3, x4, xf⟩ := box5 y)
  have hb' := bel (bel_al (Below.refl w.heap.size w) _) hb
  obtain ⟨W, hW, hx, -, hB⟩ := set5 y (.int .i64 k') (.string s') (.int .i64 n') (.bool q') (.bool t') hb' (Nat.le_refl _)
  rw [← hW]
  obtain ⟨f0, f1, f2, f3, f4, -⟩ := box5 hx
  exact bodyPost_ret (v := .tuple #[.agg #[.int .i64 k', .string s', .int .i64 n', .bool q', .bool t'], .int .i64 z', .int .i64 c']) (by simp [results, Tryz.f58, go_sem, f0, f1, f2, f3, f4]) rfl ⟨rfl, hB⟩

theorem endsB_cons (c : UInt8) (r : List UInt8) : endsB (c :: r) = (c == 46 && (decide (r = []) || decide (0 < skp false r))) := rfl

set_option maxHeartbeats 1000000 in
theorem ends_at (s : ByteArray) (l : List UInt8) (hs : s.data.toList = l) (w : World) (hm : s.size ≤ 9223372036854775806) (hne : 0 < s.size) :
    Calls Tryz.prog 62 #[.string s] w fun e w' => e = .returned (.bool (endsB l)) ∧ w' = w := by
  obtain ⟨c, hc, hg⟩ := get_of hs hne
  have hl := len_of hs
  have hk := skip_at w s l hs hm 1 hne
  have hdc : l = c :: l.drop 1 := by have := drop_cons hc; simpa using this
  generalize hr : l.drop 1 = r at hdc hk
  subst hdc
  rw [endsB_cons]
  have e46 : ((c.toNat : Int) == 46) = (c == 46) := by
    by_cases h : c = 46
    · subst h; rfl
    · have := ne_int h
      rw [show ((46 : UInt8).toNat : Int) = 46 from rfl] at this
      rw [this]; simp [h]
  have e1 : ((s.size : Int) == 1) = decide (r = []) := by
    rw [hl, Bool.eq_iff_iff]
    cases r <;> simp
    omega
  have e2 : decide ((1 : Int) < ((1 + skp false r : Nat) : Int)) = decide (0 < skp false r) := by rw [decide_eq_decide]; omega
  generalize (c == 46) = b1 at *
  generalize decide (r = []) = b2 at *
  generalize decide (0 < skp false r) = b3 at *
  generalize ((1 + skp false r : Nat) : Int) = x at *
  clear hl hs hc hr
  cases b1
  · go_enter Tryz.func62, Tryz.ntmps62
    go_wp2_with fail
    go_ret
    exact ⟨rfl, by trivial⟩
  · cases b2
    · go_enter Tryz.func62, Tryz.ntmps62
      go_wp2_with (go_at_call 41; refine hk.mono ?_; rintro e w' ⟨rfl, rfl⟩)
      go_ret
      exact ⟨by simp, by trivial⟩
    · go_enter Tryz.func62, Tryz.ntmps62
      go_wp2_with fail
      go_ret
      exact ⟨rfl, by trivial⟩
end Go.Proofs.YtfencolokfghfaaGreatDoor
