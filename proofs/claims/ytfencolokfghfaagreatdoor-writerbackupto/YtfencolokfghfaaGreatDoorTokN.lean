/-
  Scan of a text however long; what is told of the tokens of a text; the statement TokenKinds' walk.
-/
import Derived.Test.YtfencolokfghfaaGreatDoorTokL
namespace Go.Proofs.YtfencolokfghfaaGreatDoor
open Go.RowKit Go.Lib
set_option linter.unusedVariables false

set_option maxRecDepth 100000 in
set_option maxHeartbeats 4000000 in
theorem scan_huge (s : ByteArray) (w : World) (L : Laid w) (hm : s.size ≤ 9223372036854775807) (hb : 4096 < s.size) :
    Calls Tryz.prog 26 #[.string s] w (ScanPost w (.bad 0 3)) := by
  have hi : (4096 : Int) < (s.size : Int) := by omega
  have hx : Calls Tryz.prog 39 #[.int .i64 (s.size : Int)] w fun e w' => ∃ x, e = .returned (.string x) ∧ x.size ≤ 21 ∧ Below w.heap.size w w' :=
    (Tryz.strconv_Itoa (s.size : Int) (by omega) (by omega) w L.tab).mono fun e w' ⟨he, k, os, hw⟩ => ⟨_, he, by
      have e : (ByteArray.mk (Lib.itoa (s.size : Int)).toArray).size = (Lib.itoa (s.size : Int)).length := strV_size _
      rw [e]; exact Lib.itoa_length_le _ (by omega) (by omega), hw ▸ below_grow w k os⟩
  go_enter Tryz.func26, Tryz.ntmps26
  go_wp2_with (go_at_call 39; refine hx.mono ?_; rintro e w4 ⟨x, rfl, hx5, hb4⟩)
  exact bodyPost_ret (v := .tuple #[.slice none 0 0, .int .i64 0, .iface 80 (.agg #[.string (x ++ { data := #[32, 98, 121, 116, 101, 115] }), .iface 27 (.int .i64 3)])]) (by simp [results, Tryz.f26, go_sem]) rfl ⟨hb4, _, rfl⟩
theorem scan_any (s : ByteArray) (l : List UInt8) (hs : s.data.toList = l) (w : World) (L : Laid w) (hm : s.size ≤ 9223372036854775807) :
    Calls Tryz.prog 26 #[.string s] w (ScanPost w (full l)) := by
  have hl := len_of hs
  unfold full
  by_cases h : 4096 < l.length
  · rw [if_pos h]; exact scan_huge s w L hm (by omega)
  · rw [if_neg h]; exact scan_small s l hs w L (by omega)

/-- What a token may be. -/
structure TokMay (t : Tok) : Prop where
  kind : 1 ≤ t.kind ∧ t.kind ≤ 5
  num : t.kind ≠ 3 → t.n = 0
  name : t.kind = 3 → t.s = []
  quo : t.q = true → t.kind = 1
  short : t.s.length ≤ 64
def sumU : List Tok → Nat
  | [] => 0
  | t :: r => (if t.q then 0 else t.s.length) + sumU r
theorem sumU_append : ∀ a b, sumU (a ++ b) = sumU a + sumU b
  | [], b => by simp [sumU]
  | t :: a, b => by simp [sumU, sumU_append a b]; omega

theorem scan_facts : ∀ (k : Nat) (b : Bool) (l : List UInt8) (ts : List Tok), l.length ≤ k → scan b l = .ok ts →
    (∀ t ∈ ts, TokMay t) ∧ sumU ts ≤ l.length ∧ ts.length ≤ l.length ∧ (b = false → ∀ t, ts[0]? = some t → t.tight = false)
  | k, b, l, ts, hk, h => by
    by_cases hd : l.drop (skp false l) = []
    · rw [scan_nil b hd] at h
      cases h
      exact ⟨fun t ht => by simp at ht, Nat.zero_le _, Nat.zero_le _, fun _ t ht => by simp at ht⟩
    · cases hf : fstR (l.drop (skp false l)) with
      | bad c => rw [scan_bad b hd hf] at h; cases h
      | tok t n =>
        rw [scan_tok b hf] at h
        have O := fstR_ok hf
        have h1 := O.pos
        have h2 := O.le
        rw [List.length_drop] at h2
        cases hr : scan true (l.drop (skp false l + n)) with
        | bad p c => rw [hr] at h; cases h
        | ok us =>
          rw [hr] at h
          simp only [ScanR.after] at h
          have e := ScanR.ok.inj h
          subst e
          cases k with
          | zero => omega
          | succ k =>
            obtain ⟨i1, i2, i3, -⟩ := scan_facts k true _ us (by simp; omega) hr
            rw [List.length_drop] at i2 i3
            refine ⟨fun t' ht => ?_, ?_, ?_, fun hb t' ht => ?_⟩
            · simp only [List.singleton_append, List.mem_cons] at ht
              rcases ht with rfl | ht
              · exact ⟨O.kind, O.num, O.name, O.quo, O.short⟩
              · exact i1 t' ht
            · simp only [List.singleton_append, sumU]
              have hp := O.part
              cases hq : t.q
              · have := hp hq; simp; omega
              · simp; omega
            · simp; omega
            · simp at ht
              subst ht
              subst hb
              simp
theorem full_facts {l : List UInt8} {ts : List Tok} (h : full l = .ok ts) : l.length ≤ 4096 ∧
    (∀ t ∈ ts, TokMay t) ∧ sumU ts ≤ l.length ∧ ts.length ≤ l.length ∧ (∀ t, ts[0]? = some t → t.tight = false) := by
  unfold full at h
  split at h
  · cases h
  · obtain ⟨h1, h2, h3, h4⟩ := scan_facts _ false l ts (Nat.le_refl _) h
    exact ⟨by omega, h1, h2, h3, h4 rfl⟩
end Go.Proofs.YtfencolokfghfaaGreatDoor
