/-
  store.Bind.
-/
import Derived.Test.YtnaopkkdidngoaaStoH
namespace Go.Proofs.Ytnaopkkdidngoaa
open Go.RowKit Go.Shelf
set_option linter.unusedVariables false

theorem flat5_set (xs : List V5) (i : Nat) (x : V5) (hi : i < xs.length) (j : Nat) : (flat5 (xs.set i x))[j]? = if i * 5 ≤ j ∧ j < i * 5 + 5 then x.cells[j - i * 5]? else (flat5 xs)[j]? := by
  by_cases hj : j < xs.length * 5
  · have hq : j / 5 < xs.length := by omega
    have e : j / 5 * 5 + j % 5 = j := by omega
    by_cases hc : i * 5 ≤ j ∧ j < i * 5 + 5
    · rw [if_pos hc]
      have h1 := flat5_get (xs.set i x) (j / 5) x (by rw [List.getElem?_set]; rw [if_pos (by omega), if_pos hi]) (j % 5) (Nat.mod_lt _ (by decide))
      rw [e] at h1
      rw [h1]; congr 1; omega
    · rw [if_neg hc]
      have h1 := flat5_get (xs.set i x) (j / 5) xs[j / 5] (by rw [List.getElem?_set]; rw [if_neg (by omega), List.getElem?_eq_getElem hq]) (j % 5) (Nat.mod_lt _ (by decide))
      have h2 := flat5_get xs (j / 5) xs[j / 5] (List.getElem?_eq_getElem hq) (j % 5) (Nat.mod_lt _ (by decide))
      rw [e] at h1 h2
      rw [h1, h2]
  · have hn : ¬ (i * 5 ≤ j ∧ j < i * 5 + 5) := by omega
    rw [if_neg hn, List.getElem?_eq_none (by rw [flat5_length, List.length_set]; omega), List.getElem?_eq_none (by rw [flat5_length]; omega)]

theorem set5_get (cur : Array Value) (a : Nat) (h : a + 4 < cur.size) (c0 c1 c2 c3 c4 : Value) (j : Nat) :
    (((((cur.setIfInBounds a c0).setIfInBounds (a + 1) c1).setIfInBounds (a + 2) c2).setIfInBounds (a + 3) c3).setIfInBounds (a + 4) c4)[j]? = if a ≤ j ∧ j < a + 5 then [c0, c1, c2, c3, c4][j - a]? else cur[j]? := by
  have ne : ∀ (A : Array Value) (i : Nat) (c : Value), i ≠ j → (A.setIfInBounds i c)[j]? = A[j]? := fun A i c hij => by rw [Array.getElem?_setIfInBounds, if_neg hij]
  have eq : ∀ (A : Array Value) (c : Value), j < A.size → (A.setIfInBounds j c)[j]? = some c := fun A c hA => by rw [Array.getElem?_setIfInBounds, if_pos rfl, if_pos hA]
  by_cases hc : a ≤ j ∧ j < a + 5
  · rw [if_pos hc]
    have h5 : j = a ∨ j = a + 1 ∨ j = a + 2 ∨ j = a + 3 ∨ j = a + 4 := by omega
    rcases h5 with e | e | e | e | e
    · rw [ne _ _ _ (by omega), ne _ _ _ (by omega), ne _ _ _ (by omega), ne _ _ _ (by omega), ← e, eq _ _ (by omega), Nat.sub_self]; rfl
    · rw [ne _ _ _ (by omega), ne _ _ _ (by omega), ne _ _ _ (by omega), ← e, eq _ _ (by simp only [Array.size_setIfInBounds]; omega), show j - a = 1 by omega]; rfl
    · rw [ne _ _ _ (by omega), ne _ _ _ (by omega), ← e, eq _ _ (by simp only [Array.size_setIfInBounds]; omega), show j - a = 2 by omega]; rfl
    · rw [ne _ _ _ (by omega), ← e, eq _ _ (by simp only [Array.size_setIfInBounds]; omega), show j - a = 3 by omega]; rfl
    · rw [← e, eq _ _ (by simp only [Array.size_setIfInBounds]; omega), show j - a = 4 by omega]; rfl
  · rw [if_neg hc, ne _ _ _ (by omega), ne _ _ _ (by omega), ne _ _ _ (by omega), ne _ _ _ (by omega), ne _ _ _ (by omega)]
/-- One variable's five cells are written. -/
theorem row_set5 {w : World} {base g cap : Nat} {xs : List V5} (x : V5) (i : Nat) (hi : i < xs.length) (h : RowV w base (.slice (some ⟨g, 0, none⟩) xs.length cap) xs) {m : Nat} (hm : m = xs.length) :
    ∃ w5, w5 = ((((w.setCell ⟨g, i * 5, none⟩ (.bool x.b)).setCell ⟨g, i * 5 + 1, none⟩ (.int .i64 x.k)).setCell ⟨g, i * 5 + 2, none⟩ (.int .i64 x.n)).setCell ⟨g, i * 5 + 3, none⟩ (.string x.s)).setCell ⟨g, i * 5 + 4, none⟩ (.slice x.a x.l x.c) ∧
      RowV w5 base (.slice (some ⟨g, 0, none⟩) m cap) (xs.set i x) ∧ (∀ k, k ≠ g → w5.heap[k]? = w.heap[k]?) ∧ w5.heap.size = w.heap.size ∧ w5.os = w.os ∧ w5.tape = w.tape ∧ w5.output = w.output := by
  subst hm
  have B := ((((((Below.refl 0 w).setCell (p := ⟨g, i * 5, none⟩) (Nat.zero_le _) (.bool x.b)).setCell (p := ⟨g, i * 5 + 1, none⟩) (Nat.zero_le _) (.int .i64 x.k)).setCell (p := ⟨g, i * 5 + 2, none⟩) (Nat.zero_le _) (.int .i64 x.n)).setCell (p := ⟨g, i * 5 + 3, none⟩) (Nat.zero_le _) (.string x.s)).setCell (p := ⟨g, i * 5 + 4, none⟩) (Nat.zero_le _) (.slice x.a x.l x.c))
  refine ⟨_, rfl, ?_, fun k hk => ?_, by simp only [World.size_setCell], B.os, B.tape, B.output⟩
  · obtain ⟨h1, ⟨h2, h0⟩ | ⟨g', cap', cur, e, hg, hh, hn, hcap, hsz, htake⟩⟩ := h
    · cases h2
    · simp only [Value.slice.injEq, Option.some.injEq, Addr.mk.injEq, true_and, and_true] at e
      obtain ⟨rfl, rfl⟩ := e
      refine ⟨by rw [flat5_length, List.length_set], .inr ⟨g, cap, _, by rw [List.length_set], hg, set_block (set_block (set_block (set_block (set_block hh _) _) _) _) _, by rw [List.length_set]; exact hn, hcap, by simpa using hsz, ?_⟩⟩
      refine List.ext_getElem? fun j => ?_
      rw [flat5_set xs i x hi j, List.length_set, List.getElem?_take]
      by_cases hj : j < xs.length * 5
      · rw [if_pos hj]
        have hcs : j < cur.size := by rw [hsz]; have : xs.length * 5 ≤ cap * 5 := Nat.mul_le_mul_right _ hn; omega
        have h2 : (flat5 xs)[j]? = cur[j]? := by rw [← htake, List.getElem?_take, if_pos hj, Array.getElem?_toList]
        rw [h2, Array.getElem?_toList, set5_get cur (i * 5) (by rw [hsz]; have : xs.length * 5 ≤ cap * 5 := Nat.mul_le_mul_right _ hn; omega)]
        rfl
      · rw [if_neg hj, if_neg (by omega), List.getElem?_eq_none (by rw [flat5_length]; omega)]
  · rw [Below.heap_setCell _ _ _ _ (by simpa using hk), Below.heap_setCell _ _ _ _ (by simpa using hk), Below.heap_setCell _ _ _ _ (by simpa using hk), Below.heap_setCell _ _ _ _ (by simpa using hk), Below.heap_setCell _ _ _ _ (by simpa using hk)]

theorem St.Ok.bind {σ : St} (h : σ.Ok) {v : Nat} {T : Tm} (hv : σ.vs[v]? = some none) (hT : ¬ Met σ (v : Int) T) (hs : T.size ≤ 2000000) : (σ.bind v T).Ok := by
  have hlt := (List.getElem?_eq_some_iff.1 hv).1
  refine ⟨h.ranked.bind (by rw [hv]; rfl) hT, ?_, fun o ho U hU => ?_, ?_, fun x => ?_⟩
  · show (σ.vs.set v (some T)).length ≤ 4096
    rw [List.length_set]; exact h.len
  · have ho : o ∈ σ.vs.set v (some T) := ho
    rcases List.mem_or_eq_of_mem_set ho with ho | rfl
    · exact h.small o ho U hU
    · cases hU; exact hs
  · show (σ.tr ++ [v]).Nodup
    rw [List.nodup_append]
    refine ⟨h.nd, by simp, fun a ha b hb e => ?_⟩
    rw [List.mem_singleton.1 hb] at e
    subst e
    obtain ⟨U, hU⟩ := (h.mem a).1 ha
    rw [hv] at hU; cases hU
  · show x ∈ σ.tr ++ [v] ↔ ∃ U, (σ.vs.set v (some T))[x]? = some (some U)
    rw [List.mem_append, h.mem x, List.mem_singleton, List.getElem?_set]
    by_cases e : v = x
    · subst e
      rw [if_pos rfl, if_pos hlt]
      simp
    · rw [if_neg e]
      constructor
      · rintro (h | h)
        · exact h
        · exact absurd h.symm e
      · exact fun h => .inl h
theorem VOk.set {p : Nat → Prop} {w : World} {xs : List V5} {vs : List (Option Tm)} (h : VOk p w xs vs) (i : Nat) (x : V5) (o : Option Tm) (hb : x.b = o.isSome) (hT : ∀ U, o = some U → TmIn p w x.val U) : VOk p w (xs.set i x) (vs.set i o) := by
  refine ⟨by rw [List.length_set, List.length_set, h.len], fun j y o' h1 h2 => ?_⟩
  rw [List.getElem?_set] at h1 h2
  by_cases e : i = j
  · subst e
    rw [if_pos rfl] at h1 h2
    split at h1
    · cases h1
      split at h2
      · cases h2; exact ⟨hb, hT⟩
      · cases h2
    · cases h1
  · rw [if_neg e] at h1 h2
    exact h.at_ j y o' h1 h2

set_option maxRecDepth 100000 in
theorem bind_nil (v : Int) (k n : Int) (s : ByteArray) (a : Option Addr) (len cap : Nat) (w : World) : Calls Try.prog 12 #[.pointer none, .int .i64 v, .agg #[.int .i64 k, .int .i64 n, .string s, .slice a len cap]] w (Gets w (.int .i64 5)) := by
  have HB : Hid (Below w.heap.size w (w.alloc (.cells #[.int .i64 k, .int .i64 n, .string s, .slice a len cap] 25))) := (Below.refl _ w).alloc (Nat.le_refl _) _
  go_enter Try.func12, Try.ntmps12
  go_wp2_with fail
  go_ret
  exact ⟨rfl, HB.out⟩

open Classical in
/-- What Bind answers. -/
noncomputable def St.bindE (σ : St) (v : Int) (T : Tm) : Int := if ¬ (0 ≤ v ∧ v < (σ.vs.length : Int)) then 5 else if (∃ U, σ.look v = some U) then 6 else if Met σ v T then 4 else 0

set_option maxRecDepth 100000 in
set_option maxHeartbeats 4000000 in
open Classical in
theorem bind_bad {p : Nat → Prop} {n₀ : Nat} {w : World} {b : Nat} {V L : Value} {σ : St} (h : StAt p n₀ w b V L σ) (v : Int) (t : Value) (T : Tm) (ht : Has w t T) (hs : T.size ≤ 1000000000) (hbad : σ.bindE v T ≠ 0) :
    Calls Try.prog 12 #[.pointer (some ⟨b, 0, none⟩), .int .i64 v, t] w (Gets w (.int .i64 (σ.bindE v T))) := by
  obtain ⟨k, n, s, a, len, cap, ks, rfl, eT, -⟩ := ht.form
  have HB : Hid (Below w.heap.size w (w.alloc (.cells #[.int .i64 k, .int .i64 n, .string s, .slice a len cap] 25))) := (Below.refl _ w).alloc (Nat.le_refl _) _
  obtain ⟨xs, hr, hok⟩ := h.rV
  have h1 := h.below HB.out
  obtain ⟨c0, c1⟩ := two_cells h1.box
  obtain ⟨va, vc, rfl⟩ := hr.form
  have hl := hok.len
  have hlen := h.ok.len
  unfold St.bindE at hbad ⊢
  by_cases hv : ¬ (0 ≤ v ∧ v < (σ.vs.length : Int))
  · rw [if_pos hv]
    by_cases hv0 : v < 0
    · clear hbad h h1 hr hok hs ht eT hv
      go_enter Try.func12, Try.ntmps12
      go_wp2_with fail
      go_ret
      exact ⟨rfl, HB.out⟩
    · have hge : v ≥ (xs.length : Int) := by omega
      clear hbad h h1 hr hok hs ht eT hv hl
      generalize xs.length = m at *
      go_enter Try.func12, Try.ntmps12
      go_wp2_with fail
      go_ret
      exact ⟨rfl, HB.out⟩
  rw [if_neg hv] at hbad ⊢
  obtain ⟨hv0, hv1⟩ : 0 ≤ v ∧ v < (σ.vs.length : Int) := Classical.not_not.1 hv
  obtain ⟨x, rfl⟩ : ∃ x : Nat, v = (x : Int) := ⟨v.toNat, by omega⟩
  have hxs : x < xs.length := by omega
  obtain ⟨q, hq⟩ : ∃ q, xs[x]? = some q := ⟨_, List.getElem?_eq_getElem hxs⟩
  obtain ⟨o, ho⟩ : ∃ o, σ.vs[x]? = some o := ⟨_, List.getElem?_eq_getElem (by omega)⟩
  obtain ⟨hqb, -⟩ := hok.at_ x q o hq ho
  obtain ⟨h1_, ⟨_, h0⟩ | ⟨g, cp, cur, e, hg, hh, hn, hcap, hsz, htake⟩⟩ := id hr
  · rw [h0] at hxs; exact absurd hxs (Nat.not_lt_zero _)
  injection e with e1 e2 e3
  subst e1 e3
  have hcell : (w.alloc (.cells #[.int .i64 k, .int .i64 n, .string s, .slice a len cap] 25)).cell? ⟨g, x * 5, none⟩ = some (.bool q.b) := by
    refine cell_al ?_ _
    have h3 := flat5_get xs x q hq 0 (by decide)
    rw [← htake, List.getElem?_take_of_lt (by omega)] at h3
    simp only [World.cell?, hh]
    simpa [V5.cells] using h3
  rw [hqb] at hcell
  have hlook : σ.look (x : Int) = o := by rw [St.look_nat, ho]; rfl
  have hhas := has_at10 h1 (.agg #[.int .i64 k, .int .i64 n, .string s, .slice a len cap]) T (Has.below ht HB.out) (x : Int) hs
  rw [hlook] at hbad ⊢
  have hn1 : decide ((x : Int) < 0) = false := by simp
  have hxl : (x : Int) < (xs.length : Int) := by omega
  have hge1 : decide ((x : Int) ≥ (xs.length : Int)) = false := by simp; omega
  clear h h1 hr hok hs ht eT hv hl hq ho hqb h1_ hh hn htake hcap hsz hg hlook hv0
  generalize xs.length = m at *
  obtain ⟨x0, x1, x2, x3⟩ := tbox_cells (World.alloc_heap_new w (.cells #[.int .i64 k, .int .i64 n, .string s, .slice a len cap] 25))
  cases o with
  | some U =>
    rw [if_pos ⟨U, rfl⟩]
    simp only [Option.isSome_some] at hcell
    clear hbad hhas
    go_enter Try.func12, Try.ntmps12
    go_wp2_with fail
    go_ret
    exact ⟨rfl, HB.out⟩
  | none =>
    have hno : ¬ ∃ U : Tm, (none : Option Tm) = some U := by rintro ⟨U, hU⟩; cases hU
    rw [if_neg hno] at hbad ⊢
    simp only [Option.isSome_none] at hcell
    by_cases hM : Met σ (x : Int) T
    · rw [if_pos hM]
      rw [decide_eq_true hM] at hhas
      clear hbad hM hno
      go_enter Try.func12, Try.ntmps12
      go_wp2_with (go_at_call 21; refine hhas.mono ?_; clear hhas; rintro e w5 ⟨rfl, hb5⟩)
      go_ret
      exact ⟨rfl, HB.out.trans (hb5.mono HB.out.size)⟩
    · rw [if_neg hM] at hbad
      exact absurd rfl hbad
end Go.Proofs.Ytnaopkkdidngoaa
