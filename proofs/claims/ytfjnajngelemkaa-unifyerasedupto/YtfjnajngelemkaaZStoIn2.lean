/-
  store.Bind.
-/
import Derived.Test.YtfjnajngelemkaaZStoFn2
import Derived.Deep.Cut
namespace Go.Proofs.Ytfjnajngelemkaa
open Go.RowKit Go.Shelf
set_option linter.unusedVariables false

theorem flat5_set (xs : List V5) (i : Nat) (x : V5) (hi : i < xs.length) (j : Nat) : (flat5 (xs.set i x))[j]? = if i * 5 ≤ j ∧ j < i * 5 + 5 then x.cells[j - i * 5]? else (flat5 xs)[j]? := by
  by_cases hj : j < xs.length * 5
  · have hq : j / 5 < xs.length := by omega
    have e : j / 5 * 5 + j % 5 = j := by omega
    by_cases hc : i * 5 ≤ j ∧ j < i * 5 + 5
    · rw [if_pos hc]
      have h1 := flat5_get (xs.set i x) (j / 5) x (by rw [List.getElem?_set]; rw [if_pos (by omega), if_pos hi]) (j % 5) (Nat.mod_lt _ (by decide))
      rw [e] at h1
      rw [h1]; congr 1; omega
    · rw [if_neg hc]
      have h1 := flat5_get (xs.set i x) (j / 5) xs[j / 5] (by rw [List.getElem?_set]; rw [if_neg (by omega), List.getElem?_eq_getElem hq]) (j % 5) (Nat.mod_lt _ (by decide))
      have h2 := flat5_get xs (j / 5) xs[j / 5] (List.getElem?_eq_getElem hq) (j % 5) (Nat.mod_lt _ (by decide))
      rw [e] at h1 h2
      rw [h1, h2]
  · have hn : ¬ (i * 5 ≤ j ∧ j < i * 5 + 5) := by omega
    rw [if_neg hn, List.getElem?_eq_none (by rw [flat5_length, List.length_set]; omega), List.getElem?_eq_none (by rw [flat5_length]; omega)]

theorem set5_get (cur : Array Value) (a : Nat) (h : a + 4 < cur.size) (c0 c1 c2 c3 c4 : Value) (j : Nat) :
    (((((cur.setIfInBounds a c0).setIfInBounds (a + 1) c1).setIfInBounds (a + 2) c2).setIfInBounds (a + 3) c3).setIfInBounds (a + 4) c4)[j]? = if a ≤ j ∧ j < a + 5 then [c0, c1, c2, c3, c4][j - a]? else cur[j]? := by
  have ne : ∀ (A : Array Value) (i : Nat) (c : Value), i ≠ j → (A.setIfInBounds i c)[j]? = A[j]? := fun A i c hij => by rw [Array.getElem?_setIfInBounds, if_neg hij]
  have eq : ∀ (A : Array Value) (c : Value), j < A.size → (A.setIfInBounds j c)[j]? = some c := fun A c hA => by rw [Array.getElem?_setIfInBounds, if_pos rfl, if_pos hA]
  by_cases hc : a ≤ j ∧ j < a + 5
  · rw [if_pos hc]
    have h5 : j = a ∨ j = a + 1 ∨ j = a + 2 ∨ j = a + 3 ∨ j = a + 4 := by omega
    rcases h5 with e | e | e | e | e
    · rw [ne _ _ _ (by omega), ne _ _ _ (by omega), ne _ _ _ (by omega), ne _ _ _ (by omega), ← e, eq _ _ (by omega), Nat.sub_self]; rfl
    · rw [ne _ _ _ (by omega), ne _ _ _ (by omega), ne _ _ _ (by omega), ← e, eq _ _ (by simp only [Array.size_setIfInBounds]; omega), show j - a = 1 by omega]; rfl
    · rw [ne _ _ _ (by omega), ne _ _ _ (by omega), ← e, eq _ _ (by simp only [Array.size_setIfInBounds]; omega), show j - a = 2 by omega]; rfl
    · rw [ne _ _ _ (by omega), ← e, eq _ _ (by simp only [Array.size_setIfInBounds]; omega), show j - a = 3 by omega]; rfl
    · rw [← e, eq _ _ (by simp only [Array.size_setIfInBounds]; omega), show j - a = 4 by omega]; rfl
  · rw [if_neg hc, ne _ _ _ (by omega), ne _ _ _ (by omega), ne _ _ _ (by omega), ne _ _ _ (by omega), ne _ _ _ (by omega)]
/-- One variable's five cells are written. -/
theorem row_set5 {w : World} {base g cap : Nat} {xs : List V5} (x : V5) (i : Nat) (hi : i < xs.length) (h : RowV w base (.slice (some ⟨g, 0, none⟩) xs.length cap) xs) {m : Nat} (hm : m = xs.length) :
    ∃ w5, w5 = ((((w.setCell ⟨g, i * 5, none⟩ (.bool x.b)).setCell ⟨g, i * 5 + 1, none⟩ (.int .i64 x.k)).setCell ⟨g, i * 5 + 2, none⟩ (.int .i64 x.n)).setCell ⟨g, i * 5 + 3, none⟩ (.string x.s)).setCell ⟨g, i * 5 + 4, none⟩ (.slice x.a x.l x.c) ∧
      RowV w5 base (.slice (some ⟨g, 0, none⟩) m cap) (xs.set i x) ∧ (∀ k, k ≠ g → w5.heap[k]? = w.heap[k]?) ∧ w5.heap.size = w.heap.size ∧ w5.os = w.os ∧ w5.tape = w.tape ∧ w5.output = w.output := by
  subst hm
  have B := ((((((Below.refl 0 w).setCell (p := ⟨g, i * 5, none⟩) (Nat.zero_le _) (.bool x.b)).setCell (p := ⟨g, i * 5 + 1, none⟩) (Nat.zero_le _) (.int .i64 x.k)).setCell (p := ⟨g, i * 5 + 2, none⟩) (Nat.zero_le _) (.int .i64 x.n)).setCell (p := ⟨g, i * 5 + 3, none⟩) (Nat.zero_le _) (.string x.s)).setCell (p := ⟨g, i * 5 + 4, none⟩) (Nat.zero_le _) (.slice x.a x.l x.c))
  refine ⟨_, rfl, ?_, fun k hk => ?_, by simp only [World.size_setCell], B.os, B.tape, B.output⟩
  · obtain ⟨h1, ⟨h2, h0⟩ | ⟨g', cap', cur, e, hg, hh, hn, hcap, hsz, htake⟩⟩ := h
    · cases h2
    · simp only [Value.slice.injEq, Option.some.injEq, Addr.mk.injEq, true_and, and_true] at e
      obtain ⟨rfl, rfl⟩ := e
      refine ⟨by rw [flat5_length, List.length_set], .inr ⟨g, cap, _, by rw [List.length_set], hg, set_block (set_block (set_block (set_block (set_block hh _) _) _) _) _, by rw [List.length_set]; exact hn, hcap, by simpa using hsz, ?_⟩⟩
      refine List.ext_getElem? fun j => ?_
      rw [flat5_set xs i x hi j, List.length_set, List.getElem?_take]
      by_cases hj : j < xs.length * 5
      · rw [if_pos hj]
        have hcs : j < cur.size := by rw [hsz]; have : xs.length * 5 ≤ cap * 5 := Nat.mul_le_mul_right _ hn; omega
        have h2 : (flat5 xs)[j]? = cur[j]? := by rw [← htake, List.getElem?_take, if_pos hj, Array.getElem?_toList]
        rw [h2, Array.getElem?_toList, set5_get cur (i * 5) (by rw [hsz]; have : xs.length * 5 ≤ cap * 5 := Nat.mul_le_mul_right _ hn; omega)]
        rfl
      · rw [if_neg hj, if_neg (by omega), List.getElem?_eq_none (by rw [flat5_length]; omega)]
  · rw [Below.heap_setCell _ _ _ _ (by simpa using hk), Below.heap_setCell _ _ _ _ (by simpa using hk), Below.heap_setCell _ _ _ _ (by simpa using hk), Below.heap_setCell _ _ _ _ (by simpa using hk), Below.heap_setCell _ _ _ _ (by simpa using hk)]

theorem St.Ok.bind {σ : St} (h : σ.Ok) {v : Nat} {T : Tm} (hv : σ.vs[v]? = some none) (hT : ¬ Met σ (v : Int) T) (hs : T.size ≤ 2000000) : (σ.bind v T).Ok := by
  have hlt := (List.getElem?_eq_some_iff.1 hv).1
  refine ⟨h.ranked.bind (by rw [hv]; rfl) hT, ?_, fun o ho U hU => ?_, ?_, fun x => ?_⟩
  · show (σ.vs.set v (some T)).length ≤ 4096
    rw [List.length_set]; exact h.len
  · have ho : o ∈ σ.vs.set v (some T) := ho
    rcases List.mem_or_eq_of_mem_set ho with ho | rfl
    · exact h.small o ho U hU
    · cases hU; exact hs
  · show (σ.tr ++ [v]).Nodup
    rw [List.nodup_append]
    refine ⟨h.nd, by simp, fun a ha b hb e => ?_⟩
    rw [List.mem_singleton.1 hb] at e
    subst e
    obtain ⟨U, hU⟩ := (h.mem a).1 ha
    rw [hv] at hU; cases hU
  · show x ∈ σ.tr ++ [v] ↔ ∃ U, (σ.vs.set v (some T))[x]? = some (some U)
    rw [List.mem_append, h.mem x, List.mem_singleton, List.getElem?_set]
    by_cases e : v = x
    · subst e
      rw [if_pos rfl, if_pos hlt]
      simp
    · rw [if_neg e]
      constructor
      · rintro (h | h)
        · exact h
        · exact absurd h.symm e
      · exact fun h => .inl h
theorem VOk.set {p : Nat → Prop} {w : World} {xs : List V5} {vs : List (Option Tm)} (h : VOk p w xs vs) (i : Nat) (x : V5) (o : Option Tm) (hb : x.b = o.isSome) (hT : ∀ U, o = some U → TmIn p w x.val U) : VOk p w (xs.set i x) (vs.set i o) := by
  refine ⟨by rw [List.length_set, List.length_set, h.len], fun j y o' h1 h2 => ?_⟩
  rw [List.getElem?_set] at h1 h2
  by_cases e : i = j
  · subst e
    rw [if_pos rfl] at h1 h2
    split at h1
    · cases h1
      split at h2
      · cases h2; exact ⟨hb, hT⟩
      · cases h2
    · cases h1
  · rw [if_neg e] at h1 h2
    exact h.at_ j y o' h1 h2

set_option maxRecDepth 100000 in
theorem bind_nil (v : Int) (k n : Int) (s : ByteArray) (a : Option Addr) (len cap : Nat) (w : World) : Calls Try.prog 95 #[.pointer none, .int .i64 v, .agg #[.int .i64 k, .int .i64 n, .string s, .slice a len cap]] w (Gets w (.int .i64 5)) := by
  have HB : Hid (Below w.heap.size w (w.alloc (.cells #[.int .i64 k, .int .i64 n, .string s, .slice a len cap] 24))) := (Below.refl _ w).alloc (Nat.le_refl _) _
  go_enter Try.func95, Try.ntmps95
  go_wp2_with fail
  go_ret
  exact ⟨rfl, HB.out⟩

open Classical in
/-- What Bind answers. -/
noncomputable def St.bindE (σ : St) (v : Int) (T : Tm) : Int := if ¬ (0 ≤ v ∧ v < (σ.vs.length : Int)) then 5 else if (∃ U, σ.look v = some U) then 6 else if Met σ v T then 4 else 0

set_option maxRecDepth 100000 in
set_option maxHeartbeats 4000000 in
open Classical in
theorem bind_bad {p : Nat → Prop} {n₀ : Nat} {w : World} {b : Nat} {V L : Value} {σ : St} (h : StAt p n₀ w b V L σ) (v : Int) (t : Value) (T : Tm) (ht : Has w t T) (hs : T.size ≤ 1000000000) (hbad : σ.bindE v T ≠ 0) :
    Calls Try.prog 95 #[.pointer (some ⟨b, 0, none⟩), .int .i64 v, t] w (Gets w (.int .i64 (σ.bindE v T))) := by
  obtain ⟨k, n, s, a, len, cap, ks, rfl, eT, -⟩ := ht.form
  have HB : Hid (Below w.heap.size w (w.alloc (.cells #[.int .i64 k, .int .i64 n, .string s, .slice a len cap] 24))) := (Below.refl _ w).alloc (Nat.le_refl _) _
  obtain ⟨xs, hr, hok⟩ := h.rV
  have h1 := h.below HB.out
  obtain ⟨c0, c1⟩ := two_cells h1.box
  obtain ⟨va, vc, rfl⟩ := hr.form
  have hl := hok.len
  have hlen := h.ok.len
  unfold St.bindE at hbad ⊢
  by_cases hv : ¬ (0 ≤ v ∧ v < (σ.vs.length : Int))
  · rw [if_pos hv]
    by_cases hv0 : v < 0
    · clear hbad h h1 hr hok hs ht eT hv
      go_enter Try.func95, Try.ntmps95
      go_wp2_with fail
      go_ret
      exact ⟨rfl, HB.out⟩
    · have hge : v ≥ (xs.length : Int) := by omega
      clear hbad h h1 hr hok hs ht eT hv hl
      generalize xs.length = m at *
      go_enter Try.func95, Try.ntmps95
      go_wp2_with fail
      go_ret
      exact ⟨rfl, HB.out⟩
  rw [if_neg hv] at hbad ⊢
  obtain ⟨hv0, hv1⟩ : 0 ≤ v ∧ v < (σ.vs.length : Int) := Classical.not_not.1 hv
  obtain ⟨x, rfl⟩ : ∃ x : Nat, v = (x : Int) := ⟨v.toNat, by omega⟩
  have hxs : x < xs.length := by omega
  obtain ⟨q, hq⟩ : ∃ q, xs[x]? = some q := ⟨_, List.getElem?_eq_getElem hxs⟩
  obtain ⟨o, ho⟩ : ∃ o, σ.vs[x]? = some o := ⟨_, List.getElem?_eq_getElem (by omega)⟩
  obtain ⟨hqb, -⟩ := hok.at_ x q o hq ho
  obtain ⟨h1_, ⟨_, h0⟩ | ⟨g, cp, cur, e, hg, hh, hn, hcap, hsz, htake⟩⟩ := id hr
  · rw [h0] at hxs; exact absurd hxs (Nat.not_lt_zero _)
  injection e with e1 e2 e3
  subst e1 e3
  have hcell : (w.alloc (.cells #[.int .i64 k, .int .i64 n, .string s, .slice a len cap] 24)).cell? ⟨g, x * 5, none⟩ = some (.bool q.b) := by
    refine cell_al ?_ _
    have h3 := flat5_get xs x q hq 0 (by decide)
    rw [← htake, List.getElem?_take_of_lt (by omega)] at h3
    simp only [World.cell?, hh]
    simpa [V5.cells] using h3
  rw [hqb] at hcell
  have hlook : σ.look (x : Int) = o := by rw [St.look_nat, ho]; rfl
  have hhas := has_at10 h1 (.agg #[.int .i64 k, .int .i64 n, .string s, .slice a len cap]) T (Has.below ht HB.out) (x : Int) hs
  rw [hlook] at hbad ⊢
  have hn1 : decide ((x : Int) < 0) = false := by simp
  have hxl : (x : Int) < (xs.length : Int) := by omega
  have hge1 : decide ((x : Int) ≥ (xs.length : Int)) = false := by simp; omega
  clear h h1 hr hok hs ht eT hv hl hq ho hqb h1_ hh hn htake hcap hsz hg hlook hv0
  generalize xs.length = m at *
  obtain ⟨x0, x1, x2, x3⟩ := tbox_cells (World.alloc_heap_new w (.cells #[.int .i64 k, .int .i64 n, .string s, .slice a len cap] 24))
  cases o with
  | some U =>
    rw [if_pos ⟨U, rfl⟩]
    simp only [Option.isSome_some] at hcell
    clear hbad hhas
    go_enter Try.func95, Try.ntmps95
    go_wp2_with fail
    go_ret
    exact ⟨rfl, HB.out⟩
  | none =>
    have hno : ¬ ∃ U : Tm, (none : Option Tm) = some U := by rintro ⟨U, hU⟩; cases hU
    rw [if_neg hno] at hbad ⊢
    simp only [Option.isSome_none] at hcell
    by_cases hM : Met σ (x : Int) T
    · rw [if_pos hM]
      rw [decide_eq_true hM] at hhas
      clear hbad hM hno
      go_enter Try.func95, Try.ntmps95
      go_wp2_with (go_at_call 23; refine hhas.mono ?_; clear hhas; rintro e w5 ⟨rfl, hb5⟩)
      go_ret
      exact ⟨rfl, HB.out.trans (hb5.mono HB.out.size)⟩
    · rw [if_neg hM] at hbad
      exact absurd rfl hbad
end Go.Proofs.Ytfjnajngelemkaa

namespace Go.Proofs.Ytfjnajngelemkaa
open Go.RowKit Go.Shelf
set_option linter.unusedVariables false
set_option linter.unusedSimpArgs false

theorem nodup_small : ∀ (n : Nat) (l : List Nat), l.Nodup → (∀ x ∈ l, x < n) → l.length ≤ n
  | 0, l, _, h => by
    cases l with
    | nil => simp
    | cons x r => exact absurd (h x (by simp)) (Nat.not_lt_zero _)
  | n + 1, l, hd, h => by
    by_cases hn : n ∈ l
    · have h1 := nodup_small n (l.erase n) (hd.erase n) fun x hx => by
        have h2 := (List.Nodup.mem_erase_iff hd).1 hx
        have := h x h2.2
        have := h2.1
        omega
      rw [List.length_erase_of_mem hn] at h1
      omega
    · have h1 := nodup_small n l hd fun x hx => by
        have := h x hx
        have : x ≠ n := fun e => hn (e ▸ hx)
        omega
      omega
theorem St.Ok.tr_len {σ : St} (h : σ.Ok) : σ.tr.length ≤ 4096 :=
  Nat.le_trans (nodup_small σ.vs.length σ.tr h.nd fun x hx => by
    obtain ⟨U, hU⟩ := (h.mem x).1 hx
    exact (List.getElem?_eq_some_iff.1 hU).1) h.len

set_option maxRecDepth 100000 in
theorem bind_turn {n₀ : Nat} {w : World} {b : Nat} {L : Value} {σ : St} {g m cp : Nat} (h : StAt (Oth w b (.slice (some ⟨g, 0, none⟩) m cp) L) n₀ w b (.slice (some ⟨g, 0, none⟩) m cp) L σ) (hn₀ : n₀ ≤ w.heap.size) (x : Nat) (hv : σ.vs[x]? = some none) (T : Tm) (hM : ¬ Met σ (x : Int) T) (hs : T.size ≤ 2000000)
    {k n : Int} {s : ByteArray} {a : Option Addr} {l c : Nat} (hT : TmIn (Oth w b (.slice (some ⟨g, 0, none⟩) m cp) L) w (.agg #[.int .i64 k, .int .i64 n, .string s, .slice a l c]) T) :
    ∃ w5, w5 = ((((w.setCell ⟨g, x * 5, none⟩ (.bool true)).setCell ⟨g, x * 5 + 1, none⟩ (.int .i64 k)).setCell ⟨g, x * 5 + 2, none⟩ (.int .i64 n)).setCell ⟨g, x * 5 + 3, none⟩ (.string s)).setCell ⟨g, x * 5 + 4, none⟩ (.slice a l c) ∧
      w5.cell? ⟨b, 1, none⟩ = some L ∧ (∀ o, (w5.alloc o).cell? ⟨b, 1, none⟩ = some L) ∧ ∃ a7 l7 c7 w7, (Builtin.append_ #[75, 75] 75 #[L, .slice (some ⟨w5.heap.size, 0, none⟩) 1 1]).run Try.prog (w5.alloc (.cells #[.int .i64 (x : Int)] 3)) = .ok (.slice a7 l7 c7) w7 ∧
        w7.cell? ⟨b, 1, none⟩ = some L ∧ (∀ j, w7.frozen? ⟨b, j, none⟩ = false) ∧ Hid (∃ w8, w8 = w7.setCell ⟨b, 1, none⟩ (.slice a7 l7 c7) ∧ StAt (Oth w8 b (.slice (some ⟨g, 0, none⟩) m cp) (.slice a7 l7 c7)) n₀ w8 b (.slice (some ⟨g, 0, none⟩) m cp) (.slice a7 l7 c7) (σ.bind x T) ∧ Mut w b (.slice (some ⟨g, 0, none⟩) m cp) L w8 (.slice (some ⟨g, 0, none⟩) m cp) (.slice a7 l7 c7)) := by
  obtain ⟨xs, hr, hok⟩ := h.rV
  have hmx : m = xs.length := by
    obtain ⟨_, _, e⟩ := hr.form
    injection e
  subst hmx
  have hxs : x < xs.length := by rw [hok.len]; exact (List.getElem?_eq_some_iff.1 hv).1
  obtain ⟨w5, hw5, hr5, ho5, hs5, e1, e2, e3⟩ := row_set5 ⟨true, k, n, s, a, l, c⟩ x hxs hr rfl
  have hgb : g ≠ b := fun e => hr.ne_box h.box (by rw [e]; rfl)
  have hgL : L.ownBlock ≠ some g := rows_ne hr h.rL g rfl
  have hbL := h.rL.ne_box h.box
  have hb5 : w5.heap[b]? = some (.cells #[.slice (some ⟨g, 0, none⟩) xs.length cp, L] 89 (0, 0)) := (ho5 b (fun e => hgb e.symm)).trans h.box
  have hL5 : RowL w5 n₀ L σ.tr := h.rL.later fun k hk => ho5 k (fun e => hgL (by rw [hk, e]))
  have htl := h.ok.tr_len
  obtain ⟨c0, c1⟩ := two_cells hb5
  have hb6 : (w5.alloc (.cells #[.int .i64 (x : Int)] 3)).heap[b]? = some (.cells #[.slice (some ⟨g, 0, none⟩) xs.length cp, L] 89 (0, 0)) := (Below.heap_alloc _ _ _ (Array.getElem?_eq_some_iff.1 hb5).1).trans hb5
  have hL6 : RowL (w5.alloc (.cells #[.int .i64 (x : Int)] 3)) n₀ L σ.tr := hL5.later fun k hk => Below.heap_alloc _ _ _ (hL5.lt k hk).2
  obtain ⟨v', w7, hrun, hL7, hg7, hat⟩ := run_append_loose (w5.alloc (.cells #[.int .i64 (x : Int)] 3)) 75 n₀ L σ.tr hL6 w5.heap.size x (World.alloc_heap_new w5 _) (by omega) (by rw [World.size_alloc, hs5]; omega)
  obtain ⟨a7, c7, rfl⟩ := hL7.form
  have hb7 : w7.heap[b]? = some (.cells #[.slice (some ⟨g, 0, none⟩) xs.length cp, L] 89 (0, 0)) := (hg7.block b (Array.getElem?_eq_some_iff.1 hb6).1 (fun e => hbL e.symm)).trans hb6
  refine ⟨w5, hw5, c1, fun o => cell_al c1 o, a7, _, c7, w7, hrun, (two_cells hb7).2, fun j => by simp [World.frozen?, hb7], _, rfl, ?_⟩
  have hother : ∀ k, k ≠ b → (w7.setCell ⟨b, 1, none⟩ (.slice a7 (σ.tr ++ [x]).length c7)).heap[k]? = w7.heap[k]? := fun k hk => Below.heap_setCell w7 ⟨b, 1, none⟩ _ k hk
  have h67 : ∀ k, k < w.heap.size → L.ownBlock ≠ some k → k ≠ g → w7.heap[k]? = w.heap[k]? := fun k hk hkL hkg => by
    rw [hg7.block k (by rw [World.size_alloc, hs5]; omega) (fun e => hkL e.symm), Below.heap_alloc _ _ _ (by rw [hs5]; exact hk), ho5 k hkg]
  have hsz : (w7.setCell ⟨b, 1, none⟩ (.slice a7 (σ.tr ++ [x]).length c7)).heap.size = w7.heap.size := by simp
  have hsz7 : w.heap.size + 1 ≤ w7.heap.size := by have := hg7.size; rw [World.size_alloc, hs5] at this; exact this
  have hnew : ∀ k, (Value.slice a7 (σ.tr ++ [x]).length c7).ownBlock = some k → L.ownBlock = some k ∨ k = w.heap.size + 1 := fun k hk => by
    rcases hat with hat | hat
    · exact .inl (by rw [← hat]; exact hk)
    · rw [hat] at hk; injection hk with hk; rw [World.size_alloc, hs5] at hk; exact .inr hk.symm
  have hglt := (hr.lt g rfl).2
  have keep : ∀ k, Oth w b (.slice (some ⟨g, 0, none⟩) xs.length cp) L k → (w7.setCell ⟨b, 1, none⟩ (.slice a7 (σ.tr ++ [x]).length c7)).heap[k]? = w.heap[k]? ∧ Oth (w7.setCell ⟨b, 1, none⟩ (.slice a7 (σ.tr ++ [x]).length c7)) b (.slice (some ⟨g, 0, none⟩) xs.length cp) (.slice a7 (σ.tr ++ [x]).length c7) k := fun k hk => by
    refine ⟨(hother k hk.2.1).trans (h67 k hk.1 hk.2.2.2 (fun e => hk.2.2.1 (by rw [e]; rfl))), by rw [hsz]; have := hk.1; omega, hk.2.1, hk.2.2.1, fun e => ?_⟩
    rcases hnew k e with e | e
    · exact hk.2.2.2 e
    · have := hk.1; omega
  refine ⟨⟨set_block (o := 1) hb7 _, h.lo, fun k hk => hk, ⟨_, ?_, (hok.set x ⟨true, k, n, s, a, l, c⟩ (some T) rfl (fun U hU => by cases hU; exact hT)).carry (fun k hk => (keep k hk).1) fun k hk => (keep k hk).2⟩, ?_, h.ok.bind hv hM hs⟩, ⟨?_, ?_, ?_, by rw [hsz]; omega, keep⟩⟩
  · refine RowV.later hr5 fun k hk => ?_
    have hk : g = k := Option.some.inj hk
    subst hk
    rw [hother g hgb, hg7.block g (by rw [World.size_alloc, hs5]; omega) (fun e => hgL e.symm), Below.heap_alloc _ _ _ (by rw [hs5]; exact hglt)]
  · refine RowL.later hL7 fun k hk => hother k fun e => ?_
    subst e
    rcases hnew k hk with e | e
    · exact hbL e
    · have := h.lt; omega
  · exact hg7.os.trans e1
  · exact hg7.tape.trans e2
  · exact hg7.output.trans e3

set_option maxRecDepth 100000 in
set_option maxHeartbeats 4000000 in
open Classical in
theorem bind_at10 {n₀ : Nat} {w : World} {b : Nat} {V L : Value} {σ : St} (h : StAt (Oth w b V L) n₀ w b V L σ) (hn₀ : n₀ ≤ w.heap.size) (x : Nat) (t : Value) (T : Tm) (ht : Has w t T) (hs : T.size ≤ 2000000) (hv : σ.vs[x]? = some none) (hM : ¬ Met σ (x : Int) T) :
    Calls Try.prog 95 #[.pointer (some ⟨b, 0, none⟩), .int .i64 (x : Int), t] w fun e w' => e = .returned (.int .i64 0) ∧ ∃ L', StAt (Oth w' b V L') n₀ w' b V L' (σ.bind x T) ∧ Mut w b V L w' V L' := by
  obtain ⟨k, n, s, a, len, cap, ks, rfl, eT, -⟩ := ht.form
  have hB1 : Below w.heap.size w (w.alloc (.cells #[.int .i64 k, .int .i64 n, .string s, .slice a len cap] 24)) := (Below.refl _ w).alloc (Nat.le_refl _) _
  obtain ⟨xs, hr, hok⟩ := h.rV
  have h1 := h.below hB1
  obtain ⟨c0, c1⟩ := two_cells h1.box
  have hl := hok.len
  have hlen := h.ok.len
  have hxs : x < xs.length := by rw [hl]; exact (List.getElem?_eq_some_iff.1 hv).1
  obtain ⟨q, hq⟩ : ∃ q, xs[x]? = some q := ⟨_, List.getElem?_eq_getElem hxs⟩
  obtain ⟨hqb, -⟩ := hok.at_ x q none hq hv
  obtain ⟨h1_, ⟨_, h0⟩ | ⟨g, cp, cur, rfl, hg, hh, hn, hcap, hsz, htake⟩⟩ := id hr
  · rw [h0] at hxs; exact absurd hxs (Nat.not_lt_zero _)
  have hcell : (w.alloc (.cells #[.int .i64 k, .int .i64 n, .string s, .slice a len cap] 24)).cell? ⟨g, x * 5, none⟩ = some (.bool false) := by
    refine cell_al ?_ _
    have h3 := flat5_get xs x q hq 0 (by decide)
    rw [← htake, List.getElem?_take_of_lt (by omega)] at h3
    simp only [World.cell?, hh]
    have h4 : q.b = false := hqb
    rw [← h4]
    simpa [V5.cells] using h3
  have hhas := has_at10 h1 (.agg #[.int .i64 k, .int .i64 n, .string s, .slice a len cap]) T (Has.below ht hB1) (x : Int) (by omega)
  rw [decide_eq_false hM] at hhas
  have hn1 : decide ((x : Int) < 0) = false := by simp
  have hx0 : (0 : Int) ≤ (x : Int) := by omega
  have hxl : (x : Int) < (xs.length : Int) := by omega
  have hge1 : decide ((x : Int) ≥ (xs.length : Int)) = false := by simp; omega
  obtain ⟨x0, x1, x2, x3⟩ := tbox_cells (World.alloc_heap_new w (.cells #[.int .i64 k, .int .i64 n, .string s, .slice a len cap] 24))
  have hbx := World.alloc_heap_new w (.cells #[.int .i64 k, .int .i64 n, .string s, .slice a len cap] 24)
  obtain ⟨w1, hw1⟩ : ∃ w1, w1 = w.alloc (.cells #[.int .i64 k, .int .i64 n, .string s, .slice a len cap] 24) := ⟨_, rfl⟩
  rw [← hw1] at hB1 h1 c0 c1 hcell hhas x0 x1 x2 x3 hbx
  have ht1 : Has w1 (.agg #[.int .i64 k, .int .i64 n, .string s, .slice a len cap]) T := Has.below ht hB1
  have HH := Lib.hid (And.intro h (And.intro hn₀ (And.intro hv (And.intro hM (And.intro hs (And.intro hB1 (And.intro h1 (And.intro hbx ht1))))))))
  have hzv := zeroVar
  clear h h1 hr hok ht eT hl hq hv hqb h1_ hh hn htake hcap hsz hg hM hs hn₀ hB1 hbx ht1 hlen
  obtain ⟨m, hm⟩ : ∃ m, m = xs.length := ⟨_, rfl⟩
  rw [← hm] at HH c0 hxs hxl hge1 ⊢
  clear hm
  subst hw1
  go_enter Try.func95, Try.ntmps95
  go_wp2_with (go_at_call 23; refine hhas.mono ?_; clear hhas; rintro e w2 ⟨rfl, hb2⟩)
  have hb02 : Below w.heap.size w w2 := HH.out.2.2.2.2.2.1.trans (hb2.mono HH.out.2.2.2.2.2.1.size)
  have H2 := HH.out.2.2.2.2.2.2.1.below hb2
  obtain ⟨d0, d1⟩ := two_cells H2.box
  have hbx2 := tbox_below HH.out.2.2.2.2.2.2.2.1 hb2
  obtain ⟨y0, y1, y2, y3⟩ := tbox_cells hbx2
  have hT2 : Has w2 (.agg #[.int .i64 k, .int .i64 n, .string s, .slice a len cap]) T := Has.below HH.out.2.2.2.2.2.2.2.2 hb2
  have HS : ∀ w', Below w2.heap.size w2 w' → (w'.cell? ⟨b, 0, none⟩ = some (.slice (some ⟨g, 0, none⟩) m cp) ∧ w'.cell? ⟨w.heap.size, 0, none⟩ = some (.int .i64 k) ∧ w'.cell? ⟨w.heap.size, 1, none⟩ = some (.int .i64 n) ∧ w'.cell? ⟨w.heap.size, 2, none⟩ = some (.string s) ∧ w'.cell? ⟨w.heap.size, 3, none⟩ = some (.slice a len cap) ∧ Below w2.heap.size w2 w') := fun w' hb =>
    ⟨cell_later hb d0, cell_later hb y0, cell_later hb y1, cell_later hb y2, cell_later hb y3, hb⟩
  have hcall : ∀ w3, Below w2.heap.size w2 w3 → Calls Try.prog 55 #[.agg #[.int .i64 k, .int .i64 n, .string s, .slice a len cap]] w3 fun e w4 => ∃ k4 n4 s4 a4 l4 c4, e = .returned (.agg #[.int .i64 k4, .int .i64 n4, .string s4, .slice a4 l4 c4]) ∧ TmIn (fun c => w3.heap.size ≤ c ∧ c < w4.heap.size) w4 (.agg #[.int .i64 k4, .int .i64 n4, .string s4, .slice a4 l4 c4]) T ∧ Below w2.heap.size w2 w4 := fun w3 h3 =>
    (swhole_at _ T w3 (Has.below hT2 h3) (by have := HH.out.2.2.2.2.1; omega)).mono fun e w4 h4 => by
      obtain ⟨r, rfl, hr, hb4⟩ := h4
      obtain ⟨k4, n4, s4, a4, l4, c4, ks4, rfl, -⟩ := hr.form
      exact ⟨k4, n4, s4, a4, l4, c4, rfl, hr, h3.trans (hb4.mono h3.size)⟩
  have H2' := Lib.hid (And.intro H2 hb02)
  clear c0 c1 x0 x1 x2 x3 hcell hb2 H2 hb02 hbx2 hT2 d1
  go_wp2_with fail
  refine wp_region_last (S := (fun w' => w'.cell? ⟨b, 0, none⟩ = some (.slice (some ⟨g, 0, none⟩) m cp) ∧ w'.cell? ⟨w.heap.size, 0, none⟩ = some (.int .i64 k) ∧ w'.cell? ⟨w.heap.size, 1, none⟩ = some (.int .i64 n) ∧ w'.cell? ⟨w.heap.size, 2, none⟩ = some (.string s) ∧ w'.cell? ⟨w.heap.size, 3, none⟩ = some (.slice a len cap) ∧ Below w2.heap.size w2 w')) 9 rfl (by kernel_rfl) (HS _ (Below.refl _ _).drew) fun hHeld => ?_
  simp only [List.take_succ_cons, List.take_zero]
  clear d0 y0 y1 y2 y3
  refine wpAnyH_take (i := 0) (v := ?vv0) rfl (by kernel_rfl) (by kernel_rfl) (by kernel_rfl) (fun _ _ _ h => h) (Or.inl ⟨by rfl, ?hy0⟩) hHeld ?rest0
  case hy0 =>
    intro w0 hSw
    (try dsimp only at hSw)
    go_simp
    try (with_reducible rfl)
  try simp only [Act.put, List.setIfInBounds_toArray, List.set_cons_zero, List.set_cons_succ]
  refine wpAnyH_take (i := 1) (v := ?vv1) rfl (by kernel_rfl) (by kernel_rfl) (by kernel_rfl) (fun _ _ _ h => h) (Or.inl ⟨by rfl, ?hy1⟩) hHeld ?rest1
  case hy1 =>
    intro w0 hSw
    (try dsimp only at hSw)
    go_simp
    try (with_reducible rfl)
  try simp only [Act.put, List.setIfInBounds_toArray, List.set_cons_zero, List.set_cons_succ]
  refine wpAnyH_take (i := 2) (v := ?vv2) rfl (by kernel_rfl) (by kernel_rfl) (by kernel_rfl) (fun _ _ _ h => h) (Or.inl ⟨by rfl, ?hy2⟩) hHeld ?rest2
  case hy2 =>
    intro w0 hSw
    (try dsimp only at hSw)
    go_simp
    try (with_reducible rfl)
  try simp only [Act.put, List.setIfInBounds_toArray, List.set_cons_zero, List.set_cons_succ]
  refine wpAnyH_take (i := 3) (v := ?vv3) rfl (by kernel_rfl) (by kernel_rfl) (by kernel_rfl) (fun _ _ _ h => h) (Or.inl ⟨by rfl, ?hy3⟩) hHeld ?rest3
  case hy3 =>
    intro w0 hSw
    (try dsimp only at hSw)
    go_simp
    try (with_reducible rfl)
  try simp only [Act.put, List.setIfInBounds_toArray, List.set_cons_zero, List.set_cons_succ]
  refine wpAnyH_take (i := 4) (v := ?vv4) rfl (by kernel_rfl) (by kernel_rfl) (by kernel_rfl) (fun _ _ _ h => h) (Or.inl ⟨by rfl, ?hy4⟩) hHeld ?rest4
  case hy4 =>
    intro w0 hSw
    (try dsimp only at hSw)
    go_simp
    try (with_reducible rfl)
  try simp only [Act.put, List.setIfInBounds_toArray, List.set_cons_zero, List.set_cons_succ]
  refine wpAnyH_take (i := 5) (v := ?vv5) rfl (by kernel_rfl) (by kernel_rfl) (by kernel_rfl) (fun _ _ _ h => h) (Or.inl ⟨by rfl, ?hy5⟩) hHeld ?rest5
  case hy5 =>
    intro w0 hSw
    (try dsimp only at hSw)
    go_simp
    try (with_reducible rfl)
  try simp only [Act.put, List.setIfInBounds_toArray, List.set_cons_zero, List.set_cons_succ]
  refine wpAnyH_ready (rs := [6]) (by kernel_rfl) (by simp) ?_
  refine AllReadyH.cons rfl (fun K hK => ?_) AllReadyH.nil
  go_simp
  with_reducible refine (hcall _ (Below.refl _ _).drew).mono ?_
  rintro e w4 ⟨k4, n4, s4, a4, l4, c4, rfl, hT4, hb4⟩
  go_wp2_with fail
  refine hK.out _ _ (HS _ hb4) (fun hHeld2 => ?_)
  clear hK K
  try simp only [Act.put, List.setIfInBounds_toArray, List.set_cons_zero, List.set_cons_succ]
  refine wpAnyH_take (i := 7) (v := ?vv7) rfl (by kernel_rfl) (by kernel_rfl) (by kernel_rfl) (fun _ _ _ h => h) (Or.inl ⟨by rfl, ?hy7⟩) hHeld2 ?rest7
  case hy7 =>
    intro w0 hSw
    (try dsimp only at hSw)
    go_simp
    try (with_reducible rfl)
  try simp only [Act.put, List.setIfInBounds_toArray, List.set_cons_zero, List.set_cons_succ]
  refine wpAnyH_take (i := 8) (v := ?vv8) rfl (by kernel_rfl) (by kernel_rfl) (by kernel_rfl) (fun _ _ _ h => h) (Or.inl ⟨by rfl, ?hy8⟩) hHeld2 ?rest8
  case hy8 =>
    intro w0 hSw
    (try dsimp only at hSw)
    go_simp
    try (with_reducible rfl)
  try simp only [Act.put, List.setIfInBounds_toArray, List.set_cons_zero, List.set_cons_succ]
  have h4 := H2'.out.1.below hb4
  have hb14 := H2'.out.2.trans (hb4.mono H2'.out.2.size)
  have h4' := h4.weak (q := Oth w4 b (.slice (some ⟨g, 0, none⟩) m cp) L) (fun c hc => (HH.out.1.sub c hc).below hb14) (fun c hc => hc)
  have hT4' : TmIn (Oth w4 b (.slice (some ⟨g, 0, none⟩) m cp) L) w4 (.agg #[.int .i64 k4, .int .i64 n4, .string s4, .slice a4 l4 c4]) T := H2'.out.1.new (hT4.carry (fun _ _ => rfl) fun c hc => ⟨hc.1, hc.2⟩)
  obtain ⟨w5, hw5, f1, f1', a7, l7, c7, w7, hrun, g1, gf, HZ⟩ := bind_turn h4' (Nat.le_trans HH.out.2.1 hb14.size) x HH.out.2.2.1 T HH.out.2.2.2.1 HH.out.2.2.2.2.1 hT4'
  have hv4 : ∀ j, j < 5 → ∃ u, w4.cell? ⟨g, x * 5 + j, none⟩ = some u := by
    obtain ⟨xs', hr', hok'⟩ := h4.rV
    obtain ⟨_, ⟨hq, _⟩ | ⟨g', cap', cur', e, _, hh', hn', _, hsz', _⟩⟩ := hr'
    · cases hq
    · injection e with e1 e2 e3
      injection e1 with e1
      injection e1 with e1
      subst e1
      intro j hj
      have hlt : x * 5 + j < cur'.size := by
        have hxx : x < xs'.length := by omega
        have : xs'.length * 5 ≤ cap' * 5 := Nat.mul_le_mul_right _ hn'
        omega
      exact ⟨cur'[x * 5 + j], by simp [World.cell?, hh', hlt]⟩
  have hf4 : ∀ j, w4.frozen? ⟨g, j, none⟩ = false := by
    obtain ⟨xs', hr', hok'⟩ := h4.rV
    obtain ⟨_, ⟨hq, _⟩ | ⟨g', cap', cur', e, _, hh', _⟩⟩ := hr'
    · cases hq
    · injection e with e1 e2 e3
      injection e1 with e1
      injection e1 with e1
      subst e1
      intro j
      simp [World.frozen?, hh']
  obtain ⟨u0, v0⟩ := hv4 0 (by omega)
  obtain ⟨u1, v1⟩ := hv4 1 (by omega)
  obtain ⟨u2, v2⟩ := hv4 2 (by omega)
  obtain ⟨u3, v3⟩ := hv4 3 (by omega)
  obtain ⟨u4, v4⟩ := hv4 4 (by omega)
  rw [Nat.add_zero] at v0
  have HM := Lib.hid (Mut.of_below (b := b) (V := .slice (some ⟨g, 0, none⟩) m cp) (L := L) hb14)
  have HW5 := Lib.hid hw5
  clear hb4 hT4 h4 hb14 h4' hT4' hw5 hv4 hcall HS
  refine wpAnyH_done (by kernel_rfl) ?_ _
  refine last_of_list rfl ?_
  go_upto_region 8 with fail
  rw [← HW5.out]
  clear v0 v1 v2 v3 v4 hf4 HW5
  go_wp2_with (at_builtin; refine Lib.wpList_append_run _ rfl _ _ _ _ rfl _ _ rfl rfl _ _ hrun ?_)
  obtain ⟨w8, hw8, hS8, hM8⟩ := HZ.out
  rw [← hw8]
  go_ret
  exact ⟨rfl, _, hS8, HM.out.trans hM8⟩
end Go.Proofs.Ytfjnajngelemkaa
