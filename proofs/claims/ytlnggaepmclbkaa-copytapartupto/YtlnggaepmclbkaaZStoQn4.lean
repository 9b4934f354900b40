/-
  What Bind leaves, whatever it is given; deeds that came in.
-/
import Derived.Test.YtlnggaepmclbkaaZStoJn2
import Derived.Test.YtlnggaepmclbkaaZStoNn3
import Derived.Test.YtlnggaepmclbkaaZVarsn3
import Derived.Laws.AppendOwnNone
import Derived.Deep.Heap
namespace Go.Proofs.Ytlnggaepmclbkaa
open Go.RowKit Go.Shelf
set_option linter.unusedVariables false
set_option linter.unusedSimpArgs false

/-- What a state may become by a Bind. -/
def Bound1 (σ : St) (v : Int) (T : Tm) (σ' : St) : Prop := σ' = σ ∨ ∃ n : Nat, v = (n : Int) ∧ σ.vs[n]? = some none ∧ ¬ Met σ (n : Int) T ∧ σ' = σ.bind n T

open Classical in
theorem bind_any {n₀ : Nat} {w : World} {b : Nat} {V L : Value} {σ : St} (h : StAt (Oth w b V L) n₀ w b V L σ) (hn₀ : n₀ ≤ w.heap.size) (v : Int) (t : Value) (T : Tm) (ht : Has w t T) (hs : T.size ≤ 2000000) :
    Calls Try.prog 20 #[.pointer (some ⟨b, 0, none⟩), .int .i64 v, t] w fun e w' => ∃ x : Int, e = .returned (.int .i64 x) ∧ ∃ L' σ', StAt (Oth w' b V L') n₀ w' b V L' σ' ∧ Mut w b V L w' V L' ∧ Bound1 σ v T σ' := by
  by_cases hb : σ.bindE v T = 0
  · unfold St.bindE at hb
    by_cases h1 : ¬ (0 ≤ v ∧ v < (σ.vs.length : Int))
    · rw [if_pos h1] at hb; cases hb
    rw [if_neg h1] at hb
    by_cases h2 : ∃ U, σ.look v = some U
    · rw [if_pos h2] at hb; cases hb
    rw [if_neg h2] at hb
    by_cases h3 : Met σ v T
    · rw [if_pos h3] at hb; cases hb
    obtain ⟨hv0, hv1⟩ : 0 ≤ v ∧ v < (σ.vs.length : Int) := Classical.not_not.1 h1
    obtain ⟨n, rfl⟩ : ∃ n : Nat, v = (n : Int) := ⟨v.toNat, by omega⟩
    have hvs : σ.vs[n]? = some none := by
      have hlt : n < σ.vs.length := by omega
      rw [St.look_nat] at h2
      rw [List.getElem?_eq_getElem hlt] at h2 ⊢
      cases hx : σ.vs[n] with
      | none => rfl
      | some U => exact absurd ⟨U, by rw [hx]; rfl⟩ h2
    refine (bind_at10 h hn₀ n t T ht hs hvs h3).mono ?_
    rintro e w' ⟨rfl, L', hS, hM⟩
    exact ⟨0, rfl, L', _, hS, hM, .inr ⟨n, rfl, hvs, h3, rfl⟩⟩
  · refine (bind_bad h v t T ht (by omega) hb).mono ?_
    rintro e w' ⟨rfl, hB⟩
    exact ⟨_, rfl, L, σ, h.step hB, Mut.of_below hB, .inl rfl⟩

theorem Bound1.len {σ σ' : St} {v : Int} {T : Tm} (h : Bound1 σ v T σ') : σ'.vs.length = σ.vs.length := by
  rcases h with rfl | ⟨n, -, -, -, rfl⟩
  · rfl
  · show (σ.vs.set n (some T)).length = _
    rw [List.length_set]
/-- What was bound since can be undone. -/
def Since (σ σ' : St) : Prop := σ.tr.length ≤ σ'.tr.length ∧ σ'.undo σ.tr.length = σ
theorem Since.refl (σ : St) : Since σ σ := ⟨Nat.le_refl _, by
  unfold St.undo
  rw [List.drop_eq_nil_of_le (Nat.le_refl _), List.take_of_length_le (Nat.le_refl _)]; rfl⟩
theorem Since.bind {σ σ' σ'' : St} (h : Since σ σ') {v : Int} {T : Tm} (hb : Bound1 σ' v T σ'') : Since σ σ'' := by
  rcases hb with rfl | ⟨n, -, hn, -, rfl⟩
  · exact h
  · refine ⟨by show _ ≤ (σ'.tr ++ [n]).length; rw [List.length_append]; have := h.1; omega, ?_⟩
    have h2 := h.2
    unfold St.undo St.bind at *
    simp only
    rw [List.drop_append_of_le_length h.1, List.take_append_of_le_length h.1, frees_snoc]
    have e : (frees (σ'.vs.set n (some T)) (σ'.tr.drop σ.tr.length)).set n none = frees σ'.vs (σ'.tr.drop σ.tr.length) := by
      refine List.ext_getElem? fun x => ?_
      rw [List.getElem?_set, frees_get, frees_get, frees_len, List.length_set, List.getElem?_set]
      by_cases e : n = x
      · subst e
        have hlt := (List.getElem?_eq_some_iff.1 hn).1
        rw [if_pos rfl, if_pos hlt]
        split
        · rfl
        · rw [hn]
      · rw [if_neg e, if_neg e]
    rw [e]
    exact h2

theorem fin_size {σ : St} (h : σ.Ok) (T : Tm) : (σ.fin T).size ≤ max T.size 2000000 := by
  obtain ⟨n, hn⟩ := h.ranked.fin T
  generalize σ.fin T = X at hn
  suffices hh : ∀ n T X, EndsN σ n T X → X.size ≤ max T.size 2000000 by exact hh n T X hn
  intro n T X hn
  induction hn with
  | stop _ => omega
  | step h1 _ ih =>
    obtain ⟨_, x, _, hx⟩ := St.val_some h1
    have := h.small _ (List.mem_of_getElem? hx) _ rfl
    omega

/-- Deeds that came in: a number, and a term. -/
def DeedsAt (n₀ : Nat) (w : World) (a : Option Addr) (len : Nat) : Prop := ∀ i, i < len → ∃ (b o : Nat) (N k n : Int) (s : ByteArray) (a' : Option Addr) (l' c' : Nat) (T : Tm), a = some ⟨b, o, none⟩ ∧ b < n₀ ∧ i64ok N ∧ w.cell? ⟨b, o + i * 6 + 1, none⟩ = some (.int .i64 N) ∧
  w.cell? ⟨b, o + i * 6 + 2, none⟩ = some (.int .i64 k) ∧ w.cell? ⟨b, o + i * 6 + 3, none⟩ = some (.int .i64 n) ∧ w.cell? ⟨b, o + i * 6 + 4, none⟩ = some (.string s) ∧ w.cell? ⟨b, o + i * 6 + 5, none⟩ = some (.slice a' l' c') ∧ IsTm n₀ w (.agg #[.int .i64 k, .int .i64 n, .string s, .slice a' l' c']) T ∧ T.size ≤ 1048576
end Go.Proofs.Ytlnggaepmclbkaa

namespace Go.Proofs.Ytlnggaepmclbkaa
open Go.RowKit Go.Shelf
set_option linter.unusedVariables false
set_option linter.unusedSimpArgs false

def FR.tm : FR → Tm | .bad _ => .mk 0 0 (ByteArray.mk #[]) [] | .ok u _ => u
def FR.err : FR → Int | .bad x => x | .ok _ _ => 0
theorem full_any {n₀ : Nat} {w : World} {b : Nat} {V L : Value} {σ : St} (h : StAt (Oth w b V L) n₀ w b V L σ) (v : Value) (T : Tm) (hv : Has w v T) :
    Calls Try.prog 21 #[.pointer (some ⟨b, 0, none⟩), v] w fun e w' => ∃ k n s a l c, e = .returned (.tuple #[.agg #[.int .i64 k, .int .i64 n, .string s, .slice a l c], .int .i64 (σ.fill 60 1000 T).err]) ∧
      TmIn (fun c => w.heap.size ≤ c ∧ c < w'.heap.size) w' (.agg #[.int .i64 k, .int .i64 n, .string s, .slice a l c]) (σ.fill 60 1000 T).tm ∧ Below w.heap.size w w' := by
  refine (full_at h v T hv).mono ?_
  rintro e w' ⟨hB, hm⟩
  cases hr : σ.fill 60 1000 T with
  | bad x =>
    rw [hr] at hm
    exact ⟨_, _, _, _, _, _, hm, (noTs _ _).term ⟨by decide, by decide⟩ ⟨by decide, by decide⟩ (Nat.zero_le _), hB⟩
  | ok u l =>
    rw [hr] at hm
    obtain ⟨k, n, s, a, l', c, he, hT⟩ := hm
    exact ⟨k, n, s, a, l', c, he, hT, hB⟩
theorem tm_size (σ : St) (T : Tm) : (σ.fill 60 1000 T).tm.size ≤ 1000 := by
  cases hr : σ.fill 60 1000 T with
  | bad x => show (Tm.mk 0 0 _ []).size ≤ _; rw [Tm.size_mk, Tm.sizes_nil]; omega
  | ok u l => have := fill_size σ 60 1000 T u l hr; show u.size ≤ _; omega

/-- A term in a box, that stays while the store turns. -/
structure Kp (w : World) (b : Nat) (V L : Value) (B : Nat) (k n : Int) (s : ByteArray) (a : Option Addr) (l c : Nat) (A : Tm) : Prop where
  box : w.heap[B]? = some (.cells #[.int .i64 k, .int .i64 n, .string s, .slice a l c] 24 (0, 0))
  oth : Oth w b V L B
  tm : TmIn (Oth w b V L) w (.agg #[.int .i64 k, .int .i64 n, .string s, .slice a l c]) A
theorem Kp.mut {w w' : World} {b : Nat} {V L V' L' : Value} {B : Nat} {k n : Int} {s : ByteArray} {a : Option Addr} {l c : Nat} {A : Tm} (h : Kp w b V L B k n s a l c A) (m : Mut w b V L w' V' L') : Kp w' b V' L' B k n s a l c A :=
  ⟨(m.keep B h.oth).1.trans h.box, (m.keep B h.oth).2, m.term h.tm⟩
theorem Kp.has {w : World} {b : Nat} {V L : Value} {B : Nat} {k n : Int} {s : ByteArray} {a : Option Addr} {l c : Nat} {A : Tm} (h : Kp w b V L B k n s a l c A) : Has w (.agg #[.int .i64 k, .int .i64 n, .string s, .slice a l c]) A := oth_has h.tm
theorem ts_mut {w w' : World} {b : Nat} {V L V' L' : Value} (m : Mut w b V L w' V' L') {v : Value} {ks : List Tm} (h : TsIn (Oth w b V L) w v ks) : TsIn (Oth w' b V' L') w' v ks :=
  h.carry (fun k hk => (m.keep k hk).1) fun k hk => (m.keep k hk).2
theorem DeedsAt.below {n₀ m : Nat} {w w' : World} {a : Option Addr} {len : Nat} (h : DeedsAt n₀ w a len) (k : Below m w w') (hm : n₀ ≤ m) : DeedsAt n₀ w' a len := fun i hi => by
  obtain ⟨b, o, N, k', n, s, a', l', c', T, e, hb, hN, c1, c2, c3, c4, c5, hT, hs⟩ := h i hi
  have hb' : b < m := Nat.lt_of_lt_of_le hb hm
  exact ⟨b, o, N, k', n, s, a', l', c', T, e, hb, hN, (k.cell (p := ⟨b, _, none⟩) hb').trans c1, (k.cell (p := ⟨b, _, none⟩) hb').trans c2, (k.cell (p := ⟨b, _, none⟩) hb').trans c3, (k.cell (p := ⟨b, _, none⟩) hb').trans c4, (k.cell (p := ⟨b, _, none⟩) hb').trans c5, IsTm.later (k.mono hm) (Nat.le_refl _) hT, hs⟩
abbrev vK (i : Nat) : Tm := .mk 1 (i : Int) (ByteArray.mk #[]) []
theorem vK_size (i : Nat) : (vK i).size = 1 := by rw [vK, Tm.size_mk, Tm.sizes_nil]
end Go.Proofs.Ytlnggaepmclbkaa

namespace Go.Proofs.Ytlnggaepmclbkaa
open Go.RowKit Go.Shelf
set_option linter.unusedVariables false

/-- A slice that owns numbers. -/
def OwnInts (w : World) (base : Nat) (v : Value) (l : List Int) : Prop := w.ownsRow base 3 1 v l.length (l.map (Value.int .i64))
theorem OwnInts.ints {w : World} {base : Nat} {v : Value} {l : List Int} (h : OwnInts w base v l) : IntsAt w v l := ints_of_row h
theorem OwnInts.alloc {w : World} {base : Nat} {v : Value} {l : List Int} (h : OwnInts w base v l) (o : Obj) : OwnInts (w.alloc o) base v l := World.ownsRow.alloc h o
theorem OwnInts.below {w w' : World} {base : Nat} {v : Value} {l : List Int} (h : OwnInts w base v l) (k : Below w.heap.size w w') : OwnInts w' base v l := by
  obtain ⟨hl, ⟨h0, h1⟩ | ⟨g, cap, cur, h0, hg, hh, r⟩⟩ := h
  · exact ⟨hl, Or.inl ⟨h0, h1⟩⟩
  · exact ⟨hl, Or.inr ⟨g, cap, cur, h0, hg, by rw [k.block g (Array.getElem?_eq_some_iff.1 hh).1]; exact hh, r⟩⟩
theorem OwnInts.lt {w : World} {base : Nat} {v : Value} {l : List Int} (h : OwnInts w base v l) : ∀ k, v.ownBlock = some k → base ≤ k := fun k hk => (World.ownsRow.lt h k hk).1
theorem OwnInts.empty (w : World) (base : Nat) (hb : base ≤ w.heap.size) : OwnInts (w.alloc (.cells #[] 3)) base (.slice (some ⟨w.heap.size, 0, none⟩) 0 0) [] :=
  ⟨rfl, Or.inr ⟨w.heap.size, 0, #[], rfl, hb, Go.Deep.blk_alloc_new _ _, Nat.le_refl _, Nat.zero_le _, rfl, rfl⟩⟩
theorem OwnInts.form {w : World} {base : Nat} {v : Value} {l : List Int} (h : OwnInts w base v l) : ∃ a cap, v = .slice a l.length cap := by
  obtain ⟨a, cap, e, _⟩ := h.ints
  exact ⟨a, cap, e⟩

theorem ints_cell {w : World} {a : Addr} {l : List Int} (h : ∀ i (hi : i < l.length), ∃ b o, some a = some ⟨b, o, none⟩ ∧ b < w.heap.size ∧ w.cell? ⟨b, o + i, none⟩ = some (.int .i64 l[i])) (j : Nat) (u : Value) (hu : (l.map (Value.int .i64))[j]? = some u) : w.cell? (a.add j) = some u := by
  have hj : j < l.length := by simpa using (List.getElem?_eq_some_iff.1 hu).1
  obtain ⟨b, o, e, _, hc⟩ := h j hj
  injection e with e
  subst e
  have ea : (Addr.add ⟨b, o, none⟩ j) = ⟨b, o + j, none⟩ := by
    by_cases e : j = 0
    · subst e; simp [Addr.add]
    · simp [Addr.add, e]
  rw [ea, hc, ← hu]
  simp [hj]

/-- append onto numbers of one's own, of numbers wherever they lie. -/
theorem wpList_append_ints {w : World} {ops : Array Oper} {rest : List Oper} {o : Oper} {a : Act} {Q : Exit → Act → World → Prop} (hgd : o.guard = none) (s x : Operand)
    (ho : o.op = .call { callee := .builtin .append, args := #[s, x], argTypes := #[34, 34] })
    (base : Nat) (v : Value) (l : List Int) (hs : a.eval s = v) (hown : OwnInts w base v l) (u : Value) (r : List Int) (hx : a.eval x = u) (hr : IntsAt w u r)
    (hl : l.length + r.length ≤ 1000000000000) (hbase : base ≤ w.heap.size)
    (h : ∀ v' w', OwnInts w' base v' (l ++ r) → w.grownBy w' v.ownBlock → wpList Try.prog ops Q rest (a.put o.dst v') w') : wpList Try.prog ops Q (o :: rest) a w := by
  obtain ⟨i0, hi, hz0, hz1, hz2⟩ := info_parts infoInt
  obtain ⟨sa, c, rfl, h1, h2, h3, h4⟩ := hr
  cases sa with
  | none =>
    obtain rfl : r = [] := by
      cases r with
      | nil => rfl
      | cons p r => obtain ⟨_, _, e, _⟩ := h4 0 (by simp); cases e
    rw [h3 rfl] at hx
    refine wpList_append_own_none hgd s x 34 ho base 3 i0 1 Try.underlying34 hi v l.length (l.map (Value.int .i64)) hs hown hx ?_
    exact h v w (by rw [List.append_nil]; exact hown) ⟨rfl, rfl, rfl, Nat.le_refl _, fun _ _ _ => rfl⟩
  | some ad =>
    refine wpList_append_own _ hgd s x 34 ho base 3 i0 (.int .i64 0) 1 8 Try.underlying34 hi hz0 hz1 hz2 rfl (by decide) v l.length (l.map (Value.int .i64)) hs hown ad r.length c (r.map (Value.int .i64)) hx (by simp) (ints_cell h4) (by simp [Value.oneCell']) (by unfold maxLen; omega) (by omega) hbase ?_
    intro v' w' h1 h2 _
    exact h v' w' (by unfold OwnInts; rw [List.length_append, List.map_append]; exact h1) h2
set_option maxRecDepth 100000 in
set_option maxHeartbeats 1000000 in
theorem rhas_at (u : Value) (l : List Int) (x : Int) (w : World) (hu : IntsAt w u l) (hl : l.length ≤ 1000000000000) :
    Calls Try.prog 46 #[u, .int .i64 x] w (Gets w (.bool (l.contains x))) := by
  obtain ⟨a, ca, rfl, ha1, ha2, ha3, ha4⟩ := hu
  go_enter Try.func46, Try.ntmps46
  go_wp2_with fail
  go_loopw [5] (fun i wr => ∃ c : Nat, i = .int .i64 c ∧ c ≤ l.length ∧ (l.take c).contains x = false ∧ Below w.heap.size w wr) (fun i _ => l.length - (intOf i).toNat)
  case atStart => exact ⟨0, rfl, Nat.zero_le _, by simp, Below.refl _ _⟩
  case round =>
    obtain ⟨c, rfl, hc, ht, hB⟩ := hrel
    by_cases hlt : c < l.length
    · obtain ⟨b1, o1, rfl, hb1', d1⟩ := ha4 c hlt
      have q1 := (hB.cell (p := ⟨b1, o1 + c, none⟩) hb1').trans d1
      obtain ⟨y, hy⟩ : ∃ y, l[c] = y := ⟨_, rfl⟩
      rw [hy] at q1
      have HT := Lib.hid (And.intro ht (And.intro hB hy))
      clear d1 ha4 ht hB hy
      go_wp2_with fail
      · rename_i he
        have he' : y = x := by simpa using he
        go_ret
        refine ⟨congrArg (fun b => Ending.returned (Value.bool b)) (?_ : true = l.contains x), HT.out.2.1⟩
        have : x ∈ l := by rw [← he', ← HT.out.2.2]; exact List.getElem_mem _
        simpa using this
      · rename_i he
        have he' : ¬ y = x := by simpa using he
        go_roundw
        case rel =>
          refine ⟨c + 1, by simp, hlt, ?_, HT.out.2.1⟩
          rw [List.take_add_one, List.getElem?_eq_getElem hlt, HT.out.2.2]
          have h1 := HT.out.1
          simp at h1 ⊢
          exact ⟨h1, fun e => he' e.symm⟩
        case measure => simp [intOf]; omega
    · have hce : c = l.length := by omega
      subst hce
      clear ha4
      go_wp2_with fail
      go_ret
      rw [List.take_length] at ht
      exact ⟨by rw [ht]; rfl, hB⟩

/-! What the variables of a term with arguments are. -/

def nums (l : List (Nat × Tm)) : List Int := (l.filter fun x => decide (x.2.kind = 1)).map fun x => x.2.num
theorem foldl_addV (l : List (Nat × Tm)) : ∀ acc, l.foldl addV acc = (nums l).foldl addNew acc := by
  induction l with
  | nil => intro acc; rfl
  | cons x l ih =>
    intro acc
    rw [List.foldl_cons, ih]
    unfold nums addV
    by_cases h : x.2.kind = 1
    · rw [if_pos h, List.filter_cons_of_pos (by simpa using h), List.map_cons, List.foldl_cons]
    · rw [if_neg h, List.filter_cons_of_neg (by simpa using h)]
theorem nums_append (l r : List (Nat × Tm)) : nums (l ++ r) = nums l ++ nums r := by simp [nums]
theorem nums_partss (d e : Nat) : ∀ ks : List Tm, (∀ t ∈ ks, ∀ d e, nums (t.parts d) = nums (t.parts e)) → nums (Tm.partss d ks) = nums (Tm.partss e ks)
  | [], _ => by simp [Tm.partss_nil]
  | t :: ts, h => by rw [Tm.partss_cons, Tm.partss_cons, nums_append, nums_append, h t (by simp) d e, nums_partss d e ts fun u hu => h u (by simp [hu])]
theorem nums_parts (T : Tm) : ∀ d e, nums (T.parts d) = nums (T.parts e) := by
  induction T using Tm.ind with
  | h k n s ks ih =>
    intro d e
    rw [Tm.parts_mk, Tm.parts_mk]
    show nums ([(d, Tm.mk k n s ks)] ++ _) = nums ([(e, Tm.mk k n s ks)] ++ _)
    rw [nums_append, nums_append, nums_partss (d + 1) (e + 1) ks ih]
    congr 1
    unfold nums
    by_cases h : (Tm.mk k n s ks).kind = 1
    · rw [List.filter_cons_of_pos (by simpa using h), List.filter_cons_of_pos (by simpa using h)]; rfl
    · rw [List.filter_cons_of_neg (by simpa using h), List.filter_cons_of_neg (by simpa using h)]

theorem foldl_addNew (acc : List Int) : ∀ xs : List Int, xs.foldl addNew acc = acc ++ (xs.foldl addNew []).filter fun y => !acc.contains y := by
  intro xs
  induction h : xs.length generalizing xs with
  | zero =>
    obtain rfl : xs = [] := List.eq_nil_of_length_eq_zero h
    simp
  | succ n ih =>
    obtain ⟨ys, x, rfl⟩ : ∃ ys x, xs = ys ++ [x] := by
      cases e : xs.reverse with
      | nil => simp at e; subst e; simp at h
      | cons x r => exact ⟨r.reverse, x, by rw [← List.reverse_reverse xs, e]; simp⟩
    have hy := ih ys (by simp at h; omega)
    rw [List.foldl_append, List.foldl_append, hy]
    generalize ys.foldl addNew [] = D
    show addNew _ x = acc ++ (addNew D x).filter _
    unfold addNew
    by_cases ha : acc.contains x = true
    · have h1 : (acc ++ D.filter fun y => !acc.contains y).contains x = true := by simp at ha ⊢; exact Or.inl ha
      rw [if_pos h1]
      split
      · rfl
      · rw [List.filter_append]; simp at ha; simp [ha]
    · have ha' : acc.contains x = false := by simpa using ha
      by_cases hd : D.contains x = true
      · have h1 : (acc ++ D.filter fun y => !acc.contains y).contains x = true := by
          simp at ha' hd ⊢
          exact Or.inr ⟨hd, ha'⟩
        rw [if_pos h1, if_pos hd]
      · have h1 : (acc ++ D.filter fun y => !acc.contains y).contains x = false := by
          simp at ha' hd ⊢
          exact ⟨ha', fun h => absurd h hd⟩
        rw [if_neg (by rw [h1]; decide), if_neg hd, List.filter_append, List.append_assoc]
        simp at ha'
        simp [ha']

theorem addNew_nodup {acc : List Int} (h : acc.Nodup) (x : Int) : (addNew acc x).Nodup := by
  unfold addNew
  split
  · exact h
  · rename_i hc
    rw [List.nodup_append]
    refine ⟨h, by simp, fun a ha b hb => ?_⟩
    simp at hb hc
    subst hb
    intro e
    subst e
    exact hc ha
theorem foldl_nodup : ∀ (xs acc : List Int), acc.Nodup → (xs.foldl addNew acc).Nodup
  | [], acc, h => h
  | x :: xs, acc, h => foldl_nodup xs _ (addNew_nodup h x)
theorem vars_nodup (T : Tm) : T.vars.Nodup := by
  rw [Tm.vars, varsL, foldl_addV]
  exact foldl_nodup _ _ List.nodup_nil
theorem nodup_take {l : List Int} (h : l.Nodup) (i : Nat) (hi : i < l.length) : (l.take i).contains l[i] = false := by
  have e : l = l.take i ++ l[i] :: l.drop (i + 1) := by rw [← List.drop_eq_getElem_cons hi, List.take_append_drop]
  have h' := h
  rw [e, List.nodup_append] at h'
  simp only [List.contains_eq_mem, decide_eq_false_iff_not]
  intro hm
  exact h'.2.2 _ hm _ List.mem_cons_self rfl

theorem vars_two (s : ByteArray) (A B : Tm) : (Tm.mk 3 0 s [A, B]).vars = A.vars ++ B.vars.filter fun y => !A.vars.contains y := by
  have e : nums ((Tm.mk 3 0 s [A, B]).parts 1) = nums (A.parts 1) ++ nums (B.parts 1) := by
    rw [Tm.parts_mk, Tm.partss_cons, Tm.partss_cons, Tm.partss_nil, List.append_nil]
    show nums ([(1, Tm.mk 3 0 s [A, B])] ++ (A.parts 2 ++ B.parts 2)) = _
    rw [nums_append, nums_append, nums_parts A 2 1, nums_parts B 2 1]
    rfl
  rw [Tm.vars, varsL, foldl_addV, e, List.foldl_append, foldl_addNew ((nums (A.parts 1)).foldl addNew []), ← foldl_addV, ← foldl_addV]
  rfl

end Go.Proofs.Ytlnggaepmclbkaa

namespace Go.Proofs.Ytlnggaepmclbkaa
open Go.RowKit Go.Shelf
set_option linter.unusedVariables false

theorem validL_append (L : Int) (l r : List (Nat × Tm)) : validL L (l ++ r) = (validL L l && validL L r) := by simp [validL]
theorem validL_partss (L : Int) (d e : Nat) : ∀ ks : List Tm, (∀ t ∈ ks, ∀ d e, validL L (t.parts d) = validL L (t.parts e)) → validL L (Tm.partss d ks) = validL L (Tm.partss e ks)
  | [], _ => by simp [Tm.partss_nil]
  | t :: ts, h => by rw [Tm.partss_cons, Tm.partss_cons, validL_append, validL_append, h t (by simp) d e, validL_partss L d e ts fun u hu => h u (by simp [hu])]
theorem validL_parts (L : Int) (T : Tm) : ∀ d e, validL L (T.parts d) = validL L (T.parts e) := by
  induction T using Tm.ind with
  | h k n s ks ih =>
    intro d e
    rw [Tm.parts_mk, Tm.parts_mk]
    show validL L ([(d, Tm.mk k n s ks)] ++ _) = validL L ([(e, Tm.mk k n s ks)] ++ _)
    rw [validL_append, validL_append, validL_partss L (d + 1) (e + 1) ks ih]
    rfl
theorem validL_kids (L : Int) (d : Nat) : ∀ ks : List Tm, validL L (Tm.partss d ks) = ks.all (Tm.valid L)
  | [] => by simp [Tm.partss_nil, validL]
  | t :: ts => by rw [Tm.partss_cons, validL_append, validL_kids L d ts, List.all_cons, validL_parts L t d 1]; rfl
theorem valid_mk (L k n : Int) (s : ByteArray) (ks : List Tm) : (Tm.mk k n s ks).valid L = ((Tm.mk k n s ks).formed L && ks.all (Tm.valid L)) := by
  rw [Tm.valid, Tm.parts_mk]
  show validL L ([(1, Tm.mk k n s ks)] ++ _) = _
  rw [validL_append, validL_kids]
  simp [validL]
theorem groundL_append (l r : List (Nat × Tm)) : groundL (l ++ r) = (groundL l && groundL r) := by simp [groundL]
theorem ground_nums (l : List (Nat × Tm)) : groundL l = decide ((nums l).length = 0) := by
  induction l with
  | nil => rfl
  | cons x l ih =>
    show groundL ([x] ++ l) = decide ((nums ([x] ++ l)).length = 0)
    rw [groundL_append, nums_append, ih, List.length_append]
    unfold groundL nums
    by_cases h : x.2.kind = 1
    · simp [h]
    · simp [h]
theorem foldl_len (xs : List Int) : ((xs.foldl addNew []).length = 0) ↔ xs.length = 0 := by
  constructor
  · intro h
    cases xs with
    | nil => rfl
    | cons x xs =>
      rw [List.foldl_cons, foldl_addNew] at h
      simp [addNew] at h
  · intro h
    rw [List.eq_nil_of_length_eq_zero h]; rfl
theorem ground_vars (T : Tm) : T.ground = decide (T.vars.length = 0) := by
  rw [Tm.ground, ground_nums, Tm.vars, varsL, foldl_addV, decide_eq_decide]
  exact (foldl_len _).symm
theorem ground_seal (n : Int) (s : ByteArray) (T : Tm) : (Tm.mk 4 n s [T]).ground = T.ground := by
  rw [Tm.ground, Tm.ground, ground_nums, ground_nums, Tm.parts_mk, Tm.partss_cons, Tm.partss_nil, List.append_nil]
  show decide ((nums ([(1, Tm.mk 4 n s [T])] ++ _)).length = 0) = _
  rw [nums_append, nums_parts T (1 + 1) 1]
  rfl

theorem check_zero {L : Int} {T : Tm} (h : T.check L = 0) : T.size ≤ 1000 ∧ T.deep ≤ 60 ∧ T.valid L = true := by
  unfold Tm.check at h
  split at h
  · cases h
  · split at h
    · cases h
    · split at h
      · exact ⟨by omega, by omega, by assumption⟩
      · cases h
theorem check_of {L : Int} {T : Tm} (h1 : T.size ≤ 1000) (h2 : T.deep ≤ 60) : T.check L = if T.valid L = true then 0 else 4 := by
  rw [Tm.check, if_neg (by omega), if_neg (by omega)]
theorem deep_le_deeps {t : Tm} : ∀ {ks : List Tm}, t ∈ ks → t.deep ≤ Tm.deeps ks
  | u :: us, h => by
    rw [Tm.deeps_cons]
    rcases List.mem_cons.1 h with rfl | h
    · omega
    · have := deep_le_deeps h; omega
theorem check_kid {L k n : Int} {s : ByteArray} {ks : List Tm} (h : (Tm.mk k n s ks).check L = 0) {t : Tm} (ht : t ∈ ks) : t.check L = 0 := by
  obtain ⟨h1, h2, h3⟩ := check_zero h
  rw [Tm.size_mk] at h1
  rw [Tm.deep_mk] at h2
  have g1 := Tm.size_le_sizes ht
  have g2 := deep_le_deeps ht
  rw [valid_mk] at h3
  simp only [Bool.and_eq_true, List.all_eq_true] at h3
  rw [check_of (by omega) (by omega), if_pos (h3.2 t ht)]

/-- What a seal's check tells. -/
theorem check_seal_big {L n : Int} {T : Tm} (h : 1000 ≤ T.size ∨ 60 ≤ T.deep) : (Tm.mk 4 n (ByteArray.mk #[]) [T]).check L ≠ 0 := by
  intro e
  obtain ⟨h1, h2, _⟩ := check_zero e
  rw [Tm.size_mk, Tm.sizes_cons, Tm.sizes_nil] at h1
  rw [Tm.deep_mk, Tm.deeps_cons, Tm.deeps_nil] at h2
  omega
theorem check_seal {L n : Int} {T : Tm} (h1 : T.size < 1000) (h2 : T.deep < 60) (hv : T.valid L = true) (hn : 0 ≤ n) : (Tm.mk 4 n (ByteArray.mk #[]) [T]).check L = if T.vars.length = 0 ∧ n < L then 0 else 4 := by
  have ht : (ByteArray.mk #[]).toList = [] := empty_toList
  rw [check_of (by rw [Tm.size_mk, Tm.sizes_cons, Tm.sizes_nil]; omega) (by rw [Tm.deep_mk, Tm.deeps_cons, Tm.deeps_nil]; omega), valid_mk, Tm.formed_eq L 4 n _ [T] 1 rfl, ground_seal, ground_vars]
  simp only [List.all_cons, List.all_nil, hv, ht]
  by_cases g1 : T.vars.length = 0 <;> by_cases g2 : n < L <;> simp [g1, g2, hn]
theorem check_pair {L : Int} {T : Tm} (hv : T.valid L = true) : (Tm.mk 3 0 (ByteArray.mk #[102]) [T, T]).check L ≠ 4 := by
  have hs : (ByteArray.mk #[102]).size = 1 := rfl
  have : (Tm.mk 3 0 (ByteArray.mk #[102]) [T, T]).valid L = true := by
    rw [valid_mk, Tm.formed_eq L 3 0 _ [T, T] 2 rfl]
    simp [hv, hs]
  unfold Tm.check
  rw [this]
  split
  · decide
  · split
    · decide
    · decide

theorem seal_term {w : World} {n : Int} {k1 n1 : Int} {s1 : ByteArray} {a1 : Option Addr} {l1 c1 : Nat} {T : Tm} (hn : i64ok n) (h : Has w (.agg #[.int .i64 k1, .int .i64 n1, .string s1, .slice a1 l1 c1]) T) :
    Has (w.alloc (.cells #[.int .i64 k1, .int .i64 n1, .string s1, .slice a1 l1 c1] 24)) (.agg #[.int .i64 4, .int .i64 n, .string (ByteArray.mk #[]), .slice (some ⟨w.heap.size, 0, none⟩) 1 1]) (.mk 4 n (ByteArray.mk #[]) [T]) :=
  (one_term h).term ⟨by decide, by decide⟩ hn (Nat.zero_le _)


end Go.Proofs.Ytlnggaepmclbkaa
