/-
  The row of pairs that Match goes through.
-/
import Derived.Test.YtfjnajngelemkaaZUniF
import Derived.Lib.AppendZerosOnto
namespace Go.Proofs.Ytfjnajngelemkaa
open Go.RowKit Go.Shelf
open Classical
set_option linter.unusedVariables false
set_option linter.unusedSimpArgs false

def IsSl (u : Value) : Prop := ∃ a l c, u = .slice a l c
/-- A row of pairs of slices. -/
def RowP (w : World) (base : Nat) (v : Value) (n : Nat) (xs : List Value) : Prop := ∃ g cap cur, v = .slice (some ⟨g, 0, none⟩) n cap ∧ base ≤ g ∧ w.heap[g]? = some (.cells cur 91 (0, 0)) ∧ n ≤ cap ∧ cap ≤ maxLen ∧ cur.size = cap * 2 ∧ cur.toList.take (n * 2) = xs ∧ xs.length = n * 2 ∧ ∀ u ∈ cur.toList, IsSl u
theorem infoPairs : (Try.prog.info? 91).map (fun i => (i.zero, i.size, i.bytes)) = some (some (.agg #[.slice none 0 0, .slice none 0 0]), 2, 48) := by kernel_rfl
theorem zeros2 (n : Nat) : ∀ u ∈ (Builtin.zeroCells (Value.agg #[.slice none 0 0, .slice none 0 0]).cells n).toList, IsSl u := by
  intro u hu
  obtain ⟨j, hj⟩ := List.getElem?_of_mem hu
  have hsz : (Value.agg #[.slice none 0 0, .slice none 0 0]).cells.size = 2 := rfl
  have hlt := (List.getElem?_eq_some_iff.1 hj).1
  rw [Array.length_toList, size_zeroCells, hsz] at hlt
  simp only [Builtin.zeroCells, hsz, Array.toList_map, List.getElem?_map, Array.toList_range, List.getElem?_range hlt, Option.map_some] at hj
  have h2 : j % 2 = 0 ∨ j % 2 = 1 := by omega
  rcases h2 with e | e <;> rw [e] at hj <;> cases hj <;> exact ⟨none, 0, 0, rfl⟩
theorem run_append_pairs (w : World) (ty : TypeId) (base : Nat) (v : Value) (n : Nat) (xs : List Value) (hown : RowP w base v n xs) (B : Nat) (va vb : Value) (hva : IsSl va) (hvb : IsSl vb) (hr : w.heap[B]? = some (.cells #[va, vb] 91 (0, 0))) (hl : n + 1 ≤ 1000000000000) (hbase : base ≤ w.heap.size) :
    ∃ v' w', (Builtin.append_ #[92, 92] ty #[v, .slice (some ⟨B, 0, none⟩) 1 1]).run Try.prog w = .ok v' w' ∧ RowP w' base v' (n + 1) (xs ++ [va, vb]) ∧ w.grownBy w' v.ownBlock ∧ (v'.ownBlock = v.ownBlock ∨ v'.ownBlock = some w.heap.size) := by
  obtain ⟨i0, hi, hz0, hz1, hz2⟩ := info_parts infoPairs
  have hnews : ∀ j u, [va, vb][j]? = some u → w.cell? ((⟨B, 0, none⟩ : Addr).add j) = some u := by
    intro j u hj
    rw [addr4]
    match j, hj with
    | 0, hj => simp at hj; subst hj; simp [World.cell?, hr]
    | 1, hj => simp at hj; subst hj; simp [World.cell?, hr]
  have h1 : ∀ u ∈ [va, vb], u.oneCell' = true := by
    obtain ⟨a1, l1, c1, rfl⟩ := hva
    obtain ⟨a2, l2, c2, rfl⟩ := hvb
    intro u hu
    simp at hu
    rcases hu with rfl | rfl <;> rfl
  obtain ⟨g, cap, cur, rfl, hbg, hg, hnc, hcm, hcs, htake, hxl, hsl⟩ := hown
  have hxs : ∀ u ∈ xs, IsSl u := fun u hu => hsl u (by rw [← htake] at hu; exact List.mem_of_mem_take hu)
  have hnw : ∀ u ∈ [va, vb], IsSl u := fun u hu => by simp at hu; rcases hu with rfl | rfl <;> assumption
  by_cases hroom : n + 1 ≤ cap
  · have hr := run_append_room (P := Try.prog) w 92 ty 91 i0 Try.underlying92 hi g n cap cur hg ⟨B, 0, none⟩ 1 1 [va, vb] (by rw [hz1]; rfl) hnews h1 hroom (by rw [hz1]; simp; omega)
    rw [hz1] at hr
    refine ⟨_, _, hr, ⟨g, cap, _, rfl, hbg, setRow_heap w g cur _ _ _ hg, hroom, hcm, ?_, ?_, ?_, ?_⟩, ⟨rfl, rfl, rfl, by simp, fun k _ hk => setRow_other w g k _ (fun e => hk (by simp [Value.ownBlock, e]))⟩, Or.inl rfl⟩
    · simp only [List.size_toArray, List.length_append, List.length_take, List.length_drop, Array.length_toList, List.length_cons, List.length_nil]
      omega
    · rw [htake]
      exact List.take_left' (by rw [List.length_append, hxl]; simp; omega)
    · rw [List.length_append, hxl]; simp; omega
    · intro u hu
      simp only [List.mem_append] at hu
      rcases hu with (hu | hu) | hu
      · exact hsl u (List.mem_of_mem_take hu)
      · exact hnw u hu
      · exact hsl u (List.mem_of_mem_drop hu)
  · have holds : ∀ j u, xs[j]? = some u → w.cell? ((⟨g, 0, none⟩ : Addr).add j) = some u := by
      intro j u hu
      rw [← htake, List.getElem?_take] at hu
      split at hu
      · rw [addr4]
        simp only [World.cell?, hg]
        simpa using hu
      · cases hu
    have hr := run_append_grow (P := Try.prog) w 92 ty 91 i0 _ Try.underlying92 hi hz0 ⟨g, 0, none⟩ n cap xs (by rw [hz1]; exact hxl) holds ⟨B, 0, none⟩ 1 1 [va, vb] (by rw [hz1]; rfl) hnews (by omega) (by omega) (growslice_fits (by omega) (by rw [hz2]; omega))
    have hge := grownCap_ge w (n + 1) cap 91
    have hcm' : grownCap w (n + 1) cap 91 ≤ maxLen := grownCap_le_maxLen w (n + 1) cap 91 (by unfold maxLen; omega)
    refine ⟨_, _, hr, ⟨w.heap.size, _, _, rfl, hbase, heap_alloc_new w.drew _, hge, hcm', ?_, ?_, ?_, ?_⟩, ⟨rfl, rfl, rfl, by simp, fun k hk _ => heap_alloc_old w.drew _ k hk⟩, Or.inr rfl⟩
    · simp only [Array.size_append, List.size_toArray, size_zeroCells, hxl, List.length_cons, List.length_nil]
      have h2 : (Value.agg #[.slice none 0 0, .slice none 0 0]).cells.size = 2 := rfl
      rw [h2]
      omega
    · simp only [Array.toList_append]
      exact List.take_left' (by rw [List.length_append, hxl]; simp; omega)
    · rw [List.length_append, hxl]; simp; omega
    · intro u hu
      simp only [Array.toList_append, List.mem_append] at hu
      rcases hu with (hu | hu) | hu
      · exact hxs u hu
      · exact hnw u hu
      · exact zeros2 _ u hu
theorem RowP.later {w w' : World} {base n : Nat} {v : Value} {xs : List Value} (h : RowP w base v n xs) (hk : ∀ b, v.ownBlock = some b → w'.heap[b]? = w.heap[b]?) : RowP w' base v n xs := by
  obtain ⟨g, cap, cur, rfl, hg, hh, r⟩ := h
  exact ⟨g, cap, cur, rfl, hg, (hk g rfl).trans hh, r⟩
theorem RowP.noInts {w : World} {base n g l c : Nat} {a : Option Nat} {xs : List Value} (h : RowP w base (.slice (some ⟨g, 0, none⟩) l c) n xs) : ∀ j x, w.cell? ⟨g, j, none⟩ ≠ some (.int .i64 x) := by
  obtain ⟨g', cap, cur, e, hg, hh, r⟩ := h
  simp only [Value.slice.injEq, Option.some.injEq, Addr.mk.injEq, and_true] at e
  obtain ⟨rfl, -, -⟩ := e
  intro j x e
  simp only [World.cell?, hh] at e
  have e : cur[j]? = some (.int .i64 x) := by simpa using e
  obtain ⟨a, l, c, e'⟩ := r.2.2.2.2.2 (.int .i64 x) (Array.mem_toList_iff.2 (Array.mem_of_getElem? e))
  cases e'

/-- The two lists of each pair, one pair behind the other: the lists' values. -/
def flatP : List (Value × Value) → List Value
  | [] => []
  | p :: r => p.1 :: p.2 :: flatP r
theorem flatP_len : ∀ ps, (flatP ps).length = ps.length * 2
  | [] => rfl
  | p :: r => by simp [flatP, flatP_len r]; omega
theorem flatP_append : ∀ ps qs, flatP (ps ++ qs) = flatP ps ++ flatP qs
  | [], _ => rfl
  | p :: r, qs => by simp [flatP, flatP_append r qs]

abbrev LL := List Tm × List Tm
/-- The pairs that wait, the last lists first. -/
def pend : List LL → List (Tm × Tm)
  | [] => []
  | l :: r => pend r ++ l.1.zip l.2
theorem pend_snoc : ∀ (Ls : List LL) (l : LL), pend (Ls ++ [l]) = l.1.zip l.2 ++ pend Ls
  | [], l => by simp [pend]
  | a :: r, l => by rw [List.cons_append, pend, pend_snoc r l, pend, List.append_assoc]
/-- The row and what its lists are. -/
def RestAt (q : Nat → Prop) (W : World) (base : Nat) (v : Value) (Ls : List LL) : Prop :=
  ∃ ps : List (Value × Value), RowP W base v ps.length (flatP ps) ∧ ps.length = Ls.length ∧ ∀ (i : Nat) (p : Value × Value) (l : LL), ps[i]? = some p → Ls[i]? = some l → TsIn q W p.1 l.1 ∧ TsIn q W p.2 l.2
def OkL (N : Nat) (l : LL) : Prop := l.1.length = l.2.length ∧ (∀ t ∈ l.1, GV N t ∧ t.size ≤ 2000000) ∧ (∀ t ∈ l.2, GV N t ∧ t.size ≤ 2000000)
theorem TsIn.sl {p : Nat → Prop} {W : World} {v : Value} {ks : List Tm} (h : TsIn p W v ks) : IsSl v := by obtain ⟨a, c, rfl, _⟩ := h; exact ⟨_, _, _, rfl⟩

theorem open_kid_size {N : Nat} {T : Tm} {t : Tm} (h : t ∈ (T.openC N).1.kids) : t.size ≤ T.size := by
  cases hw : T.wrapsT with
  | true =>
    rw [openC_pos hw] at h
    have h1 := strip_size (N := N) T 0
    generalize (T.strip Nat.max (lvC N) 0).2 = l at h
    obtain ⟨⟨k, n, s, ks⟩, hC⟩ : ∃ C, (T.strip Nat.max (lvC N) 0).1 = C := ⟨_, rfl⟩
    rw [hC] at h h1
    have h : t ∈ ks.map fun t => putT t (l : Int) := h
    obtain ⟨u, hu, rfl⟩ := List.mem_map.1 h
    have := Tm.size_le_sizes hu
    rw [Tm.size_mk] at h1
    rw [putT, Tm.size_mk, Tm.sizes_cons, Tm.sizes_nil]
    omega
  | false =>
    rw [openC_neg hw] at h
    obtain ⟨k, n, s, ks⟩ := T
    have := Tm.size_le_sizes (show t ∈ ks from h)
    rw [Tm.size_mk]; omega
theorem stp_sizes {N : Nat} {σ : St} {A B : Tm} : ∀ p ∈ (σ.stp N A B).ks, p.1.size ≤ A.size ∧ p.2.size ≤ B.size := by
  unfold St.stp
  split
  · intro p hp; cases hp
  split
  · intro p hp; cases hp
  split
  · intro p hp
    have ha := List.of_mem_zip (a := p.1) (b := p.2) hp
    exact ⟨open_kid_size ha.1, open_kid_size ha.2⟩
  · intro p hp; cases hp
theorem stp_ok {N : Nat} (hN : 1 ≤ N) {σ : St} (hr : σ.Ok) (hg : σ.Gv N) {A B : Tm} (hA : GV N A) (hB : GV N B) (sA : A.size ≤ 2000000) (sB : B.size ≤ 2000000) :
    (σ.stp N (σ.fin A) (σ.fin B)).σ.Gv N ∧ (σ.stp N (σ.fin A) (σ.fin B)).lv < N ∧ OkL N ((σ.stp N (σ.fin A) (σ.fin B)).ks.map Prod.fst, (σ.stp N (σ.fin A) (σ.fin B)).ks.map Prod.snd) := by
  have hG : Good N (N - 1) σ := ⟨hr.ranked, hg, fun x U _ => jC_le hN U⟩
  obtain ⟨h1, h2, h3⟩ := stp_good' hN hG (p := (A, B)) ⟨hA, hB, jC_le hN A, jC_le hN B⟩
  have s1 := fin_size hr A
  have s2 := fin_size hr B
  refine ⟨h1.gv, by have := h2; show (σ.stp N (σ.fin A) (σ.fin B)).lv < N; simp only at this; omega, by simp, fun t ht => ?_, fun t ht => ?_⟩
  · obtain ⟨p, hp, rfl⟩ := List.mem_map.1 ht
    have := (stp_sizes p hp).1
    exact ⟨(h3 p hp).a, by omega⟩
  · obtain ⟨p, hp, rfl⟩ := List.mem_map.1 ht
    have := (stp_sizes p hp).2
    exact ⟨(h3 p hp).b, by omega⟩
theorem zip_unzip : ∀ ks : List (Tm × Tm), (ks.map Prod.fst).zip (ks.map Prod.snd) = ks
  | [] => rfl
  | p :: r => by simp [zip_unzip r]
end Go.Proofs.Ytfjnajngelemkaa
