/-
  What a law of layer 11 keeps while its store turns.
-/
import Derived.Test.YtfifgffcjnnhaaaZUniIn2
namespace Go.Proofs.Ytfifgffcjnnhaaa
open Go.RowKit Go.Shelf
open Classical
set_option linter.unusedVariables false
set_option linter.unusedSimpArgs false

/-- A store and levels, behind a world that stays. -/
structure LW (w2 W : World) (b : Nat) (V L : Value) (lb : Nat) (σ : St) : Prop where
  st : StAt (Oth W b V L) w2.heap.size W b V L σ
  bl : Below w2.heap.size w2 W
  ch : ChainAt W lb 9
  lo : Oth W b V L lb
theorem LW.step {w2 W W' : World} {b lb : Nat} {V L : Value} {σ : St} (h : LW w2 W b V L lb σ) (k : Below W.heap.size W W') : LW w2 W' b V L lb σ :=
  ⟨h.st.step k, h.bl.trans (k.mono h.bl.size), h.ch.below k, h.lo.below k⟩
theorem LW.turn {w2 W W' : World} {b lb : Nat} {V L V' L' : Value} {σ σ' : St} (h : LW w2 W b V L lb σ) (m : Mut w2 b V L W V L → Mut W b V L W' V' L') (hm : Mut W b V L W' V' L') (hs : StAt (Oth W' b V' L') w2.heap.size W' b V' L' σ') : LW w2 W' b V' L' lb σ' :=
  ⟨hs, h.bl.trans (Mut.below h.st hm h.bl.size), h.ch.same (hm.keep lb h.lo).1 hm.size, (hm.keep lb h.lo).2⟩
theorem LW.mut {w2 W W' : World} {b lb : Nat} {V L V' L' : Value} {σ σ' : St} (h : LW w2 W b V L lb σ) (hm : Mut W b V L W' V' L') (hs : StAt (Oth W' b V' L') w2.heap.size W' b V' L' σ') : LW w2 W' b V' L' lb σ' :=
  ⟨hs, h.bl.trans (Mut.below h.st hm h.bl.size), h.ch.same (hm.keep lb h.lo).1 hm.size, (hm.keep lb h.lo).2⟩
theorem LW.term {w2 W : World} {b lb : Nat} {V L : Value} {σ : St} (h : LW w2 W b V L lb σ) {v : Value} {T : Tm} (ht : Has w2 v T) : TmIn (Oth W b V L) W v T :=
  ht.carry (fun c hc => h.bl.block c hc) (fun c hc => Mut.lo h.st h.bl.size hc)
theorem LW.has {w2 W : World} {b lb : Nat} {V L : Value} {σ : St} (h : LW w2 W b V L lb σ) {v : Value} {T : Tm} (ht : Has w2 v T) : Has W v T := oth_has (h.term ht)
theorem LW.box {w2 W : World} {b lb B : Nat} {V L : Value} {σ : St} (h : LW w2 W b V L lb σ) {o : Obj} (hx : w2.heap[B]? = some o) : W.heap[B]? = some o := (h.bl.block B (Array.getElem?_eq_some_iff.1 hx).1).trans hx
theorem LW.done {w w2 W : World} {b lb : Nat} {V L : Value} {σ : St} (h : LW w2 W b V L lb σ) (k : Below w.heap.size w w2) : Below w.heap.size w W := k.trans (h.bl.mono k.size)
/-- A run in a law's store. -/
theorem LW.unify {w2 W : World} {b lb : Nat} {V L : Value} {σ : St} (h : LW w2 W b V L lb σ) (hg : σ.Gv 9) (u v : Value) (A B : Tm) (hu : TmIn (Oth W b V L) W u A) (hv : TmIn (Oth W b V L) W v B) (hgA : GV 9 A) (hgB : GV 9 B) (hs : A.size ≤ 2000000) (ht : B.size ≤ 2000000) :
    Calls Try.prog 14 #[.pointer (some ⟨b, 0, none⟩), .pointer (some ⟨lb, 0, none⟩), u, v] W fun e W' => e = .returned (.tuple #[.bool (run 9 2000 σ [(A, B)] 0).is, .int .i64 ((run 9 2000 σ [(A, B)] 0).lv : Int), .int .i64 (run 9 2000 σ [(A, B)] 0).err]) ∧ ∃ L', LW w2 W' b V L' lb (run 9 2000 σ [(A, B)] 0).σ ∧ Mut W b V L W' V L' := by
  refine (unify_at h.st h.bl.size h.ch h.lo hg u v A B hu hv hgA hgB hs ht).mono ?_
  rintro e W' ⟨rfl, L', hS, hM⟩
  exact ⟨rfl, L', h.mut hM hS, hM⟩
def σ12 : St := (St.mk [] []).fresh 12
theorem σ12_gv (N : Nat) : σ12.Gv N := fun x U h => by
  have h : ([] ++ List.replicate 12 none)[x]? = some (some U) := h
  rw [List.nil_append, List.getElem?_replicate] at h
  split at h <;> cases h
theorem σ12_ok : σ12.Ok := by
  have h0 : (St.mk [] []).Ok := ⟨⟨fun _ => 0, fun x T h => by simp at h⟩, by simp, fun o ho => by simp at ho, List.nodup_nil, fun v => by simp⟩
  exact h0.fresh 12 (by decide)
theorem σ12_get {n : Nat} (h : n < 12) : σ12.vs[n]? = some none := by
  show ([] ++ List.replicate 12 (none : Option Tm))[n]? = some none
  rw [List.nil_append, List.getElem?_replicate, if_pos h]
theorem good12 (N M : Nat) : Good N M σ12 := ⟨σ12_ok.ranked, σ12_gv N, fun x U h => by
  have h : ([] ++ List.replicate 12 none)[x]? = some (some U) := h
  rw [List.nil_append, List.getElem?_replicate] at h
  split at h <;> cases h⟩
theorem gp_any {N : Nat} (hN : 1 ≤ N) {A B : Tm} (hA : GV N A) (hB : GV N B) : ∀ p ∈ [(A, B)], GP N (N - 1) p := fun p hp => by rw [List.mem_singleton.1 hp]; exact ⟨hA, hB, jC_le hN A, jC_le hN B⟩
theorem good_any {N : Nat} (hN : 1 ≤ N) {σ : St} (h : Good N (N - 1) σ) {A B : Tm} (hA : GV N A) (hB : GV N B) (f : Nat) : Good N (N - 1) (run N f σ [(A, B)] 0).σ := (run_good hN f σ _ 0 h (gp_any hN hA hB) (Nat.zero_le _)).1

/-- UnifyOne, apart from memory. -/
theorem one_ghost {A B : Tm} (hA : GV 9 A) (hB : GV 9 B) {σ : St} (hσ : Good 9 8 σ) (hi : (run 9 2000 σ [(A, B)] 0).is = true) {τ : St} (hτ : τ = (run 9 2000 σ [(A, B)] 0).σ) : EV τ A B := by
  subst hτ
  exact (run_one (M := 8) (by decide) 2000 σ [(A, B)] 0 hσ (gp_any (by decide) hA hB)).2 hi (A, B) (by simp)
theorem again_ghost {A B : Tm} (hA : GV 9 A) (hB : GV 9 B) {σ : St} (hσ : Good 9 8 σ) (he : EV σ A B) (h0 : (run 9 2000 σ [(A, B)] 0).err = 0) : (run 9 2000 σ [(A, B)] 0).is = true ∧ (run 9 2000 σ [(A, B)] 0).σ = σ := by
  obtain ⟨h1, h2⟩ := run_again (M := 8) (by decide) 2000 σ [(A, B)] 0 hσ (gp_any (by decide) hA hB) (fun p hp => by rw [List.mem_singleton.1 hp]; exact he)
  rcases h2 with h2 | h2
  · exact ⟨h2.1, h1⟩
  · exact absurd (h2.2.symm.trans h0) (by decide)
theorem full_er {σ : St} {A B : Tm} (he : EV σ A B) (h1 : (σ.fill 60 1000 A).err = 0) (h2 : (σ.fill 60 1000 B).err = 0) : (σ.fill 60 1000 A).tm.er = (σ.fill 60 1000 B).tm.er := by
  obtain ⟨x, hx, hy⟩ := he
  cases hfa : σ.fill 60 1000 A with
  | bad e =>
    rw [hfa] at h1
    have := fill_bads σ 60 1000 A e hfa
    have h1 : e = 0 := h1
    omega
  | ok u l =>
    cases hfb : σ.fill 60 1000 B with
    | bad e =>
      rw [hfb] at h2
      have := fill_bads σ 60 1000 B e hfb
      have h2 : e = 0 := h2
      omega
    | ok u' l' => exact ((fill_ev _ _ _ _ _ hfa).same hx).trans ((fill_ev _ _ _ _ _ hfb).same hy).symm
theorem run_err {N : Nat} : ∀ f σ L lv, (run N f σ L lv).is = true → (run N f σ L lv).err = 0
  | f, σ, [], lv, h => by rw [run_nil]
  | 0, σ, _ :: _, lv, h => by cases h
  | f + 1, σ, p :: r, lv, h => by
    rw [run_succ] at h ⊢
    split
    · rename_i hk
      rw [if_pos hk] at h
      exact run_err f _ _ _ h
    · rename_i hk
      rw [if_neg hk] at h
theorem level_one {A B : Tm} (hA : GV 9 A) (hB : GV 9 B) : (run 9 2000 σ12 [(A, B)] 0).lv ≤ max (A.jC 9 0) (B.jC 9 0) :=
  (run_good (M := max (A.jC 9 0) (B.jC 9 0)) (by decide) 2000 σ12 [(A, B)] 0 (good12 9 _) (fun p hp => by rw [List.mem_singleton.1 hp]; exact ⟨hA, hB, by show A.jC 9 0 ≤ _; omega, by show B.jC 9 0 ≤ _; omega⟩) (Nat.zero_le _)).2
theorem level_lt {σ : St} (hσ : Good 9 8 σ) {A B : Tm} (hA : GV 9 A) (hB : GV 9 B) : (run 9 2000 σ [(A, B)] 0).lv < 9 := by
  have := (run_good (M := 8) (by decide) 2000 σ [(A, B)] 0 hσ (gp_any (N := 9) (by decide) hA hB) (Nat.zero_le _)).2
  omega
end Go.Proofs.Ytfifgffcjnnhaaa

namespace Go.Proofs.Ytfifgffcjnnhaaa
open Go.RowKit Go.Shelf
open Classical
set_option linter.unusedVariables false
set_option linter.unusedSimpArgs false

theorem noV_put {t : Tm} {l : Int} (h : NoV t) : NoV (putT t l) := fun v hv => by
  cases hv with
  | kid ht hv =>
    rw [List.mem_singleton.1 ht] at hv
    exact h v hv
theorem open_nov {N : Nat} {T : Tm} (h : GV N T) (hn : NoV T) : ∀ t ∈ (T.openC N).1.kids, NoV t := by
  cases hw : T.wrapsT with
  | true =>
    rw [openC_pos hw]
    rcases strip_gv h hn.kind 0 with ⟨n, e⟩ | ⟨s, ks, e, h1, h2⟩
    · simp only; rw [e]; intro t ht; cases ht
    · simp only; rw [e]
      intro t ht
      obtain ⟨u, hu, rfl⟩ := List.mem_map.1 (show t ∈ ks.map fun t => putT t ((T.strip Nat.max (lvC N) 0).2 : Nat) from ht)
      exact noV_put (h2 (.inr hn) u hu)
  | false =>
    rw [openC_neg hw]
    obtain ⟨k, n, s, ks⟩ := T
    exact fun t ht => hn.kid ht
theorem swap_zip : ∀ (a b : List Tm), (a.zip b).map Prod.swap = b.zip a
  | [], b => by simp
  | _ :: _, [] => rfl
  | x :: a, y :: b => by simp [swap_zip a b]
def GN (N : Nat) (p : Tm × Tm) : Prop := GV N p.1 ∧ GV N p.2 ∧ NoV p.1 ∧ NoV p.2
theorem stp_ground {N : Nat} (hN : 1 ≤ N) {σ : St} {A B : Tm} (h : GN N (A, B)) : (σ.stp N A B).σ = σ ∧ (σ.stp N B A).σ = σ ∧ (σ.stp N B A).lv = (σ.stp N A B).lv ∧ (σ.stp N B A).ok = (σ.stp N A B).ok ∧ (σ.stp N B A).ks = (σ.stp N A B).ks.map Prod.swap ∧ ∀ q ∈ (σ.stp N A B).ks, GN N q := by
  obtain ⟨hA, hB, nA, nB⟩ := h
  have v1 : ¬ (A.kind = 1 ∨ B.kind = 1) := fun e => e.elim nA.kind nB.kind
  have v2 : ¬ (B.kind = 1 ∨ A.kind = 1) := fun e => e.elim nB.kind nA.kind
  have g1 := open_kids_gv hN hA nA.kind
  have g2 := open_kids_gv hN hB nB.kind
  have g3 := open_nov hA nA
  have g4 := open_nov hB nB
  unfold St.stp
  rw [if_neg v1, if_neg v2]
  by_cases h2 : (A.openC N).1.kind = 2 ∧ (B.openC N).1.kind = 2
  · rw [if_pos h2, if_pos h2.symm]
    refine ⟨rfl, rfl, Nat.max_comm _ _, ?_, rfl, fun q hq => by cases hq⟩
    show decide _ = decide _
    exact decide_eq_decide.2 ⟨Eq.symm, Eq.symm⟩
  have h2' : ¬ ((B.openC N).1.kind = 2 ∧ (A.openC N).1.kind = 2) := fun e => h2 e.symm
  rw [if_neg h2, if_neg h2']
  by_cases h3 : (A.openC N).1.kind = 3 ∧ (B.openC N).1.kind = 3 ∧ (A.openC N).1.name = (B.openC N).1.name ∧ (A.openC N).1.kids.length = (B.openC N).1.kids.length
  · rw [if_pos h3, if_pos ⟨h3.2.1, h3.1, h3.2.2.1.symm, h3.2.2.2.symm⟩]
    refine ⟨rfl, rfl, Nat.max_comm _ _, rfl, (swap_zip _ _).symm, fun q hq => ?_⟩
    have hq : (q.1, q.2) ∈ (A.openC N).1.kids.zip (B.openC N).1.kids := hq
    have h1 := List.of_mem_zip hq
    exact ⟨g1 _ h1.1, g2 _ h1.2, g3 _ h1.1, g4 _ h1.2⟩
  · have h3' : ¬ ((B.openC N).1.kind = 3 ∧ (A.openC N).1.kind = 3 ∧ (B.openC N).1.name = (A.openC N).1.name ∧ (B.openC N).1.kids.length = (A.openC N).1.kids.length) := fun e => h3 ⟨e.2.1, e.1, e.2.2.1.symm, e.2.2.2.symm⟩
    rw [if_neg h3, if_neg h3']
    exact ⟨rfl, rfl, Nat.max_comm _ _, rfl, rfl, fun q hq => by cases hq⟩
theorem run_ground {N : Nat} (hN : 1 ≤ N) : ∀ f σ L lv, (∀ p ∈ L, GN N p) → (run N f σ L lv).σ = σ ∧ run N f σ (L.map Prod.swap) lv = run N f σ L lv
  | f, σ, [], lv, _ => by rw [List.map_nil, run_nil]; exact ⟨rfl, rfl⟩
  | 0, σ, _ :: _, lv, _ => ⟨rfl, rfl⟩
  | f + 1, σ, p :: r, lv, h => by
    obtain ⟨A, B⟩ := p
    have hp := h (A, B) (by simp)
    obtain ⟨e1, e2, e3, e4, e5, e6⟩ := stp_ground (σ := σ) hN hp
    have fA : σ.fin A = A := fin_non hp.2.2.1.kind
    have fB : σ.fin B = B := fin_non hp.2.2.2.kind
    rw [List.map_cons, run_succ, run_succ]
    simp only [Prod.swap, fA, fB]
    rw [e1, e2, e3, e4, e5]
    by_cases hok : (σ.stp N A B).ok = true
    · rw [if_pos hok, if_pos hok]
      have := run_ground hN f σ ((σ.stp N A B).ks ++ r) (max lv (σ.stp N A B).lv) (fun q hq => by
        rcases List.mem_append.1 hq with hq | hq
        · exact e6 q hq
        · exact h q (by simp [hq]))
      rw [List.map_append] at this
      exact this
    · rw [if_neg hok, if_neg hok]
      exact ⟨rfl, rfl⟩
theorem ev_ground {N : Nat} {σ : St} {T : Tm} (h : GV N T) : NoV T → Ev σ T T.er := by
  induction h with
  | var n => intro hn; exact absurd rfl hn.kind
  | int n =>
    intro hn
    rw [Tm.er_else (fun e => absurd e.1 k24)]
    exact .mk (fin_non k21) (fun e => absurd e.1 k24) (by rw [List.length_map]) fun i t u ht => by simp at ht
  | fn s ks h ih =>
    intro hn
    rw [Tm.er_else (fun e => absurd e.1 k34)]
    refine .mk (fin_non k31) (fun e => absurd e.1 k34) (by rw [List.length_map]) fun i t u ht hu => ?_
    rw [List.getElem?_map, ht] at hu
    cases hu
    have hm := List.mem_of_getElem? ht
    exact ih t hm (hn.kid hm)
  | box l t hl h hg ih =>
    intro hn
    rw [Tm.er_wraps]
    exact .sl (fin_non k41) (ih hg)
theorem nov_of_vars {T : Tm} (h : T.vars.length = 0) : NoV T := fun v hv => ground_occ (by rw [ground_vars]; exact decide_eq_true h) v hv
theorem turned_ghost {A B : Tm} (hA : GV 9 A) (hB : GV 9 B) (nA : NoV A) (nB : NoV B) : (run 9 2000 σ12 [(A, B)] 0).σ = σ12 ∧ run 9 2000 σ12 [(B, A)] 0 = run 9 2000 σ12 [(A, B)] 0 ∧
    ((run 9 2000 σ12 [(A, B)] 0).err = 0 → (run 9 2000 σ12 [(A, B)] 0).is = decide (A.er = B.er)) := by
  obtain ⟨h1, h2⟩ := run_ground (N := 9) (by decide) 2000 σ12 [(A, B)] 0 (fun p hp => by rw [List.mem_singleton.1 hp]; exact ⟨hA, hB, nA, nB⟩)
  refine ⟨h1, h2, fun h0 => ?_⟩
  by_cases he : A.er = B.er
  · rw [decide_eq_true he]
    exact (again_ghost hA hB (good12 9 8) ⟨A.er, ev_ground hA nA, he ▸ ev_ground hB nB⟩ h0).1
  · rw [decide_eq_false he]
    cases hi : (run 9 2000 σ12 [(A, B)] 0).is with
    | false => rfl
    | true =>
      obtain ⟨x, hx, hy⟩ := one_ghost hA hB (good12 9 8) hi rfl
      exact absurd (((ev_ground hA nA).same hx).trans ((ev_ground hB nB).same hy).symm) he
theorem own_ghost {A : Tm} (hA : GV 9 A) : (run 9 2000 σ12 [(A, A)] 0).σ = σ12 ∧ ((run 9 2000 σ12 [(A, A)] 0).err = 0 → (run 9 2000 σ12 [(A, A)] 0).is = true) ∧ ((run 9 2000 σ12 [(A, A)] 0).err ≠ 0 → (run 9 2000 σ12 [(A, A)] 0).err = 3) := by
  obtain ⟨h1, h2⟩ := run_again (N := 9) (M := 8) (by decide) 2000 σ12 [(A, A)] 0 (good12 9 8) (gp_any (by decide) hA hA) (fun p hp => by rw [List.mem_singleton.1 hp]; exact EV.refl (good12 9 8).ranked (good12 9 8).gv hA)
  refine ⟨h1, fun h0 => ?_, fun h0 => ?_⟩
  · rcases h2 with h2 | h2
    · exact h2.1
    · exact absurd (h2.2.symm.trans h0) (by decide)
  · rcases h2 with h2 | h2
    · exact absurd h2.2 h0
    · exact h2.2
theorem σ12_tr : σ12.tr.length = 0 := rfl
end Go.Proofs.Ytfifgffcjnnhaaa
