/-
  What a law of layer 11 keeps while its store turns.
-/
import Derived.Test.YtfjnajngelemkaaZUniIn2
namespace Go.Proofs.Ytfjnajngelemkaa
open Go.RowKit Go.Shelf
open Classical
set_option linter.unusedVariables false
set_option linter.unusedSimpArgs false

/-- A store and levels, behind a world that stays. -/
structure LW (w2 W : World) (b : Nat) (V L : Value) (lb : Nat) (σ : St) : Prop where
  st : StAt (Oth W b V L) w2.heap.size W b V L σ
  bl : Below w2.heap.size w2 W
  ch : ChainAt W lb 9
  lo : Oth W b V L lb
theorem LW.step {w2 W W' : World} {b lb : Nat} {V L : Value} {σ : St} (h : LW w2 W b V L lb σ) (k : Below W.heap.size W W') : LW w2 W' b V L lb σ :=
  ⟨h.st.step k, h.bl.trans (k.mono h.bl.size), h.ch.below k, h.lo.below k⟩
theorem LW.turn {w2 W W' : World} {b lb : Nat} {V L V' L' : Value} {σ σ' : St} (h : LW w2 W b V L lb σ) (m : Mut w2 b V L W V L → Mut W b V L W' V' L') (hm : Mut W b V L W' V' L') (hs : StAt (Oth W' b V' L') w2.heap.size W' b V' L' σ') : LW w2 W' b V' L' lb σ' :=
  ⟨hs, h.bl.trans (Mut.below h.st hm h.bl.size), h.ch.same (hm.keep lb h.lo).1 hm.size, (hm.keep lb h.lo).2⟩
theorem LW.mut {w2 W W' : World} {b lb : Nat} {V L V' L' : Value} {σ σ' : St} (h : LW w2 W b V L lb σ) (hm : Mut W b V L W' V' L') (hs : StAt (Oth W' b V' L') w2.heap.size W' b V' L' σ') : LW w2 W' b V' L' lb σ' :=
  ⟨hs, h.bl.trans (Mut.below h.st hm h.bl.size), h.ch.same (hm.keep lb h.lo).1 hm.size, (hm.keep lb h.lo).2⟩
theorem LW.term {w2 W : World} {b lb : Nat} {V L : Value} {σ : St} (h : LW w2 W b V L lb σ) {v : Value} {T : Tm} (ht : Has w2 v T) : TmIn (Oth W b V L) W v T :=
  ht.carry (fun c hc => h.bl.block c hc) (fun c hc => Mut.lo h.st h.bl.size hc)
theorem LW.has {w2 W : World} {b lb : Nat} {V L : Value} {σ : St} (h : LW w2 W b V L lb σ) {v : Value} {T : Tm} (ht : Has w2 v T) : Has W v T := oth_has (h.term ht)
theorem LW.box {w2 W : World} {b lb B : Nat} {V L : Value} {σ : St} (h : LW w2 W b V L lb σ) {o : Obj} (hx : w2.heap[B]? = some o) : W.heap[B]? = some o := (h.bl.block B (Array.getElem?_eq_some_iff.1 hx).1).trans hx
theorem LW.done {w w2 W : World} {b lb : Nat} {V L : Value} {σ : St} (h : LW w2 W b V L lb σ) (k : Below w.heap.size w w2) : Below w.heap.size w W := k.trans (h.bl.mono k.size)
/-- A run in a law's store. -/
theorem LW.unify {w2 W : World} {b lb : Nat} {V L : Value} {σ : St} (h : LW w2 W b V L lb σ) (hg : σ.Gv 9) (u v : Value) (A B : Tm) (hu : TmIn (Oth W b V L) W u A) (hv : TmIn (Oth W b V L) W v B) (hgA : GV 9 A) (hgB : GV 9 B) (hs : A.size ≤ 2000000) (ht : B.size ≤ 2000000) :
    Calls Try.prog 17 #[.pointer (some ⟨b, 0, none⟩), .pointer (some ⟨lb, 0, none⟩), u, v] W fun e W' => e = .returned (.tuple #[.bool (run 9 2000 σ [(A, B)] 0).is, .int .i64 ((run 9 2000 σ [(A, B)] 0).lv : Int), .int .i64 (run 9 2000 σ [(A, B)] 0).err]) ∧ ∃ L', LW w2 W' b V L' lb (run 9 2000 σ [(A, B)] 0).σ ∧ Mut W b V L W' V L' := by
  refine (unify_at h.st h.bl.size h.ch h.lo hg u v A B hu hv hgA hgB hs ht).mono ?_
  rintro e W' ⟨rfl, L', hS, hM⟩
  exact ⟨rfl, L', h.mut hM hS, hM⟩
def σ12 : St := (St.mk [] []).fresh 12
theorem σ12_gv (N : Nat) : σ12.Gv N := fun x U h => by
  have h : ([] ++ List.replicate 12 none)[x]? = some (some U) := h
  rw [List.nil_append, List.getElem?_replicate] at h
  split at h <;> cases h
theorem σ12_ok : σ12.Ok := by
  have h0 : (St.mk [] []).Ok := ⟨⟨fun _ => 0, fun x T h => by simp at h⟩, by simp, fun o ho => by simp at ho, List.nodup_nil, fun v => by simp⟩
  exact h0.fresh 12 (by decide)
theorem σ12_get {n : Nat} (h : n < 12) : σ12.vs[n]? = some none := by
  show ([] ++ List.replicate 12 (none : Option Tm))[n]? = some none
  rw [List.nil_append, List.getElem?_replicate, if_pos h]
theorem good12 (N M : Nat) : Good N M σ12 := ⟨σ12_ok.ranked, σ12_gv N, fun x U h => by
  have h : ([] ++ List.replicate 12 none)[x]? = some (some U) := h
  rw [List.nil_append, List.getElem?_replicate] at h
  split at h <;> cases h⟩
theorem gp_any {N : Nat} (hN : 1 ≤ N) {A B : Tm} (hA : GV N A) (hB : GV N B) : ∀ p ∈ [(A, B)], GP N (N - 1) p := fun p hp => by rw [List.mem_singleton.1 hp]; exact ⟨hA, hB, jC_le hN A, jC_le hN B⟩
theorem good_any {N : Nat} (hN : 1 ≤ N) {σ : St} (h : Good N (N - 1) σ) {A B : Tm} (hA : GV N A) (hB : GV N B) (f : Nat) : Good N (N - 1) (run N f σ [(A, B)] 0).σ := (run_good hN f σ _ 0 h (gp_any hN hA hB) (Nat.zero_le _)).1

/-- UnifyOne, apart from memory. -/
theorem one_ghost {A B : Tm} (hA : GV 9 A) (hB : GV 9 B) {σ : St} (hσ : Good 9 8 σ) (hi : (run 9 2000 σ [(A, B)] 0).is = true) {τ : St} (hτ : τ = (run 9 2000 σ [(A, B)] 0).σ) : EV τ A B := by
  subst hτ
  exact (run_one (M := 8) (by decide) 2000 σ [(A, B)] 0 hσ (gp_any (by decide) hA hB)).2 hi (A, B) (by simp)
theorem again_ghost {A B : Tm} (hA : GV 9 A) (hB : GV 9 B) {σ : St} (hσ : Good 9 8 σ) (he : EV σ A B) (h0 : (run 9 2000 σ [(A, B)] 0).err = 0) : (run 9 2000 σ [(A, B)] 0).is = true ∧ (run 9 2000 σ [(A, B)] 0).σ = σ := by
  obtain ⟨h1, h2⟩ := run_again (M := 8) (by decide) 2000 σ [(A, B)] 0 hσ (gp_any (by decide) hA hB) (fun p hp => by rw [List.mem_singleton.1 hp]; exact he)
  rcases h2 with h2 | h2
  · exact ⟨h2.1, h1⟩
  · exact absurd (h2.2.symm.trans h0) (by decide)
theorem full_er {σ : St} {A B : Tm} (he : EV σ A B) (h1 : (σ.fill 60 1000 A).err = 0) (h2 : (σ.fill 60 1000 B).err = 0) : (σ.fill 60 1000 A).tm.er = (σ.fill 60 1000 B).tm.er := by
  obtain ⟨x, hx, hy⟩ := he
  cases hfa : σ.fill 60 1000 A with
  | bad e =>
    rw [hfa] at h1
    have := fill_bads σ 60 1000 A e hfa
    have h1 : e = 0 := h1
    omega
  | ok u l =>
    cases hfb : σ.fill 60 1000 B with
    | bad e =>
      rw [hfb] at h2
      have := fill_bads σ 60 1000 B e hfb
      have h2 : e = 0 := h2
      omega
    | ok u' l' => exact ((fill_ev _ _ _ _ _ hfa).same hx).trans ((fill_ev _ _ _ _ _ hfb).same hy).symm
theorem run_err {N : Nat} : ∀ f σ L lv, (run N f σ L lv).is = true → (run N f σ L lv).err = 0
  | f, σ, [], lv, h => by rw [run_nil]
  | 0, σ, _ :: _, lv, h => by cases h
  | f + 1, σ, p :: r, lv, h => by
    rw [run_succ] at h ⊢
    split
    · rename_i hk
      rw [if_pos hk] at h
      exact run_err f _ _ _ h
    · rename_i hk
      rw [if_neg hk] at h
theorem level_one {A B : Tm} (hA : GV 9 A) (hB : GV 9 B) : (run 9 2000 σ12 [(A, B)] 0).lv ≤ max (A.jC 9 0) (B.jC 9 0) :=
  (run_good (M := max (A.jC 9 0) (B.jC 9 0)) (by decide) 2000 σ12 [(A, B)] 0 (good12 9 _) (fun p hp => by rw [List.mem_singleton.1 hp]; exact ⟨hA, hB, by show A.jC 9 0 ≤ _; omega, by show B.jC 9 0 ≤ _; omega⟩) (Nat.zero_le _)).2
theorem level_lt {σ : St} (hσ : Good 9 8 σ) {A B : Tm} (hA : GV 9 A) (hB : GV 9 B) : (run 9 2000 σ [(A, B)] 0).lv < 9 := by
  have := (run_good (M := 8) (by decide) 2000 σ [(A, B)] 0 hσ (gp_any (N := 9) (by decide) hA hB) (Nat.zero_le _)).2
  omega
end Go.Proofs.Ytfjnajngelemkaa

namespace Go.Proofs.Ytfjnajngelemkaa
open Go.RowKit Go.Shelf
open Classical
set_option linter.unusedVariables false
set_option linter.unusedSimpArgs false

theorem σ12_val (T : Tm) : σ12.val T = none := by
  cases h : σ12.val T with
  | none => rfl
  | some U =>
    obtain ⟨_, x, _, hx⟩ := St.val_some h
    have hx : ([] ++ List.replicate 12 none)[x]? = some (some U) := hx
    rw [List.nil_append, List.getElem?_replicate] at hx
    split at hx <;> cases hx
theorem σ12_fin (T : Tm) : σ12.fin T = T := St.fin_free (σ12_val T)
theorem bindE_12 {k : Nat} (hk : k < 12) (T : Tm) : σ12.bindE (k : Int) T = if Met σ12 (k : Int) T then 4 else 0 := by
  have hlt := (List.getElem?_eq_some_iff.1 (σ12_get hk)).1
  unfold St.bindE
  rw [if_neg (fun e => e ⟨by omega, by omega⟩), if_neg (fun e => by obtain ⟨U, hU⟩ := e; rw [St.look_nat, σ12_get hk] at hU; cases hU)]
/-- UnifyVars, apart from memory. -/
theorem vars_ghost {k : Nat} (hk : k < 12) (T : Tm) : (run 9 2000 σ12 [(exX k, T)] 0).err = 0 ∧ (run 9 2000 σ12 [(exX k, T)] 0).lv = 0 ∧
    ((T.kind = 1 ∧ T.num = (k : Int)) → (run 9 2000 σ12 [(exX k, T)] 0).is = true) ∧ (¬ (T.kind = 1 ∧ T.num = (k : Int)) → (run 9 2000 σ12 [(exX k, T)] 0).is = !decide (Met σ12 (k : Int) T) ∧ (¬ Met σ12 (k : Int) T → (run 9 2000 σ12 [(exX k, T)] 0).σ.tr.length = 1)) := by
  have hs : σ12.stp 9 (σ12.fin (exX k)) (σ12.fin T) = ⟨[], 0, (σ12.link (exX k) T).1, (σ12.link (exX k) T).2⟩ := by
    rw [σ12_fin, σ12_fin]
    unfold St.stp
    rw [if_pos (.inl rfl)]
  rw [run_succ, hs]
  by_cases ho : T.kind = 1 ∧ T.num = (k : Int)
  · have hl : σ12.link (exX k) T = (true, σ12) := link_yes ⟨rfl, ho.1, ho.2.symm⟩
    rw [hl, if_pos rfl]
    simp only [List.nil_append]
    rw [run_nil]
    exact ⟨rfl, rfl, fun _ => rfl, fun h => absurd ho h⟩
  · have hl : σ12.link (exX k) T = (decide (σ12.bindE (k : Int) T = 0), σ12.bnd (k : Int) T) := link_a (A := exX k) (fun e => ho ⟨e.2.1, e.2.2.symm⟩) rfl
    rw [hl, bindE_12 hk]
    by_cases hM : Met σ12 (k : Int) T
    · rw [if_pos hM, if_neg (show ¬ decide ((4 : Int) = 0) = true by decide)]
      exact ⟨rfl, rfl, fun h => absurd h ho, fun _ => ⟨by rw [decide_eq_true hM]; rfl, fun h => absurd hM h⟩⟩
    · rw [if_neg hM, if_pos (show decide ((0 : Int) = 0) = true by decide)]
      simp only [List.nil_append]
      rw [run_nil]
      refine ⟨rfl, rfl, fun _ => rfl, fun _ => ⟨by rw [decide_eq_false hM]; rfl, fun _ => ?_⟩⟩
      unfold St.bnd
      rw [bindE_12 hk, if_neg hM, if_pos rfl]
      rfl
end Go.Proofs.Ytfjnajngelemkaa
