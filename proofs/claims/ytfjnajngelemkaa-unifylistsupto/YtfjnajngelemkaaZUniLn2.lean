/-
  What a law of layer 11 keeps while its store turns.
-/
import Derived.Test.YtfjnajngelemkaaZUniIn2
namespace Go.Proofs.Ytfjnajngelemkaa
open Go.RowKit Go.Shelf
open Classical
set_option linter.unusedVariables false
set_option linter.unusedSimpArgs false

/-- A store and levels, behind a world that stays. -/
structure LW (w2 W : World) (b : Nat) (V L : Value) (lb : Nat) (σ : St) : Prop where
  st : StAt (Oth W b V L) w2.heap.size W b V L σ
  bl : Below w2.heap.size w2 W
  ch : ChainAt W lb 9
  lo : Oth W b V L lb
theorem LW.step {w2 W W' : World} {b lb : Nat} {V L : Value} {σ : St} (h : LW w2 W b V L lb σ) (k : Below W.heap.size W W') : LW w2 W' b V L lb σ :=
  ⟨h.st.step k, h.bl.trans (k.mono h.bl.size), h.ch.below k, h.lo.below k⟩
theorem LW.turn {w2 W W' : World} {b lb : Nat} {V L V' L' : Value} {σ σ' : St} (h : LW w2 W b V L lb σ) (m : Mut w2 b V L W V L → Mut W b V L W' V' L') (hm : Mut W b V L W' V' L') (hs : StAt (Oth W' b V' L') w2.heap.size W' b V' L' σ') : LW w2 W' b V' L' lb σ' :=
  ⟨hs, h.bl.trans (Mut.below h.st hm h.bl.size), h.ch.same (hm.keep lb h.lo).1 hm.size, (hm.keep lb h.lo).2⟩
theorem LW.mut {w2 W W' : World} {b lb : Nat} {V L V' L' : Value} {σ σ' : St} (h : LW w2 W b V L lb σ) (hm : Mut W b V L W' V' L') (hs : StAt (Oth W' b V' L') w2.heap.size W' b V' L' σ') : LW w2 W' b V' L' lb σ' :=
  ⟨hs, h.bl.trans (Mut.below h.st hm h.bl.size), h.ch.same (hm.keep lb h.lo).1 hm.size, (hm.keep lb h.lo).2⟩
theorem LW.term {w2 W : World} {b lb : Nat} {V L : Value} {σ : St} (h : LW w2 W b V L lb σ) {v : Value} {T : Tm} (ht : Has w2 v T) : TmIn (Oth W b V L) W v T :=
  ht.carry (fun c hc => h.bl.block c hc) (fun c hc => Mut.lo h.st h.bl.size hc)
theorem LW.has {w2 W : World} {b lb : Nat} {V L : Value} {σ : St} (h : LW w2 W b V L lb σ) {v : Value} {T : Tm} (ht : Has w2 v T) : Has W v T := oth_has (h.term ht)
theorem LW.box {w2 W : World} {b lb B : Nat} {V L : Value} {σ : St} (h : LW w2 W b V L lb σ) {o : Obj} (hx : w2.heap[B]? = some o) : W.heap[B]? = some o := (h.bl.block B (Array.getElem?_eq_some_iff.1 hx).1).trans hx
theorem LW.done {w w2 W : World} {b lb : Nat} {V L : Value} {σ : St} (h : LW w2 W b V L lb σ) (k : Below w.heap.size w w2) : Below w.heap.size w W := k.trans (h.bl.mono k.size)
/-- A run in a law's store. -/
theorem LW.unify {w2 W : World} {b lb : Nat} {V L : Value} {σ : St} (h : LW w2 W b V L lb σ) (hg : σ.Gv 9) (u v : Value) (A B : Tm) (hu : TmIn (Oth W b V L) W u A) (hv : TmIn (Oth W b V L) W v B) (hgA : GV 9 A) (hgB : GV 9 B) (hs : A.size ≤ 2000000) (ht : B.size ≤ 2000000) :
    Calls Try.prog 17 #[.pointer (some ⟨b, 0, none⟩), .pointer (some ⟨lb, 0, none⟩), u, v] W fun e W' => e = .returned (.tuple #[.bool (run 9 2000 σ [(A, B)] 0).is, .int .i64 ((run 9 2000 σ [(A, B)] 0).lv : Int), .int .i64 (run 9 2000 σ [(A, B)] 0).err]) ∧ ∃ L', LW w2 W' b V L' lb (run 9 2000 σ [(A, B)] 0).σ ∧ Mut W b V L W' V L' := by
  refine (unify_at h.st h.bl.size h.ch h.lo hg u v A B hu hv hgA hgB hs ht).mono ?_
  rintro e W' ⟨rfl, L', hS, hM⟩
  exact ⟨rfl, L', h.mut hM hS, hM⟩
def σ12 : St := (St.mk [] []).fresh 12
theorem σ12_gv (N : Nat) : σ12.Gv N := fun x U h => by
  have h : ([] ++ List.replicate 12 none)[x]? = some (some U) := h
  rw [List.nil_append, List.getElem?_replicate] at h
  split at h <;> cases h
theorem σ12_ok : σ12.Ok := by
  have h0 : (St.mk [] []).Ok := ⟨⟨fun _ => 0, fun x T h => by simp at h⟩, by simp, fun o ho => by simp at ho, List.nodup_nil, fun v => by simp⟩
  exact h0.fresh 12 (by decide)
theorem σ12_get {n : Nat} (h : n < 12) : σ12.vs[n]? = some none := by
  show ([] ++ List.replicate 12 (none : Option Tm))[n]? = some none
  rw [List.nil_append, List.getElem?_replicate, if_pos h]
theorem good12 (N M : Nat) : Good N M σ12 := ⟨σ12_ok.ranked, σ12_gv N, fun x U h => by
  have h : ([] ++ List.replicate 12 none)[x]? = some (some U) := h
  rw [List.nil_append, List.getElem?_replicate] at h
  split at h <;> cases h⟩
theorem gp_any {N : Nat} (hN : 1 ≤ N) {A B : Tm} (hA : GV N A) (hB : GV N B) : ∀ p ∈ [(A, B)], GP N (N - 1) p := fun p hp => by rw [List.mem_singleton.1 hp]; exact ⟨hA, hB, jC_le hN A, jC_le hN B⟩
theorem good_any {N : Nat} (hN : 1 ≤ N) {σ : St} (h : Good N (N - 1) σ) {A B : Tm} (hA : GV N A) (hB : GV N B) (f : Nat) : Good N (N - 1) (run N f σ [(A, B)] 0).σ := (run_good hN f σ _ 0 h (gp_any hN hA hB) (Nat.zero_le _)).1

/-- UnifyOne, apart from memory. -/
theorem one_ghost {A B : Tm} (hA : GV 9 A) (hB : GV 9 B) {σ : St} (hσ : Good 9 8 σ) (hi : (run 9 2000 σ [(A, B)] 0).is = true) {τ : St} (hτ : τ = (run 9 2000 σ [(A, B)] 0).σ) : EV τ A B := by
  subst hτ
  exact (run_one (M := 8) (by decide) 2000 σ [(A, B)] 0 hσ (gp_any (by decide) hA hB)).2 hi (A, B) (by simp)
theorem again_ghost {A B : Tm} (hA : GV 9 A) (hB : GV 9 B) {σ : St} (hσ : Good 9 8 σ) (he : EV σ A B) (h0 : (run 9 2000 σ [(A, B)] 0).err = 0) : (run 9 2000 σ [(A, B)] 0).is = true ∧ (run 9 2000 σ [(A, B)] 0).σ = σ := by
  obtain ⟨h1, h2⟩ := run_again (M := 8) (by decide) 2000 σ [(A, B)] 0 hσ (gp_any (by decide) hA hB) (fun p hp => by rw [List.mem_singleton.1 hp]; exact he)
  rcases h2 with h2 | h2
  · exact ⟨h2.1, h1⟩
  · exact absurd (h2.2.symm.trans h0) (by decide)
theorem full_er {σ : St} {A B : Tm} (he : EV σ A B) (h1 : (σ.fill 60 1000 A).err = 0) (h2 : (σ.fill 60 1000 B).err = 0) : (σ.fill 60 1000 A).tm.er = (σ.fill 60 1000 B).tm.er := by
  obtain ⟨x, hx, hy⟩ := he
  cases hfa : σ.fill 60 1000 A with
  | bad e =>
    rw [hfa] at h1
    have := fill_bads σ 60 1000 A e hfa
    have h1 : e = 0 := h1
    omega
  | ok u l =>
    cases hfb : σ.fill 60 1000 B with
    | bad e =>
      rw [hfb] at h2
      have := fill_bads σ 60 1000 B e hfb
      have h2 : e = 0 := h2
      omega
    | ok u' l' => exact ((fill_ev _ _ _ _ _ hfa).same hx).trans ((fill_ev _ _ _ _ _ hfb).same hy).symm
theorem run_err {N : Nat} : ∀ f σ L lv, (run N f σ L lv).is = true → (run N f σ L lv).err = 0
  | f, σ, [], lv, h => by rw [run_nil]
  | 0, σ, _ :: _, lv, h => by cases h
  | f + 1, σ, p :: r, lv, h => by
    rw [run_succ] at h ⊢
    split
    · rename_i hk
      rw [if_pos hk] at h
      exact run_err f _ _ _ h
    · rename_i hk
      rw [if_neg hk] at h
theorem level_one {A B : Tm} (hA : GV 9 A) (hB : GV 9 B) : (run 9 2000 σ12 [(A, B)] 0).lv ≤ max (A.jC 9 0) (B.jC 9 0) :=
  (run_good (M := max (A.jC 9 0) (B.jC 9 0)) (by decide) 2000 σ12 [(A, B)] 0 (good12 9 _) (fun p hp => by rw [List.mem_singleton.1 hp]; exact ⟨hA, hB, by show A.jC 9 0 ≤ _; omega, by show B.jC 9 0 ≤ _; omega⟩) (Nat.zero_le _)).2
theorem level_lt {σ : St} (hσ : Good 9 8 σ) {A B : Tm} (hA : GV 9 A) (hB : GV 9 B) : (run 9 2000 σ [(A, B)] 0).lv < 9 := by
  have := (run_good (M := 8) (by decide) 2000 σ [(A, B)] 0 hσ (gp_any (N := 9) (by decide) hA hB) (Nat.zero_le _)).2
  omega
end Go.Proofs.Ytfjnajngelemkaa

namespace Go.Proofs.Ytfjnajngelemkaa
open Go.RowKit Go.Shelf
open Classical
set_option linter.unusedVariables false
set_option linter.unusedSimpArgs false

/-- The blocks of one store are others' to the other one. -/
structure Apart (W : World) (b : Nat) (V L : Value) (bt : Nat) (Vt Lt : Value) : Prop where
  box : Oth W b V L bt
  rV : ∀ k, Vt.ownBlock = some k → Oth W b V L k
  rL : ∀ k, Lt.ownBlock = some k → Oth W b V L k
theorem Apart.step {W W' : World} {b bt : Nat} {V L Vt Lt : Value} (h : Apart W b V L bt Vt Lt) (k : Below W.heap.size W W') : Apart W' b V L bt Vt Lt := ⟨h.box.below k, fun c hc => (h.rV c hc).below k, fun c hc => (h.rL c hc).below k⟩
theorem Apart.turn {W W' : World} {b bt : Nat} {V L V' L' Vt Lt : Value} (h : Apart W b V L bt Vt Lt) (m : Mut W b V L W' V' L') : Apart W' b V' L' bt Vt Lt := ⟨(m.keep _ h.box).2, fun c hc => (m.keep _ (h.rV c hc)).2, fun c hc => (m.keep _ (h.rL c hc)).2⟩
/-- A store in which nothing is bound stays, while another one turns. -/
theorem LW.beside {w2 W W' : World} {b bt lb : Nat} {V L V' L' Vt Lt : Value} {σ τ : St} (h : LW w2 W bt Vt Lt lb τ) (ha : Apart W b V L bt Vt Lt) (hm : Mut W b V L W' V' L') (hs : LW w2 W' b V' L' lb σ) (hn : ∀ o ∈ τ.vs, o = none) : LW w2 W' bt Vt Lt lb τ := by
  obtain ⟨xs, h1, h2⟩ := h.st.rV
  refine ⟨⟨(hm.keep bt ha.box).1.trans h.st.box, h.st.lo, fun k hk => hk, ⟨xs, h1.later fun c hc => (hm.keep c (ha.rV c hc)).1, h2.len, fun i x o hx ho => ⟨(h2.at_ i x o hx ho).1, fun U hU => ?_⟩⟩, h.st.rL.later fun c hc => (hm.keep c (ha.rL c hc)).1, h.st.ok⟩, hs.bl, hs.ch, ⟨hs.lo.1, h.lo.2⟩⟩
  have := hn o (List.mem_of_getElem? ho)
  rw [this] at hU; cases hU
theorem σ12_none : ∀ o ∈ σ12.vs, o = none := fun o ho => by
  have ho : o ∈ [] ++ List.replicate 12 (none : Option Tm) := ho
  rw [List.nil_append] at ho
  exact (List.mem_replicate.1 ho).2
/-- A second store, behind a first one. -/
theorem LW.second {w2 w6 w7 : World} {b bt lb : Nat} {V L Vt Lt : Value} {σ τ : St} (h : LW w2 w6 b V L lb σ) (hS : StAt (Oth w7 bt Vt Lt) w6.heap.size w7 bt Vt Lt τ) (hb : Below w6.heap.size w6 w7) : LW w2 w7 bt Vt Lt lb τ ∧ LW w2 w7 b V L lb σ ∧ Apart w7 b V L bt Vt Lt ∧ Apart w7 bt Vt Lt b V L := by
  have h' := h.step hb
  have hlt : ∀ k, w6.heap.size ≤ k → k < w7.heap.size → Oth w7 b V L k := fun k h1 h2 => by
    obtain ⟨xs, r1, _⟩ := h.st.rV
    refine ⟨h2, fun e => ?_, fun e => ?_, fun e => ?_⟩
    · have := h.st.lt; omega
    · have := (r1.lt k e).2; omega
    · have := (h.st.rL.lt k e).2; omega
  refine ⟨⟨hS.base h.bl.size, h'.bl, h'.ch, Mut.lo hS hb.size h.lo.1⟩, h', ⟨hlt bt hS.lo hS.lt, fun k hk => ?_, fun k hk => ?_⟩, ⟨Mut.lo hS hb.size h.st.lt, fun k hk => ?_, fun k hk => ?_⟩⟩
  · obtain ⟨xs, r1, _⟩ := hS.rV
    have := r1.lt k hk; exact hlt k this.1 this.2
  · have := hS.rL.lt k hk; exact hlt k this.1 this.2
  · obtain ⟨xs, r1, _⟩ := h.st.rV
    exact Mut.lo hS hb.size (r1.lt k hk).2
  · exact Mut.lo hS hb.size (h.st.rL.lt k hk).2

/-- More pairs that may be looked at: the same, if there was room. -/
theorem run_more {N : Nat} : ∀ f σ L lv, (run N f σ L lv).err ≠ 3 → run N (f + 1) σ L lv = run N f σ L lv
  | f, σ, [], lv, _ => by rw [run_nil, run_nil]
  | 0, σ, _ :: _, lv, h => absurd rfl h
  | f + 1, σ, p :: r, lv, h => by
    rw [run_succ] at h
    rw [run_succ N (f + 1), run_succ N f]
    split
    · rename_i hk
      rw [if_pos hk] at h
      exact run_more f _ _ _ h
    · rfl
def fTwo (A B : Tm) : Tm := .mk 3 0 (ByteArray.mk #[102]) [A, B]
theorem run_two (A B C D : Tm) : run 9 2000 σ12 [(fTwo A B, fTwo C D)] 0 = run 9 1999 σ12 [(A, C), (B, D)] 0 := by
  rw [show (2000 : Nat) = 1999 + 1 from rfl, run_succ]
  have hs : σ12.stp 9 (σ12.fin (fTwo A B)) (σ12.fin (fTwo C D)) = ⟨[(A, C), (B, D)], 0, true, σ12⟩ := stp_fun σ12 (ByteArray.mk #[102]) [A, B] [C, D] rfl
  rw [hs]
  rfl
/-- UnifyLists, apart from memory. -/
theorem lists2_ghost (A B C D : Tm) (h : (run 9 2000 σ12 [(fTwo A B, fTwo C D)] 0).err = 0) : run 9 2000 σ12 [(A, C), (B, D)] 0 = run 9 2000 σ12 [(fTwo A B, fTwo C D)] 0 := by
  rw [run_two] at h ⊢
  exact run_more 1999 σ12 [(A, C), (B, D)] 0 (by rw [h]; decide)
theorem fTwo_gv {A B : Tm} (hA : GV 9 A) (hB : GV 9 B) : GV 9 (fTwo A B) := .fn _ _ fun t ht => by
  rcases List.mem_cons.1 ht with rfl | ht
  · exact hA
  · rw [List.mem_singleton.1 ht]; exact hB
theorem fTwo_size (A B : Tm) : (fTwo A B).size = 1 + (A.size + B.size) := by unfold fTwo; rw [Tm.size_mk, Tm.sizes_cons, Tm.sizes_cons, Tm.sizes_nil]; omega
end Go.Proofs.Ytfjnajngelemkaa
