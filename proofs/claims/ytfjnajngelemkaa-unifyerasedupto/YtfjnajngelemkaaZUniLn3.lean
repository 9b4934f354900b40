/-
  What a law of layer 11 keeps while its store turns.
-/
import Derived.Test.YtfjnajngelemkaaZUniIn2
namespace Go.Proofs.Ytfjnajngelemkaa
open Go.RowKit Go.Shelf
open Classical
set_option linter.unusedVariables false
set_option linter.unusedSimpArgs false

/-- A store and levels, behind a world that stays. -/
structure LW (w2 W : World) (b : Nat) (V L : Value) (lb : Nat) (σ : St) : Prop where
  st : StAt (Oth W b V L) w2.heap.size W b V L σ
  bl : Below w2.heap.size w2 W
  ch : ChainAt W lb 9
  lo : Oth W b V L lb
theorem LW.step {w2 W W' : World} {b lb : Nat} {V L : Value} {σ : St} (h : LW w2 W b V L lb σ) (k : Below W.heap.size W W') : LW w2 W' b V L lb σ :=
  ⟨h.st.step k, h.bl.trans (k.mono h.bl.size), h.ch.below k, h.lo.below k⟩
theorem LW.turn {w2 W W' : World} {b lb : Nat} {V L V' L' : Value} {σ σ' : St} (h : LW w2 W b V L lb σ) (m : Mut w2 b V L W V L → Mut W b V L W' V' L') (hm : Mut W b V L W' V' L') (hs : StAt (Oth W' b V' L') w2.heap.size W' b V' L' σ') : LW w2 W' b V' L' lb σ' :=
  ⟨hs, h.bl.trans (Mut.below h.st hm h.bl.size), h.ch.same (hm.keep lb h.lo).1 hm.size, (hm.keep lb h.lo).2⟩
theorem LW.mut {w2 W W' : World} {b lb : Nat} {V L V' L' : Value} {σ σ' : St} (h : LW w2 W b V L lb σ) (hm : Mut W b V L W' V' L') (hs : StAt (Oth W' b V' L') w2.heap.size W' b V' L' σ') : LW w2 W' b V' L' lb σ' :=
  ⟨hs, h.bl.trans (Mut.below h.st hm h.bl.size), h.ch.same (hm.keep lb h.lo).1 hm.size, (hm.keep lb h.lo).2⟩
theorem LW.term {w2 W : World} {b lb : Nat} {V L : Value} {σ : St} (h : LW w2 W b V L lb σ) {v : Value} {T : Tm} (ht : Has w2 v T) : TmIn (Oth W b V L) W v T :=
  ht.carry (fun c hc => h.bl.block c hc) (fun c hc => Mut.lo h.st h.bl.size hc)
theorem LW.has {w2 W : World} {b lb : Nat} {V L : Value} {σ : St} (h : LW w2 W b V L lb σ) {v : Value} {T : Tm} (ht : Has w2 v T) : Has W v T := oth_has (h.term ht)
theorem LW.box {w2 W : World} {b lb B : Nat} {V L : Value} {σ : St} (h : LW w2 W b V L lb σ) {o : Obj} (hx : w2.heap[B]? = some o) : W.heap[B]? = some o := (h.bl.block B (Array.getElem?_eq_some_iff.1 hx).1).trans hx
theorem LW.done {w w2 W : World} {b lb : Nat} {V L : Value} {σ : St} (h : LW w2 W b V L lb σ) (k : Below w.heap.size w w2) : Below w.heap.size w W := k.trans (h.bl.mono k.size)
/-- A run in a law's store. -/
theorem LW.unify {w2 W : World} {b lb : Nat} {V L : Value} {σ : St} (h : LW w2 W b V L lb σ) (hg : σ.Gv 9) (u v : Value) (A B : Tm) (hu : TmIn (Oth W b V L) W u A) (hv : TmIn (Oth W b V L) W v B) (hgA : GV 9 A) (hgB : GV 9 B) (hs : A.size ≤ 2000000) (ht : B.size ≤ 2000000) :
    Calls Try.prog 17 #[.pointer (some ⟨b, 0, none⟩), .pointer (some ⟨lb, 0, none⟩), u, v] W fun e W' => e = .returned (.tuple #[.bool (run 9 2000 σ [(A, B)] 0).is, .int .i64 ((run 9 2000 σ [(A, B)] 0).lv : Int), .int .i64 (run 9 2000 σ [(A, B)] 0).err]) ∧ ∃ L', LW w2 W' b V L' lb (run 9 2000 σ [(A, B)] 0).σ ∧ Mut W b V L W' V L' := by
  refine (unify_at h.st h.bl.size h.ch h.lo hg u v A B hu hv hgA hgB hs ht).mono ?_
  rintro e W' ⟨rfl, L', hS, hM⟩
  exact ⟨rfl, L', h.mut hM hS, hM⟩
def σ12 : St := (St.mk [] []).fresh 12
theorem σ12_gv (N : Nat) : σ12.Gv N := fun x U h => by
  have h : ([] ++ List.replicate 12 none)[x]? = some (some U) := h
  rw [List.nil_append, List.getElem?_replicate] at h
  split at h <;> cases h
theorem σ12_ok : σ12.Ok := by
  have h0 : (St.mk [] []).Ok := ⟨⟨fun _ => 0, fun x T h => by simp at h⟩, by simp, fun o ho => by simp at ho, List.nodup_nil, fun v => by simp⟩
  exact h0.fresh 12 (by decide)
theorem σ12_get {n : Nat} (h : n < 12) : σ12.vs[n]? = some none := by
  show ([] ++ List.replicate 12 (none : Option Tm))[n]? = some none
  rw [List.nil_append, List.getElem?_replicate, if_pos h]
theorem good12 (N M : Nat) : Good N M σ12 := ⟨σ12_ok.ranked, σ12_gv N, fun x U h => by
  have h : ([] ++ List.replicate 12 none)[x]? = some (some U) := h
  rw [List.nil_append, List.getElem?_replicate] at h
  split at h <;> cases h⟩
theorem gp_any {N : Nat} (hN : 1 ≤ N) {A B : Tm} (hA : GV N A) (hB : GV N B) : ∀ p ∈ [(A, B)], GP N (N - 1) p := fun p hp => by rw [List.mem_singleton.1 hp]; exact ⟨hA, hB, jC_le hN A, jC_le hN B⟩
theorem good_any {N : Nat} (hN : 1 ≤ N) {σ : St} (h : Good N (N - 1) σ) {A B : Tm} (hA : GV N A) (hB : GV N B) (f : Nat) : Good N (N - 1) (run N f σ [(A, B)] 0).σ := (run_good hN f σ _ 0 h (gp_any hN hA hB) (Nat.zero_le _)).1

/-- UnifyOne, apart from memory. -/
theorem one_ghost {A B : Tm} (hA : GV 9 A) (hB : GV 9 B) {σ : St} (hσ : Good 9 8 σ) (hi : (run 9 2000 σ [(A, B)] 0).is = true) {τ : St} (hτ : τ = (run 9 2000 σ [(A, B)] 0).σ) : EV τ A B := by
  subst hτ
  exact (run_one (M := 8) (by decide) 2000 σ [(A, B)] 0 hσ (gp_any (by decide) hA hB)).2 hi (A, B) (by simp)
theorem again_ghost {A B : Tm} (hA : GV 9 A) (hB : GV 9 B) {σ : St} (hσ : Good 9 8 σ) (he : EV σ A B) (h0 : (run 9 2000 σ [(A, B)] 0).err = 0) : (run 9 2000 σ [(A, B)] 0).is = true ∧ (run 9 2000 σ [(A, B)] 0).σ = σ := by
  obtain ⟨h1, h2⟩ := run_again (M := 8) (by decide) 2000 σ [(A, B)] 0 hσ (gp_any (by decide) hA hB) (fun p hp => by rw [List.mem_singleton.1 hp]; exact he)
  rcases h2 with h2 | h2
  · exact ⟨h2.1, h1⟩
  · exact absurd (h2.2.symm.trans h0) (by decide)
theorem full_er {σ : St} {A B : Tm} (he : EV σ A B) (h1 : (σ.fill 60 1000 A).err = 0) (h2 : (σ.fill 60 1000 B).err = 0) : (σ.fill 60 1000 A).tm.er = (σ.fill 60 1000 B).tm.er := by
  obtain ⟨x, hx, hy⟩ := he
  cases hfa : σ.fill 60 1000 A with
  | bad e =>
    rw [hfa] at h1
    have := fill_bads σ 60 1000 A e hfa
    have h1 : e = 0 := h1
    omega
  | ok u l =>
    cases hfb : σ.fill 60 1000 B with
    | bad e =>
      rw [hfb] at h2
      have := fill_bads σ 60 1000 B e hfb
      have h2 : e = 0 := h2
      omega
    | ok u' l' => exact ((fill_ev _ _ _ _ _ hfa).same hx).trans ((fill_ev _ _ _ _ _ hfb).same hy).symm
theorem run_err {N : Nat} : ∀ f σ L lv, (run N f σ L lv).is = true → (run N f σ L lv).err = 0
  | f, σ, [], lv, h => by rw [run_nil]
  | 0, σ, _ :: _, lv, h => by cases h
  | f + 1, σ, p :: r, lv, h => by
    rw [run_succ] at h ⊢
    split
    · rename_i hk
      rw [if_pos hk] at h
      exact run_err f _ _ _ h
    · rename_i hk
      rw [if_neg hk] at h
theorem level_one {A B : Tm} (hA : GV 9 A) (hB : GV 9 B) : (run 9 2000 σ12 [(A, B)] 0).lv ≤ max (A.jC 9 0) (B.jC 9 0) :=
  (run_good (M := max (A.jC 9 0) (B.jC 9 0)) (by decide) 2000 σ12 [(A, B)] 0 (good12 9 _) (fun p hp => by rw [List.mem_singleton.1 hp]; exact ⟨hA, hB, by show A.jC 9 0 ≤ _; omega, by show B.jC 9 0 ≤ _; omega⟩) (Nat.zero_le _)).2
theorem level_lt {σ : St} (hσ : Good 9 8 σ) {A B : Tm} (hA : GV 9 A) (hB : GV 9 B) : (run 9 2000 σ [(A, B)] 0).lv < 9 := by
  have := (run_good (M := 8) (by decide) 2000 σ [(A, B)] 0 hσ (gp_any (N := 9) (by decide) hA hB) (Nat.zero_le _)).2
  omega
end Go.Proofs.Ytfjnajngelemkaa

namespace Go.Proofs.Ytfjnajngelemkaa
open Go.RowKit Go.Shelf
open Classical
set_option linter.unusedVariables false
set_option linter.unusedSimpArgs false

/-- The blocks of one store are others' to the other one. -/
structure Apart (W : World) (b : Nat) (V L : Value) (bt : Nat) (Vt Lt : Value) : Prop where
  box : Oth W b V L bt
  rV : ∀ k, Vt.ownBlock = some k → Oth W b V L k
  rL : ∀ k, Lt.ownBlock = some k → Oth W b V L k
theorem Apart.step {W W' : World} {b bt : Nat} {V L Vt Lt : Value} (h : Apart W b V L bt Vt Lt) (k : Below W.heap.size W W') : Apart W' b V L bt Vt Lt := ⟨h.box.below k, fun c hc => (h.rV c hc).below k, fun c hc => (h.rL c hc).below k⟩
theorem Apart.turn {W W' : World} {b bt : Nat} {V L V' L' Vt Lt : Value} (h : Apart W b V L bt Vt Lt) (m : Mut W b V L W' V' L') : Apart W' b V' L' bt Vt Lt := ⟨(m.keep _ h.box).2, fun c hc => (m.keep _ (h.rV c hc)).2, fun c hc => (m.keep _ (h.rL c hc)).2⟩
/-- A store in which nothing is bound stays, while another one turns. -/
theorem LW.beside {w2 W W' : World} {b bt lb : Nat} {V L V' L' Vt Lt : Value} {σ τ : St} (h : LW w2 W bt Vt Lt lb τ) (ha : Apart W b V L bt Vt Lt) (hm : Mut W b V L W' V' L') (hs : LW w2 W' b V' L' lb σ) (hn : ∀ o ∈ τ.vs, o = none) : LW w2 W' bt Vt Lt lb τ := by
  obtain ⟨xs, h1, h2⟩ := h.st.rV
  refine ⟨⟨(hm.keep bt ha.box).1.trans h.st.box, h.st.lo, fun k hk => hk, ⟨xs, h1.later fun c hc => (hm.keep c (ha.rV c hc)).1, h2.len, fun i x o hx ho => ⟨(h2.at_ i x o hx ho).1, fun U hU => ?_⟩⟩, h.st.rL.later fun c hc => (hm.keep c (ha.rL c hc)).1, h.st.ok⟩, hs.bl, hs.ch, ⟨hs.lo.1, h.lo.2⟩⟩
  have := hn o (List.mem_of_getElem? ho)
  rw [this] at hU; cases hU
theorem σ12_none : ∀ o ∈ σ12.vs, o = none := fun o ho => by
  have ho : o ∈ [] ++ List.replicate 12 (none : Option Tm) := ho
  rw [List.nil_append] at ho
  exact (List.mem_replicate.1 ho).2
/-- A second store, behind a first one. -/
theorem LW.second {w2 w6 w7 : World} {b bt lb : Nat} {V L Vt Lt : Value} {σ τ : St} (h : LW w2 w6 b V L lb σ) (hS : StAt (Oth w7 bt Vt Lt) w6.heap.size w7 bt Vt Lt τ) (hb : Below w6.heap.size w6 w7) : LW w2 w7 bt Vt Lt lb τ ∧ LW w2 w7 b V L lb σ ∧ Apart w7 b V L bt Vt Lt ∧ Apart w7 bt Vt Lt b V L := by
  have h' := h.step hb
  have hlt : ∀ k, w6.heap.size ≤ k → k < w7.heap.size → Oth w7 b V L k := fun k h1 h2 => by
    obtain ⟨xs, r1, _⟩ := h.st.rV
    refine ⟨h2, fun e => ?_, fun e => ?_, fun e => ?_⟩
    · have := h.st.lt; omega
    · have := (r1.lt k e).2; omega
    · have := (h.st.rL.lt k e).2; omega
  refine ⟨⟨hS.base h.bl.size, h'.bl, h'.ch, Mut.lo hS hb.size h.lo.1⟩, h', ⟨hlt bt hS.lo hS.lt, fun k hk => ?_, fun k hk => ?_⟩, ⟨Mut.lo hS hb.size h.st.lt, fun k hk => ?_, fun k hk => ?_⟩⟩
  · obtain ⟨xs, r1, _⟩ := hS.rV
    have := r1.lt k hk; exact hlt k this.1 this.2
  · have := hS.rL.lt k hk; exact hlt k this.1 this.2
  · obtain ⟨xs, r1, _⟩ := h.st.rV
    exact Mut.lo hS hb.size (r1.lt k hk).2
  · exact Mut.lo hS hb.size (h.st.rL.lt k hk).2

/-- More pairs that may be looked at: the same, if there was room. -/
theorem run_more {N : Nat} : ∀ f σ L lv, (run N f σ L lv).err ≠ 3 → run N (f + 1) σ L lv = run N f σ L lv
  | f, σ, [], lv, _ => by rw [run_nil, run_nil]
  | 0, σ, _ :: _, lv, h => absurd rfl h
  | f + 1, σ, p :: r, lv, h => by
    rw [run_succ] at h
    rw [run_succ N (f + 1), run_succ N f]
    split
    · rename_i hk
      rw [if_pos hk] at h
      exact run_more f _ _ _ h
    · rfl
def fTwo (A B : Tm) : Tm := .mk 3 0 (ByteArray.mk #[102]) [A, B]
theorem run_two (A B C D : Tm) : run 9 2000 σ12 [(fTwo A B, fTwo C D)] 0 = run 9 1999 σ12 [(A, C), (B, D)] 0 := by
  rw [show (2000 : Nat) = 1999 + 1 from rfl, run_succ]
  have hs : σ12.stp 9 (σ12.fin (fTwo A B)) (σ12.fin (fTwo C D)) = ⟨[(A, C), (B, D)], 0, true, σ12⟩ := stp_fun σ12 (ByteArray.mk #[102]) [A, B] [C, D] rfl
  rw [hs]
  rfl
/-- UnifyLists, apart from memory. -/
theorem lists2_ghost (A B C D : Tm) (h : (run 9 2000 σ12 [(fTwo A B, fTwo C D)] 0).err = 0) : run 9 2000 σ12 [(A, C), (B, D)] 0 = run 9 2000 σ12 [(fTwo A B, fTwo C D)] 0 := by
  rw [run_two] at h ⊢
  exact run_more 1999 σ12 [(A, C), (B, D)] 0 (by rw [h]; decide)
theorem fTwo_gv {A B : Tm} (hA : GV 9 A) (hB : GV 9 B) : GV 9 (fTwo A B) := .fn _ _ fun t ht => by
  rcases List.mem_cons.1 ht with rfl | ht
  · exact hA
  · rw [List.mem_singleton.1 ht]; exact hB
theorem fTwo_size (A B : Tm) : (fTwo A B).size = 1 + (A.size + B.size) := by unfold fTwo; rw [Tm.size_mk, Tm.sizes_cons, Tm.sizes_cons, Tm.sizes_nil]; omega
end Go.Proofs.Ytfjnajngelemkaa

namespace Go.Proofs.Ytfjnajngelemkaa
open Go.RowKit Go.Shelf
open Classical
set_option linter.unusedVariables false
set_option linter.unusedSimpArgs false

/-- What is erased is a variable, a number, or a name of what is erased. -/
theorem er_shape {N : Nat} {T : Tm} (h : GV N T) : (∃ n, T = .mk 1 n e0 [] ∧ T.er = .mk 1 n e0 []) ∨ T.kind ≠ 1 ∧ ((∃ n, T.er = .mk 2 n e0 []) ∨ ∃ (s : ByteArray) (ks : List Tm), T.er = .mk 3 0 s (ks.map Tm.er) ∧ (∀ t ∈ ks, GV N t)) := by
  induction h with
  | var n => exact .inl ⟨n, rfl, by rw [Tm.er_else (fun e => absurd e.1 k14)]; rfl⟩
  | int n => exact .inr ⟨k21, .inl ⟨n, by rw [Tm.er_else (fun e => absurd e.1 k24)]; rfl⟩⟩
  | fn s ks h ih => exact .inr ⟨k31, .inr ⟨s, ks, by rw [Tm.er_else (fun e => absurd e.1 k34)], h⟩⟩
  | box l t hl h hg ih =>
    rcases ih with ⟨n, e, _⟩ | ⟨_, h1⟩
    · rw [e] at hg; exact absurd rfl hg.kind
    · refine .inr ⟨k41, ?_⟩
      rw [Tm.er_wraps]
      exact h1
theorem er_kind1 {N : Nat} {T : Tm} (h : GV N T) : T.er.kind = 1 ↔ T.kind = 1 := by
  rcases er_shape h with ⟨n, e, e'⟩ | ⟨hk, ⟨n, e⟩ | ⟨s, ks, e, _⟩⟩
  · rw [e', e]
  · rw [e]; exact ⟨fun h => absurd h k21, fun h => absurd h hk⟩
  · rw [e]; exact ⟨fun h => absurd h k31, fun h => absurd h hk⟩
theorem er_var {N : Nat} {T : Tm} (h : GV N T) (hk : T.kind = 1) : T.er = T := by
  rcases er_shape h with ⟨n, e, e'⟩ | ⟨hk', _⟩
  · rw [e', e]
  · exact absurd hk hk'
theorem er_kind4 {N : Nat} {T : Tm} (h : GV N T) : T.er.kind ≠ 4 := by
  rcases er_shape h with ⟨n, e, e'⟩ | ⟨hk, ⟨n, e⟩ | ⟨s, ks, e, _⟩⟩ <;> first | (rw [e']; exact k14) | (rw [e]; first | exact k24 | exact k34)
theorem er_gv {N : Nat} {T : Tm} (h : GV N T) : GV N T.er := by
  induction h with
  | var n => rw [er_var (N := N) (.var n) rfl]; exact .var n
  | int n => rw [Tm.er_else (fun e => absurd e.1 k24)]; exact .int n
  | fn s ks h ih =>
    rw [Tm.er_else (fun e => absurd e.1 k34)]
    exact .fn s _ fun t ht => by obtain ⟨u, hu, rfl⟩ := List.mem_map.1 ht; exact ih u hu
  | box l t hl h hg ih => rw [Tm.er_wraps]; exact ih
theorem Occ_er {v : Int} (T : Tm) : Occ v T.er → Occ v T := by
  induction T using Tm.ind with
  | h k n s ks ih =>
    intro h
    by_cases hw : k = 4 ∧ ks.length = 1
    · obtain ⟨t, rfl, rfl⟩ := wraps_form (n := n) (s := s) hw
      rw [Tm.er_wraps] at h
      exact .kid (by simp) (ih t (by simp) h)
    · rw [Tm.er_else hw] at h
      cases h with
      | here h => exact .here h
      | kid ht h' => obtain ⟨u, hu, rfl⟩ := List.mem_map.1 ht; exact .kid hu (ih u hu h')
theorem NoV.er {T : Tm} (h : NoV T) : NoV T.er := fun v hv => h v (Occ_er T hv)

def St.er (σ : St) : St := ⟨σ.vs.map (Option.map Tm.er), σ.tr⟩
theorem look_er (σ : St) (n : Int) : σ.er.look n = (σ.look n).map Tm.er := by
  unfold St.look
  split
  · show ((σ.vs.map (Option.map Tm.er))[n.toNat]?).join = _
    rw [List.getElem?_map]
    rcases σ.vs[n.toNat]? with _ | _ | u <;> rfl
  · rfl
theorem val_er {N : Nat} {σ : St} {T : Tm} (h : GV N T) : σ.er.val T.er = (σ.val T).map Tm.er := by
  unfold St.val
  by_cases hk : T.kind = 1
  · rw [if_pos hk, if_pos ((er_kind1 h).2 hk), er_var h hk, look_er]
  · rw [if_neg hk, if_neg (fun e => hk ((er_kind1 h).1 e))]; rfl
theorem ends_er {N : Nat} {σ : St} (hg : σ.Gv N) {n : Nat} {T X : Tm} (h : EndsN σ n T X) : GV N T → EndsN σ.er n T.er X.er := by
  induction h with
  | stop h => intro hT; exact .stop (by rw [val_er hT, h]; rfl)
  | step h1 _ ih =>
    intro hT
    obtain ⟨_, x, _, hx⟩ := St.val_some h1
    exact .step (by rw [val_er hT, h1]; rfl) (ih (hg x _ hx))
theorem fin_er {N : Nat} {σ : St} (hr : σ.Ranked) (hg : σ.Gv N) {T : Tm} (h : GV N T) : σ.er.fin T.er = (σ.fin T).er := by
  obtain ⟨n, hn⟩ := hr.fin T
  exact (ends_er hg hn h).fin
theorem nov_met {σ : St} {v : Int} {T : Tm} {n : Nat} (h : RN σ v n T) : ¬ NoV T := by
  induction h with
  | var _ h1 _ => exact fun hn => hn.kind h1
  | bound h _ _ => exact fun hn => hn.kind (St.val_some h).1
  | @kid n T U h1 h4 hU _ ih =>
    intro hn
    obtain ⟨k, m, s, ks⟩ := T
    exact ih (hn.kid hU)
theorem met_er1 {N : Nat} {σ : St} (hg : σ.Gv N) {v : Int} {n : Nat} {T : Tm} (h : RN σ v n T) : GV N T → RN σ.er v n T.er := by
  induction h with
  | var h h1 hn => intro hT; exact .var (by rw [val_er hT, h]; rfl) ((er_kind1 hT).2 h1) (by rw [er_var hT h1]; exact hn)
  | bound h g ih =>
    intro hT
    obtain ⟨_, x, _, hx⟩ := St.val_some h
    exact .bound (by rw [val_er hT, h]; rfl) (ih (hg x _ hx))
  | @kid n T U h1 h4 hU g ih =>
    intro hT
    cases hT with
    | var n => exact absurd rfl h1
    | int n => cases hU
    | fn s ks h =>
      rw [Tm.er_else (fun e => absurd e.1 k34)]
      exact .kid k31 k34 (List.mem_map.2 ⟨U, hU, rfl⟩) (ih (h U hU))
    | box l t _ _ _ => exact absurd rfl h4
theorem met_er2 {N : Nat} {σ : St} (hg : σ.Gv N) {v : Int} {n : Nat} {X : Tm} (h : RN σ.er v n X) : ∀ T, GV N T → X = T.er → Met σ v T := by
  induction h with
  | var h h1 hn =>
    intro T hT e
    subst e
    have hk := (er_kind1 hT).1 h1
    rw [val_er hT] at h
    rw [er_var hT hk] at hn
    refine ⟨0, .var ?_ hk hn⟩
    cases hv : σ.val T with
    | none => rfl
    | some U => rw [hv] at h; cases h
  | bound h g ih =>
    intro T hT e
    subst e
    rw [val_er hT] at h
    cases hv : σ.val T with
    | none => rw [hv] at h; cases h
    | some U =>
      rw [hv] at h
      cases h
      obtain ⟨_, x, _, hx⟩ := St.val_some hv
      obtain ⟨m, hm⟩ := ih U (hg x _ hx) rfl
      exact ⟨m + 1, .bound hv hm⟩
  | @kid n X U h1 h4 hU g ih =>
    intro T hT e
    subst e
    cases hT with
    | var n => exact absurd ((er_kind1 (N := N) (.var n)).2 rfl) h1
    | int n => rw [Tm.er_else (fun e => absurd e.1 k24)] at hU; cases hU
    | fn s ks h =>
      rw [Tm.er_else (fun e => absurd e.1 k34)] at hU
      obtain ⟨t, ht, rfl⟩ := List.mem_map.1 hU
      obtain ⟨m, hm⟩ := ih t (h t ht) rfl
      exact ⟨m + 1, .kid k31 k34 ht hm⟩
    | box l t hl h hgr =>
      have hn : NoV (Tm.mk 4 (l : Int) e0 [t]).er := by rw [Tm.er_wraps]; exact hgr.er
      exact absurd hn (nov_met (.kid h1 h4 hU g))
theorem met_er {N : Nat} {σ : St} (hg : σ.Gv N) {v : Int} {T : Tm} (hT : GV N T) : Met σ.er v T.er ↔ Met σ v T :=
  ⟨fun ⟨_, h⟩ => met_er2 hg h T hT rfl, fun ⟨n, h⟩ => ⟨n, met_er1 hg h hT⟩⟩
theorem bindE_er {N : Nat} {σ : St} (hg : σ.Gv N) {v : Int} {T : Tm} (hT : GV N T) : σ.er.bindE v T.er = σ.bindE v T := by
  unfold St.bindE
  have h1 : σ.er.vs.length = σ.vs.length := List.length_map _
  have h2 : (∃ U, σ.er.look v = some U) ↔ ∃ U, σ.look v = some U := by
    rw [look_er]
    cases σ.look v <;> simp
  rw [h1]
  simp only [h2, met_er hg hT]
theorem bind_er (σ : St) (v : Nat) (T : Tm) : (σ.bind v T).er = σ.er.bind v T.er := by
  show St.mk ((σ.vs.set v (some T)).map (Option.map Tm.er)) (σ.tr ++ [v]) = St.mk ((σ.vs.map (Option.map Tm.er)).set v (some T.er)) (σ.tr ++ [v])
  rw [List.map_set]; rfl
theorem link_1 {σ : St} {A B : Tm} (h : A.kind = 1 ∧ B.kind = 1 ∧ A.num = B.num) : σ.link A B = (true, σ) := if_pos h
theorem link_2 {σ : St} {A B : Tm} (h : ¬ (A.kind = 1 ∧ B.kind = 1 ∧ A.num = B.num)) (kA : A.kind = 1) : σ.link A B = if σ.bindE A.num B = 0 then (true, σ.bind A.num.toNat B) else (false, σ) := by unfold St.link; rw [if_neg h, if_pos kA]
theorem link_3 {σ : St} {A B : Tm} (kA : A.kind ≠ 1) : σ.link A B = if σ.bindE B.num A = 0 then (true, σ.bind B.num.toNat A) else (false, σ) := by unfold St.link; rw [if_neg (fun h => kA h.1), if_neg kA]
theorem link_er {N : Nat} {σ : St} (hg : σ.Gv N) {A B : Tm} (hA : GV N A) (hB : GV N B) (hv : A.kind = 1 ∨ B.kind = 1) : σ.er.link A.er B.er = ((σ.link A B).1, (σ.link A B).2.er) := by
  by_cases kA : A.kind = 1
  · have kA' := (er_kind1 hA).2 kA
    by_cases h : A.kind = 1 ∧ B.kind = 1 ∧ A.num = B.num
    · rw [er_var hA kA, er_var hB h.2.1, link_1 h, link_1 h]
    · have h' : ¬ (A.er.kind = 1 ∧ B.er.kind = 1 ∧ A.er.num = B.er.num) := fun e => h (by
        have kB := (er_kind1 hB).1 e.2.1
        rw [er_var hA kA, er_var hB kB] at e
        exact e)
      rw [link_2 h kA, link_2 h' kA', er_var hA kA, bindE_er hg hB]
      by_cases hb : σ.bindE A.num B = 0
      · rw [if_pos hb, if_pos hb, bind_er]
      · rw [if_neg hb, if_neg hb]
  · have kB := hv.resolve_left kA
    have kA' : ¬ A.er.kind = 1 := fun e => kA ((er_kind1 hA).1 e)
    rw [link_3 kA, link_3 kA', er_var hB kB, bindE_er hg hA]
    by_cases hb : σ.bindE B.num A = 0
    · rw [if_pos hb, if_pos hb, bind_er]
    · rw [if_neg hb, if_neg hb]
theorem zip_er : ∀ a b : List Tm, (a.map Tm.er).zip (b.map Tm.er) = (a.zip b).map fun p => (p.1.er, p.2.er)
  | [], b => by simp
  | x :: a, [] => by simp
  | x :: a, y :: b => by simp [zip_er a b]
theorem openC_erased {N : Nat} {T : Tm} (h : GV N T) : T.er.openC N = (T.er, 0) := by
  refine openC_neg ?_
  cases hw : T.er.wrapsT with
  | false => rfl
  | true => exact absurd ((er_gv h).wraps.1 hw) (er_kind4 h)
theorem open_er_shape {N : Nat} (hN : 1 ≤ N) {T : Tm} (h : GV N T) (hk : T.kind ≠ 1) : T.er.kind = (T.openC N).1.kind ∧ T.er.num = (T.openC N).1.num ∧ T.er.name = (T.openC N).1.name ∧ T.er.kids = (T.openC N).1.kids.map Tm.er := by
  have e := openC_er N T
  rcases open_gv hN h hk with ⟨n, e1⟩ | ⟨s, ks, e1, _⟩
  · rw [e1, Tm.er_else (fun e => absurd e.1 k24)] at e
    rw [← e, e1]; exact ⟨rfl, rfl, rfl, rfl⟩
  · rw [e1, Tm.er_else (fun e => absurd e.1 k34)] at e
    rw [← e, e1]; exact ⟨rfl, rfl, rfl, rfl⟩
theorem stp_er {N : Nat} (hN : 1 ≤ N) {σ : St} (hg : σ.Gv N) {A B : Tm} (hA : GV N A) (hB : GV N B) : σ.er.stp N A.er B.er = ⟨(σ.stp N A B).ks.map fun p => (p.1.er, p.2.er), 0, (σ.stp N A B).ok, (σ.stp N A B).σ.er⟩ := by
  unfold St.stp
  by_cases hv : A.kind = 1 ∨ B.kind = 1
  · have hv' : A.er.kind = 1 ∨ B.er.kind = 1 := hv.imp (er_kind1 hA).2 (er_kind1 hB).2
    rw [if_pos hv, if_pos hv', link_er hg hA hB hv]
    rfl
  · have kA : A.kind ≠ 1 := fun e => hv (.inl e)
    have kB : B.kind ≠ 1 := fun e => hv (.inr e)
    have hv' : ¬ (A.er.kind = 1 ∨ B.er.kind = 1) := fun e => hv (e.imp (er_kind1 hA).1 (er_kind1 hB).1)
    obtain ⟨a1, a2, a3, a4⟩ := open_er_shape hN hA kA
    obtain ⟨b1, b2, b3, b4⟩ := open_er_shape hN hB kB
    have la : A.er.kids.length = (A.openC N).1.kids.length := by rw [a4, List.length_map]
    have lb : B.er.kids.length = (B.openC N).1.kids.length := by rw [b4, List.length_map]
    rw [if_neg hv, if_neg hv', openC_erased hA, openC_erased hB]
    simp only [a1, a2, a3, b1, b2, b3, la, lb]
    split
    · rfl
    split
    · rw [a4, b4, zip_er]; rfl
    · rfl
/-- The two runs, hand in hand. -/
theorem run_er {N M : Nat} (hN : 1 ≤ N) : ∀ f σ L lv, Good N M σ → (∀ p ∈ L, GP N M p) → run N f σ.er (L.map fun p => (p.1.er, p.2.er)) 0 = ⟨(run N f σ L lv).is, 0, (run N f σ L lv).err, (run N f σ L lv).σ.er⟩
  | f, σ, [], lv, h, _ => by rw [List.map_nil, run_nil, run_nil]
  | 0, σ, _ :: _, lv, h, _ => rfl
  | f + 1, σ, p :: r, lv, h, hL => by
    have hp := hL p (by simp)
    have hA := h.fin hp.a hp.la
    have hB := h.fin hp.b hp.lb
    obtain ⟨h1, h2, h3⟩ := stp_good hN h hA hB
    rw [List.map_cons, run_succ, run_succ]
    show (if (σ.er.stp N (σ.er.fin p.1.er) (σ.er.fin p.2.er)).ok = true then _ else _) = _
    rw [fin_er h.ranked h.gv hp.a, fin_er h.ranked h.gv hp.b, stp_er hN h.gv hA.1 hB.1]
    by_cases hok : (σ.stp N (σ.fin p.1) (σ.fin p.2)).ok = true
    · rw [if_pos hok, if_pos hok]
      have hL' : ∀ q ∈ (σ.stp N (σ.fin p.1) (σ.fin p.2)).ks ++ r, GP N M q := fun q hq => by
        rcases List.mem_append.1 hq with hq | hq
        · exact h3 q hq
        · exact hL q (by simp [hq])
      have ih := run_er hN f _ _ (max lv (σ.stp N (σ.fin p.1) (σ.fin p.2)).lv) h1 hL'
      rw [List.map_append] at ih
      exact ih
    · rw [if_neg hok, if_neg hok]
      rfl
theorem σ12_er : σ12.er = σ12 := by
  show St.mk ((([] : List (Option Tm)) ++ List.replicate 12 none).map (Option.map Tm.er)) [] = St.mk (([] : List (Option Tm)) ++ List.replicate 12 none) []
  rfl
theorem run12_er {A B : Tm} (hA : GV 9 A) (hB : GV 9 B) : run 9 2000 σ12 [(A.er, B.er)] 0 = ⟨(run 9 2000 σ12 [(A, B)] 0).is, 0, (run 9 2000 σ12 [(A, B)] 0).err, (run 9 2000 σ12 [(A, B)] 0).σ.er⟩ := by
  have h := run_er (M := 8) (by decide) 2000 σ12 [(A, B)] 0 (good12 9 8) (gp_any (N := 9) (by decide) hA hB)
  rw [σ12_er] at h
  exact h
/-- What comes to something comes to it erased. -/
theorem ev_er {N : Nat} {σ : St} (hr : σ.Ranked) (hg : σ.Gv N) {T x : Tm} (h : Ev σ T x) : GV N T → Ev σ.er T.er x := by
  induction h with
  | @sl T n s t x h g ih =>
    intro hT
    have hX := fin_gv hr hg hT
    have e := fin_er hr hg hT
    rw [h] at hX e
    have ht : GV N t ∧ t.kind ≠ 1 := by
      cases hX with
      | box l t hl h hgr => exact ⟨h, hgr.kind⟩
    rw [Tm.er_wraps] at e
    refine (ih ht.1).of_fin ?_
    rw [e, fin_er hr hg ht.1, fin_non ht.2]
  | @mk T k n s ks xs h hw hl g ih =>
    intro hT
    have hX := fin_gv hr hg hT
    have e := fin_er hr hg hT
    rw [h] at hX e
    rw [Tm.er_else hw] at e
    have hk : ∀ t ∈ ks, GV N t := by
      cases hX with
      | var n => intro t ht; cases ht
      | int n => intro t ht; cases ht
      | fn s ks h => exact h
      | box l t _ _ _ => exact absurd ⟨rfl, rfl⟩ hw
    refine .mk e (by rw [List.length_map]; exact hw) (by rw [List.length_map, hl]) fun i t u ht hu => ?_
    rw [List.getElem?_map] at ht
    cases hx : ks[i]? with
    | none => rw [hx] at ht; cases ht
    | some y => rw [hx] at ht; cases ht; exact ih i y u hx hu (hk y (List.mem_of_getElem? hx))
/-- What is full in an erased store is erased. -/
theorem fill_er {N : Nat} {σ : St} (hr : σ.Ranked) (hg : σ.Gv N) : ∀ f left T y l, GV N T → σ.er.fill f left T.er = .ok y l → y.er = y
  | 0, left, T, y, l, _, h => by rw [St.fill] at h; cases h
  | f + 1, left, T, y, l, hT, h => by
    obtain ⟨us, hus, rfl⟩ := fill_ok h
    have hX := fin_gv hr hg hT
    rw [fin_er hr hg hT] at hus ⊢
    obtain ⟨hlen, hi⟩ := fillL_each _ _ _ _ hus
    have hk4 : ¬ ((σ.fin T).er.kind = 4 ∧ us.length = 1) := fun e => er_kind4 hX e.1
    rw [Tm.er_else hk4]
    congr 1
    have hks : ∀ t ∈ (σ.fin T).er.kids, ∃ u, GV N u ∧ t = u.er := by
      rcases er_shape hX with ⟨n, _, e⟩ | ⟨_, ⟨n, e⟩ | ⟨s, ks, e, hk⟩⟩ <;> rw [e]
      · intro t ht; cases ht
      · intro t ht; cases ht
      · intro t ht; obtain ⟨u, hu, rfl⟩ := List.mem_map.1 ht; exact ⟨u, hk u hu, rfl⟩
    refine List.ext_getElem? fun i => ?_
    rw [List.getElem?_map]
    by_cases hlt : i < us.length
    · have ht := List.getElem?_eq_getElem (show i < (σ.fin T).er.kids.length by omega)
      obtain ⟨u, l1, l2, e1, e2⟩ := hi i _ ht
      obtain ⟨z, hz, ez⟩ := hks _ (List.mem_of_getElem? ht)
      rw [ez] at e2
      rw [e1]
      show some u.er = some u
      rw [fill_er hr hg f l1 z u l2 hz e2]
    · rw [List.getElem?_eq_none (by omega)]; rfl
/-- UnifyErased's variables, apart from memory. -/
theorem full_erased {N : Nat} {σ : St} (hr : σ.Ranked) (hg : σ.Gv N) {T : Tm} (hT : GV N T) (hk : T.kind = 1) (h1 : (σ.fill 60 1000 T).err = 0) (h2 : (σ.er.fill 60 1000 T).err = 0) : (σ.fill 60 1000 T).tm.er = (σ.er.fill 60 1000 T).tm := by
  cases hfa : σ.fill 60 1000 T with
  | bad e =>
    rw [hfa] at h1
    have := fill_bads σ 60 1000 T e hfa
    have h1 : e = 0 := h1
    omega
  | ok u l =>
    cases hfb : σ.er.fill 60 1000 T with
    | bad e =>
      rw [hfb] at h2
      have := fill_bads σ.er 60 1000 T e hfb
      have h2 : e = 0 := h2
      omega
    | ok y l' =>
      have h3 := ev_er hr hg (fill_ev _ _ _ _ _ hfa) hT
      rw [er_var hT hk] at h3
      have h4 := h3.same (fill_ev _ _ _ _ _ hfb)
      have h5 := fill_er hr hg 60 1000 T y l' hT (by rw [er_var hT hk]; exact hfb)
      show u.er = y
      rw [h4, h5]
end Go.Proofs.Ytfjnajngelemkaa
