/-
  The same tokens at another place read the same, or are too deep there: apart from memory.
-/
import Derived.Test.YtgodbmmhkmockaaGreatDoorReadT
import Derived.Test.YtgodbmmhkmockaaGreatDoorTokK
namespace Go.Proofs.YtgodbmmhkmockaaGreatDoor
open Go.RowKit
set_option linter.unusedVariables false

/-- A token that ends what stands ahead: an end, or a bracket that closes. -/
def stp (t : Tok) : Prop := t.kind = 5 ∨ (t.kind = 4 ∧ t.s = [41])
/-- The same token, or both end what stands ahead. -/
def Sim (t t' : Tok) : Prop := t' = t ∨ (stp t ∧ stp t')
theorem stp_isP {t : Tok} (h : stp t) {s : List UInt8} (hs : s ≠ [41]) : isP t s = false := by
  unfold isP
  rcases h with h | ⟨h, h2⟩
  · simp [h]
  · rw [h2]; simp [Ne.symm hs]
theorem stp_bare {t : Tok} (h : stp t) : bare t = false := by
  unfold bare
  rcases h with h | ⟨h, h2⟩ <;> simp [h]
theorem stp_begins {t : Tok} (h : stp t) : begins t = false := by
  unfold begins
  rcases h with h | ⟨h, h2⟩
  · simp [h]
  · simp [h, h2]
theorem stp_kind {t : Tok} (h : stp t) : t.kind ≠ 3 := by rcases h with h | ⟨h, h2⟩ <;> simp [h]
theorem Sim.isP {t t' : Tok} (h : Sim t t') {s : List UInt8} (hs : s ≠ [41]) : isP t' s = isP t s := by
  rcases h with h | ⟨h1, h2⟩
  · rw [h]
  · rw [stp_isP h1 hs, stp_isP h2 hs]
theorem Sim.begins {t t' : Tok} (h : Sim t t') : Go.Proofs.YtgodbmmhkmockaaGreatDoor.begins t' = Go.Proofs.YtgodbmmhkmockaaGreatDoor.begins t := by
  rcases h with h | ⟨h1, h2⟩
  · rw [h]
  · rw [stp_begins h1, stp_begins h2]
theorem Sim.tightP {t t' : Tok} (h : Sim t t') : (t'.tight = true ∧ Go.Proofs.YtgodbmmhkmockaaGreatDoor.isP t' [40] = true) = (t.tight = true ∧ Go.Proofs.YtgodbmmhkmockaaGreatDoor.isP t [40] = true) := by
  rcases h with h | ⟨h1, h2⟩
  · rw [h]
  · rw [stp_isP h1 (by decide), stp_isP h2 (by decide)]; simp
theorem opG_sim {L L' : List Tok} {most pri i i' : Nat} (h : Sim (ahd L i) (ahd L' i')) : opG L' most pri i' = opG L most pri i := by
  unfold opG
  rcases h with h | ⟨h1, h2⟩
  · rw [h]
  · rw [stp_bare h1, stp_bare h2, stp_isP h1 (by decide), stp_isP h2 (by decide)]; simp

/-- What is read here is read there, k places on; or there it is too deep, if D. -/
def Tr {α : Type} (D : Prop) (k j0 : Nat) (o o' : Out α) : Prop := ∀ x j ms, o = .ok x j ms → j ≤ j0 → o' = .ok x (j + k) ms ∨ (D ∧ ∃ p, o' = .bad p 7)
theorem Tr.ok {α : Type} {D : Prop} {k j0 : Nat} (x : α) (i : Nat) (ns : Nms) {i' : Nat} (h : i' = i + k) : Tr D k j0 (.ok x i ns) (.ok x i' ns) := by
  intro y j ms e hj
  cases e
  exact .inl (by rw [h])
theorem Tr.bad {α : Type} {D : Prop} {k j0 : Nat} (i : Nat) (c : Int) (o : Out α) : Tr D k j0 (.bad i c) o := by
  intro y j ms e hj
  cases e
theorem Tr.at {α : Type} {D : Prop} {k j0 : Nat} {o o' : Out α} (i : Nat) (h : ∀ x j ms, o = .ok x j ms → i ≤ j) (g : i ≤ j0 → Tr D k j0 o o') : Tr D k j0 o o' := by
  intro x j ms e hj
  exact g (Nat.le_trans (h _ _ _ e) hj) x j ms e hj
theorem Tr.bind {α β : Type} {D : Prop} {k j0 : Nat} {o o' : Out α} {f f' : α → Nat → Nms → Out β} (h : Tr D k j0 o o') (hm : ∀ x i ns y j ms, o = .ok x i ns → f x i ns = .ok y j ms → i ≤ j)
    (hf : ∀ x i ns, o = .ok x i ns → i ≤ j0 → Tr D k j0 (f x i ns) (f' x (i + k) ns)) : Tr D k j0 (o.bind f) (o'.bind f') := by
  intro y j ms e hj
  obtain ⟨x, i, ns, e1, e2⟩ := Out.bind_ok e
  have hij := hm _ _ _ _ _ _ e1 e2
  rcases h x i ns e1 (by omega) with e' | ⟨hD, p, e'⟩
  · rw [e']; exact hf x i ns e1 (by omega) y j ms e2 hj
  · exact .inr ⟨hD, p, by rw [e']; rfl⟩
theorem Tr.weak {α : Type} {D D' : Prop} {k j0 : Nat} {o o' : Out α} (h : Tr D k j0 o o') (hD : D → D') : Tr D' k j0 o o' := fun x j ms e hj => (h x j ms e hj).imp id (fun g => ⟨hD g.1, g.2⟩)
theorem funG_same {lv : Int} {nm : List UInt8} {ks : List Tm} {i j : Nat} {ns ms : Nms} {T : Tm} (h : funG lv nm ks i ns = .ok T j ms) : j = i ∧ ms = ns ∧ ∀ i', funG lv nm ks i' ns = .ok T i' ns := by
  unfold funG at h ⊢
  split at h
  · split at h
    · split at h
      · cases h
      · rename_i h1 h2
        cases h
        exact ⟨rfl, rfl, fun i' => by simp only [if_pos h1, if_neg h2]⟩
    · rename_i h1
      cases h
      exact ⟨rfl, rfl, fun i' => by simp only [if_neg h1]⟩
  · rename_i hk
    cases h
    exact ⟨rfl, rfl, fun i' => rfl⟩
theorem Tr.fn {D : Prop} {k j0 : Nat} (lv : Int) (nm : List UInt8) (ks : List Tm) (i : Nat) (ns : Nms) {i' : Nat} (hi : i' = i + k) : Tr D k j0 (funG lv nm ks i ns) (funG lv nm ks i' ns) := by
  intro T j ms e hj
  obtain ⟨rfl, rfl, h⟩ := funG_same e
  exact .inl (by rw [hi]; exact h _)
theorem ahd_end {L : List Tok} {i : Nat} (h : L.length ≤ i) : ahd L i = zTok := by
  unfold ahd
  rw [List.getD_eq_getElem?_getD, List.getElem?_eq_none h]; rfl

section
variable {L L' : List Tok} {D : Prop} {k i0 j0 : Nat} {r r' : Rdr} {lv : Int}
variable (hW : ∀ x, i0 ≤ x → x < j0 → ahd L' (x + k) = ahd L x) (hS : Sim (ahd L j0) (ahd L' (j0 + k)))
variable (hr : Reads7 L r) (ht : ∀ most i ns, i0 ≤ i → Tr D k j0 (r most i ns) (r' most (i + k) ns))
include hW hS in
theorem sim_at {x : Nat} (h1 : i0 ≤ x) (h2 : x ≤ j0) : Sim (ahd L x) (ahd L' (x + k)) := by
  by_cases h : x = j0
  · rw [h]; exact hS
  · exact .inl (hW x h1 (by omega))
include hr in
theorem more_le : ∀ (n : Nat) (acc : List Tm) (i : Nat) (ns : Nms) (ts : List Tm) (j : Nat) (ms : Nms), moreG L r n acc i ns = .ok ts j ms → i ≤ j
  | 0, acc, i, ns, ts, j, ms, e => by cases e; exact Nat.le_refl _
  | n + 1, acc, i, ns, ts, j, ms, e => by
    unfold moreG at e
    split at e
    · obtain ⟨t, i1, ns1, e1, e2⟩ := Out.bind_ok e
      have := (hr _ _ _ _ _ _ e1).2
      have := more_le n _ _ _ _ _ _ e2
      omega
    · cases e; exact Nat.le_refl _
include hr in
theorem loop_le {most : Nat} : ∀ (n : Nat) (t : Tm) (pri i : Nat) (ns : Nms) (T : Tm) (j : Nat) (ms : Nms), loopG L lv r most n t pri i ns = .ok T j ms → i ≤ j
  | 0, t, pri, i, ns, T, j, ms, e => by cases e; exact Nat.le_refl _
  | n + 1, t, pri, i, ns, T, j, ms, e => by
    unfold loopG at e
    split at e
    · cases e; exact Nat.le_refl _
    · obtain ⟨u, i1, ns1, e1, e2⟩ := Out.bind_ok e
      obtain ⟨v, i2, ns2, e3, e4⟩ := Out.bind_ok e2
      have := (hr _ _ _ _ _ _ e1).2
      obtain ⟨rfl, -, -⟩ := funG_same e3
      have := loop_le n _ _ _ _ _ _ _ e4
      omega
include hW hS hr ht
theorem more_tr : ∀ (n n' : Nat) (acc : List Tm) (i : Nat) (ns : Nms), i0 ≤ i → L.length < n + i → L'.length < n' + (i + k) → Tr D k j0 (moreG L r n acc i ns) (moreG L' r' n' acc (i + k) ns)
  | n, n', acc, i, ns, hi, hn, hn' => by
    refine Tr.at i (fun x j ms e => more_le hr _ _ _ _ _ _ _ e) fun hj => ?_
    have hs := (sim_at hW hS hi hj).isP (s := [44]) (by decide)
    match n, n', hn, hn' with
    | 0, 0, hn, hn' => exact Tr.ok _ _ _ rfl
    | 0, n' + 1, hn, hn' =>
      rw [ahd_end (L := L) (by omega)] at hs
      unfold moreG
      rw [if_neg (by rw [hs]; decide)]
      exact Tr.ok _ _ _ rfl
    | n + 1, 0, hn, hn' =>
      rw [ahd_end (L := L') (by omega)] at hs
      unfold moreG
      rw [if_neg (by rw [← hs]; decide)]
      exact Tr.ok _ _ _ rfl
    | n + 1, n' + 1, hn, hn' =>
      unfold moreG
      rw [hs]
      split
      · have h1 := ht 999 (i + 1) ns (by omega)
        rw [show i + 1 + k = i + k + 1 by omega] at h1
        refine h1.bind (fun x i1 ns1 y j ms e1 e2 => more_le hr _ _ _ _ _ _ _ e2) fun x i1 ns1 e1 hi1 => ?_
        have := (hr _ _ _ _ _ _ e1).2
        exact more_tr n n' _ i1 ns1 (by omega) (by omega) (by omega)
      · exact Tr.ok _ _ _ rfl
theorem args_tr {i : Nat} {ns : Nms} (hi : i0 ≤ i) {i' : Nat} (e : i' = i + k) : Tr D k j0 (argsG L r i ns) (argsG L' r' i' ns) := by
  subst e
  refine (ht 999 i ns hi).bind (fun x i1 ns1 y j ms e1 e2 => more_le hr _ _ _ _ _ _ _ e2) fun x i1 ns1 e1 hi1 => ?_
  have := (hr _ _ _ _ _ _ e1).2
  exact more_tr hW hS hr ht _ _ _ i1 ns1 (by omega) (by omega) (by omega)
omit hS hr ht in
theorem need_tr {α : Type} {s : List UInt8} {x : α} {i : Nat} {ns : Nms} (hi : i0 ≤ i) : Tr D k j0 (needG L s x i ns) (needG L' s x (i + k) ns) := by
  intro y j ms e hj
  obtain ⟨h1, rfl, rfl, rfl⟩ := need_ok e
  refine .inl ?_
  unfold needG
  rw [hW i hi (by omega), if_pos h1]
  rw [show i + k + 1 = i + 1 + k by omega]
omit hr in
theorem rest_tr {i : Nat} {ns : Nms} (hi : i0 ≤ i) (hj : i ≤ j0) : Tr D k j0 (restG L r i ns) (restG L' r' (i + k) ns) := by
  unfold restG
  rw [(sim_at hW hS hi hj).isP (s := [124]) (by decide)]
  split
  · have h1 := ht 999 (i + 1) ns (by omega)
    rwa [show i + 1 + k = i + k + 1 by omega] at h1
  · exact Tr.ok _ _ _ rfl
theorem list_tr {i : Nat} {ns : Nms} (hi : i0 ≤ i) {i' : Nat} (e' : i' = i + k) : Tr D k j0 (listG L r i ns) (listG L' r' i' ns) := by
  subst e'
  have hlt : ∀ x j ms, listG L r i ns = .ok x j ms → i + 1 ≤ j := by
    intro x j ms e
    unfold listG at e
    split at e
    · cases e; exact Nat.le_refl _
    · obtain ⟨ts, i1, ns1, e1, e2⟩ := Out.bind_ok e
      obtain ⟨u, i2, ns2, e3, e4⟩ := Out.bind_ok e2
      obtain ⟨-, -, rfl, -⟩ := need_ok e4
      obtain ⟨-, -, -, h1⟩ := args_seg hr e1
      unfold restG at e3
      split at e3
      · have := (hr _ _ _ _ _ _ e3).2; omega
      · cases e3; omega
  refine Tr.at (i + 1) hlt fun hj => ?_
  unfold listG
  rw [hW i hi (by omega)]
  split
  · exact Tr.ok _ _ _ (by omega)
  · refine (args_tr hW hS hr ht hi rfl).bind (fun x i1 ns1 y j ms e1 e2 => ?_) fun x i1 ns1 e1 hi1 => ?_
    · obtain ⟨u, i2, ns2, e3, e4⟩ := Out.bind_ok e2
      obtain ⟨-, -, rfl, -⟩ := need_ok e4
      unfold restG at e3
      split at e3
      · have := (hr _ _ _ _ _ _ e3).2; omega
      · cases e3; omega
    · obtain ⟨-, -, -, h1⟩ := args_seg hr e1
      refine (rest_tr hW hS ht (by omega) hi1).bind (fun u i2 ns2 y j ms e3 e4 => ?_) fun u i2 ns2 e3 hi2 => ?_
      · obtain ⟨-, -, rfl, -⟩ := need_ok e4; omega
      · refine need_tr hW ?_
        unfold restG at e3
        split at e3
        · have := (hr _ _ _ _ _ _ e3).2; omega
        · cases e3; omega
theorem brack_tr {i : Nat} {ns : Nms} (hi : i0 ≤ i) (hj : i < j0) : Tr D k j0 (brackG L r i ns) (brackG L' r' (i + k) ns) := by
  unfold brackG
  rw [hW i hi hj]
  split
  · have h1 := ht 1200 (i + 1) ns (by omega)
    rw [show i + 1 + k = i + k + 1 by omega] at h1
    refine h1.bind (fun x i1 ns1 y j ms e1 e2 => ?_) fun x i1 ns1 e1 hi1 => ?_
    · obtain ⟨-, -, rfl, -⟩ := need_ok e2; omega
    · have := (hr _ _ _ _ _ _ e1).2
      exact need_tr hW (by omega)
  · split
    · exact list_tr hW hS hr ht (by omega) (by omega)
    · exact Tr.bad _ _ _
omit hS hr ht in
theorem var_tr {i : Nat} {ns : Nms} (hi : i0 ≤ i) (hj : i < j0) : Tr D k j0 (varG L i ns) (varG L' (i + k) ns) := by
  unfold varG
  rw [hW i hi hj]
  split
  · exact Tr.ok _ _ _ (by omega)
  · exact Tr.ok _ _ _ (by omega)
omit hS hr ht in
theorem num_tr {i : Nat} {ns : Nms} (hi : i0 ≤ i) (hj : i < j0) : Tr D k j0 (numG L i ns) (numG L' (i + k) ns) := by
  unfold numG
  rw [hW i hi hj]
  split
  · exact Tr.bad _ _ _
  · exact Tr.ok _ _ _ (by omega)
theorem named_tr {most i : Nat} {ns : Nms} (hi : i0 ≤ i) (hj : i < j0) : Tr D k j0 (namedG L lv r most i ns) (namedG L' lv r' most (i + k) ns) := by
  have hs := sim_at hW hS (x := i + 1) (by omega) (by omega)
  rw [show i + 1 + k = i + k + 1 by omega] at hs
  unfold namedG
  rw [hW i hi hj]
  simp only [hs.tightP, hs.begins]
  split
  · refine (args_tr hW hS hr ht (by omega) (by omega)).bind (fun x i1 ns1 y j ms e1 e2 => ?_) fun x i1 ns1 e1 hi1 => ?_
    · obtain ⟨ts, i2, ns2, e3, e4⟩ := Out.bind_ok e2
      obtain ⟨t, i3, ns3, e5, e6⟩ := Out.bind_ok e4
      obtain ⟨-, -, rfl, -⟩ := need_ok e3
      obtain ⟨rfl, -, -⟩ := funG_same e5
      cases e6; omega
    · obtain ⟨-, -, -, h1⟩ := args_seg hr e1
      refine (need_tr hW (by omega)).bind (fun x2 i2 ns2 y j ms e3 e4 => ?_) fun x2 i2 ns2 e3 hi2 => ?_
      · obtain ⟨t, i3, ns3, e5, e6⟩ := Out.bind_ok e4
        obtain ⟨rfl, -, -⟩ := funG_same e5
        cases e6; omega
      · refine (Tr.fn _ _ _ _ _ rfl).bind (fun x3 i3 ns3 y j ms e5 e6 => ?_) fun x3 i3 ns3 e5 hi3 => ?_
        · cases e6; omega
        · exact Tr.ok _ _ _ rfl
  · have h2 : ((ahd L' (i + k + 1)).tight = true ∧ (ahd L' (i + k + 1)).kind = 3 ∧ bare (ahd L i) = true ∧ (ahd L i).s = [45]) ↔ ((ahd L (i + 1)).tight = true ∧ (ahd L (i + 1)).kind = 3 ∧ bare (ahd L i) = true ∧ (ahd L i).s = [45]) := by
      rcases hs with h | ⟨h1, h2⟩
      · rw [h]
      · have a := stp_kind h1; have b := stp_kind h2
        constructor
        · intro h; exact absurd h.2.1 b
        · intro h; exact absurd h.2.1 a
    by_cases h3 : (ahd L (i + 1)).tight = true ∧ (ahd L (i + 1)).kind = 3 ∧ bare (ahd L i) = true ∧ (ahd L i).s = [45]
    · have e : ahd L' (i + k + 1) = ahd L (i + 1) := by
        rcases hs with h | ⟨h1, h4⟩
        · exact h
        · exact absurd h3.2.1 (stp_kind h1)
      rw [if_pos h3, if_pos (h2.2 h3), e]
      exact Tr.ok _ _ _ (by omega)
    · rw [if_neg h3, if_neg (fun h => h3 (h2.1 h))]
      split
      · rename_i own right hpre
        split
        · have h1 := ht right (i + 1) ns (by omega)
          rw [show i + 1 + k = i + k + 1 by omega] at h1
          refine h1.bind (fun x i1 ns1 y j ms e1 e2 => ?_) fun x i1 ns1 e1 hi1 => ?_
          · obtain ⟨t, i3, ns3, e5, e6⟩ := Out.bind_ok e2
            obtain ⟨rfl, -, -⟩ := funG_same e5
            cases e6; omega
          · refine (Tr.fn _ _ _ _ _ rfl).bind (fun x3 i3 ns3 y j ms e5 e6 => ?_) fun x3 i3 ns3 e5 hi3 => ?_
            · cases e6; omega
            · exact Tr.ok _ _ _ rfl
        · exact Tr.ok _ _ _ (by omega)
      · exact Tr.ok _ _ _ (by omega)
omit hW hS hr ht in
theorem zero_tr {o o' : Out Tm} (h : Tr D k j0 o o') : Tr D k j0 (zeroG o) (zeroG o') :=
  h.bind (fun x i ns y j ms e1 e2 => by cases e2; exact Nat.le_refl _) fun x i ns e hi => Tr.ok _ _ _ rfl
theorem prim_tr {most i : Nat} {ns : Nms} (hi : i0 ≤ i) : Tr D k j0 (primG L lv r most i ns) (primG L' lv r' most (i + k) ns) := by
  refine Tr.at (i + 1) (fun x j ms e => (prim_seg hr (T := x.1) (p := x.2) e).2) fun hj => ?_
  unfold primG
  rw [hW i hi (by omega)]
  split
  · exact zero_tr (num_tr hW hi (by omega))
  · split
    · exact zero_tr (var_tr hW hi (by omega))
    · split
      · exact zero_tr (brack_tr hW hS hr ht hi (by omega))
      · split
        · exact named_tr hW hS hr ht hi (by omega)
        · exact Tr.bad _ _ _
theorem loop_tr {most : Nat} : ∀ (n n' : Nat) (t : Tm) (pri i : Nat) (ns : Nms), i0 ≤ i → L.length < n + i → L'.length < n' + (i + k) → Tr D k j0 (loopG L lv r most n t pri i ns) (loopG L' lv r' most n' t pri (i + k) ns)
  | n, n', t, pri, i, ns, hi, hn, hn' => by
    refine Tr.at i (fun x j ms e => loop_le hr _ _ _ _ _ _ _ _ e) fun hj => ?_
    have hz : ∀ {M : List Tok} {x : Nat}, ahd M x = zTok → opG M most pri x = none := by
      intro M x e
      unfold opG
      rw [e]
      rw [if_neg (by decide)]
    have hs := opG_sim (most := most) (pri := pri) (sim_at hW hS hi hj)
    match n, n', hn, hn' with
    | 0, 0, hn, hn' => exact Tr.ok _ _ _ rfl
    | 0, n' + 1, hn, hn' =>
      rw [hz (ahd_end (L := L) (by omega))] at hs
      unfold loopG
      rw [hs]
      exact Tr.ok _ _ _ rfl
    | n + 1, 0, hn, hn' =>
      rw [hz (ahd_end (L := L') (by omega))] at hs
      unfold loopG
      rw [← hs]
      exact Tr.ok _ _ _ rfl
    | n + 1, n' + 1, hn, hn' =>
      unfold loopG
      rw [hs]
      cases ho : opG L most pri i with
      | none => exact Tr.ok _ _ _ rfl
      | some p =>
        obtain ⟨own, right⟩ := p
        simp only
        have hlt : i < j0 ∨ i = j0 := by omega
        rcases hlt with hlt | rfl
        · rw [hW i hi hlt]
          have h1 := ht right (i + 1) ns (by omega)
          rw [show i + 1 + k = i + k + 1 by omega] at h1
          refine h1.bind (fun x i1 ns1 y j ms e1 e2 => ?_) fun x i1 ns1 e1 hi1 => ?_
          · obtain ⟨v, i2, ns2, e3, e4⟩ := Out.bind_ok e2
            obtain ⟨rfl, -, -⟩ := funG_same e3
            exact loop_le hr _ _ _ _ _ _ _ _ e4
          · have := (hr _ _ _ _ _ _ e1).2
            refine (Tr.fn _ _ _ _ _ rfl).bind (fun x3 i3 ns3 y j ms e5 e6 => ?_) fun x3 i3 ns3 e5 hi3 => ?_
            · exact loop_le hr _ _ _ _ _ _ _ _ e6
            · obtain ⟨rfl, -, -⟩ := funG_same e5
              exact loop_tr n n' _ _ i3 ns3 (by omega) (by omega) (by omega)
        · intro x j ms e hj'
          exfalso
          obtain ⟨u, i1, ns1, e1, e2⟩ := Out.bind_ok e
          have := (hr _ _ _ _ _ _ e1).2
          obtain ⟨v, i2, ns2, e3, e4⟩ := Out.bind_ok e2
          obtain ⟨rfl, -, -⟩ := funG_same e3
          have := loop_le hr _ _ _ _ _ _ _ _ e4
          omega
end

theorem rd_tr {L L' : List Tok} {lv : Int} {k i0 j0 : Nat} (hW : ∀ x, i0 ≤ x → x < j0 → ahd L' (x + k) = ahd L x) (hS : Sim (ahd L j0) (ahd L' (j0 + k))) :
    ∀ (d d' : Nat), d' ≤ d → ∀ most i ns, i0 ≤ i → Tr (d' < d) k j0 (rd L lv d most i ns) (rd L' lv d' most (i + k) ns)
  | 0, d', hd, most, i, ns, hi => Tr.bad _ _ _
  | 1, d', hd, most, i, ns, hi => Tr.bad _ _ _
  | d + 2, 0, hd, most, i, ns, hi => fun x j ms e hj => .inr ⟨by omega, _, rfl⟩
  | d + 2, 1, hd, most, i, ns, hi => fun x j ms e hj => .inr ⟨by omega, _, rfl⟩
  | d + 2, d' + 2, hd, most, i, ns, hi => by
    have h0 := fun most i ns (hi : i0 ≤ i) => (rd_tr (lv := lv) hW hS d d' (by omega) most i ns hi).weak (D' := d' + 2 < d + 2) (by omega)
    have h1 := fun most i ns (hi : i0 ≤ i) => (rd_tr (lv := lv) hW hS (d + 1) (d' + 1) (by omega) most i ns hi).weak (D' := d' + 2 < d + 2) (by omega)
    rw [rd, rd]
    refine (prim_tr hW hS (rd_seg L lv d) h0 hi).bind (fun x i1 ns1 y j ms e1 e2 => loop_le (rd_seg L lv (d + 1)) _ _ _ _ _ _ _ _ e2) fun x i1 ns1 e1 hi1 => ?_
    have := (prim_seg (rd_seg L lv d) (T := x.1) (p := x.2) e1).2
    exact loop_tr hW hS (rd_seg L lv (d + 1)) h1 _ _ _ _ i1 ns1 (by omega) (by omega) (by omega)

/-- A sentence reads the same where its tokens are. -/
theorem readG_tr {L L' : List Tok} {lv : Int} {k i j : Nat} {T : Tm} {ms : Nms} (hW : ∀ x, i ≤ x → x < j → ahd L' (x + k) = ahd L x) (h : readG L lv i = .ok T j ms) : readG L' lv (i + k) = .ok T (j + k) ms := by
  obtain ⟨i1, h1, h2, h3, rfl, h5, h6⟩ := readG_ok h
  have e1 := hW i1 (by omega) (by omega)
  rcases rd_tr (lv := lv) (k := k) (i0 := i) (j0 := i1) (fun x a b => hW x a (by omega)) (.inl e1) 60 60 (Nat.le_refl _) 1200 i [] (Nat.le_refl _) _ _ _ h1 (Nat.le_refl _) with e | ⟨hD, -⟩
  · unfold readG
    rw [e]
    show (if (ahd L' (i1 + k)).kind ≠ 5 then _ else _) = _
    rw [e1, if_neg (by rw [h2]; decide), if_neg (by rw [h3]; decide)]
    rw [show i1 + k + 1 = i1 + 1 + k by omega]
  · omega
theorem ahd_left {A B : List Tok} {x : Nat} (h : x < A.length) : ahd (A ++ B) x = ahd A x := by
  unfold ahd
  rw [List.getD_eq_getElem?_getD, List.getD_eq_getElem?_getD, List.getElem?_append_left h]
theorem ahd_right (A B : List Tok) (x : Nat) : ahd (A ++ B) (x + A.length) = ahd B x := by
  unfold ahd
  rw [List.getD_eq_getElem?_getD, List.getD_eq_getElem?_getD, List.getElem?_append_right (by omega), Nat.add_sub_cancel]
theorem all_right (A B : List Tok) (lv : Int) : ∀ (m : Nat) (acc pre : List Tm) (i : Nat) (Us : List Tm) (g : Nat), allF B lv m acc i = .ok Us → i ≤ B.length → B.length < m + i → (A ++ B).length < g + (i + A.length) → allF (A ++ B) lv g (pre ++ acc) (i + A.length) = .ok (pre ++ Us)
  | 0, acc, pre, i, Us, g, h, hi, hm, hg => by omega
  | m + 1, acc, pre, i, Us, g, h, hi, hm, hg => by
    rw [List.length_append] at hg
    unfold allF at h
    cases g with
    | zero => omega
    | succ g =>
      unfold allF
      rw [List.length_append]
      split at h
      · cases h
        rw [if_pos (by omega)]
      · rename_i hlt
        rw [if_neg (by omega)]
        split at h
        · cases h
        · rename_i T j ms hr
          obtain ⟨i1, -, -, -, rfl, h5, h6⟩ := readG_ok hr
          rw [readG_tr (L' := A ++ B) (k := A.length) (fun x _ _ => ahd_right A B x) hr]
          simp only
          rw [List.append_assoc]
          exact all_right A B lv m _ pre _ Us g h (by omega) (by omega) (by rw [List.length_append]; omega)
/-- Sentences one behind another. -/
theorem all_two (A B : List Tok) (lv : Int) {Us : List Tm} (hB : allF B lv (B.length + 1) [] 0 = .ok Us) : ∀ (n : Nat) (acc : List Tm) (i : Nat) (Ts : List Tm) (g : Nat), allF A lv n acc i = .ok Ts → i ≤ A.length → A.length < n + i → (A ++ B).length < g + i → allF (A ++ B) lv g acc i = .ok (Ts ++ Us)
  | 0, acc, i, Ts, g, h, hi, hm, hg => by omega
  | n + 1, acc, i, Ts, g, h, hi, hm, hg => by
    unfold allF at h
    split at h
    · rename_i hle
      cases h
      obtain rfl : i = A.length := by omega
      have := all_right A B lv (B.length + 1) [] acc 0 Us g hB (by omega) (by omega) (by omega)
      simpa using this
    · rename_i hlt
      rw [List.length_append] at hg
      cases g with
      | zero => omega
      | succ g =>
        unfold allF
        rw [List.length_append, if_neg (by omega)]
        split at h
        · cases h
        · rename_i T j ms hr
          obtain ⟨i1, -, -, -, rfl, h5, h6⟩ := readG_ok hr
          have := readG_tr (L' := A ++ B) (k := 0) (fun x _ hx => by rw [Nat.add_zero]; exact ahd_left (by omega)) hr
          rw [Nat.add_zero, Nat.add_zero] at this
          rw [this]
          exact all_two A B lv hB n _ _ Ts g h (by omega) (by omega) (by rw [List.length_append]; omega)

/-! ### One sentence -/
theorem allF_acc {L : List Tok} {lv : Int} : ∀ (g : Nat) (acc : List Tm) (i : Nat) (Ts : List Tm), allF L lv g acc i = .ok Ts → acc.length ≤ Ts.length ∧ (i < L.length → 0 < g → acc.length < Ts.length)
  | 0, acc, i, Ts, h => by cases h; exact ⟨Nat.le_refl _, fun _ h => absurd h (by decide)⟩
  | g + 1, acc, i, Ts, h => by
    unfold allF at h
    split at h
    · cases h; exact ⟨Nat.le_refl _, fun h _ => by omega⟩
    · split at h
      · cases h
      · have := (allF_acc g _ _ Ts h).1
        simp at this
        exact ⟨by omega, fun _ _ => by omega⟩
theorem allF_first {L : List Tok} {lv : Int} {Ts : List Tm} (h : allF L lv (L.length + 1) [] 0 = .ok Ts) (hL : L ≠ []) : ∃ T i1 ns, rd L lv 60 1200 0 [] = .ok T i1 ns ∧ (ahd L i1).kind = 5 ∧ T.check lv = 0 ∧ i1 < L.length ∧ 0 < i1 ∧ (Ts = [T] → i1 + 1 = L.length) ∧ (Ts.length = 1 → Ts = [T]) := by
  have hpos : 0 < L.length := List.length_pos_iff.2 hL
  unfold allF at h
  rw [if_neg (by omega)] at h
  split at h
  · cases h
  · rename_i T j ms hr
    obtain ⟨i1, h1, h2, h3, rfl, h5, h6⟩ := readG_ok hr
    have h7 := allF_acc _ _ _ _ h
    have h8 : Ts.length = 1 → i1 + 1 = L.length := fun e => Decidable.byContradiction fun hn => by
      have := h7.2 (by omega) hpos
      rw [e] at this
      simp at this
    refine ⟨T, i1, ms, h1, h2, h3, h6, by omega, fun e => h8 (by rw [e]; rfl), fun e => ?_⟩
    have e2 := h8 e
    obtain ⟨n, hn⟩ : ∃ n, L.length = n + 1 := ⟨L.length - 1, by omega⟩
    rw [hn] at h
    unfold allF at h
    rw [if_pos (by omega)] at h
    cases h; rfl
theorem bal_congr {L L' : List Tok} {i i' : Nat} : ∀ n, (∀ x, x < n → ahd L (i + x) = ahd L' (i' + x)) → bal L i n = bal L' i' n
  | 0, _ => rfl
  | n + 1, h => by rw [bal, bal, bal_congr n (fun x hx => h x (by omega)), h n (by omega)]
theorem allG_small {l : List UInt8} (h : l.length ≤ 4096) (lv : Int) : allG l lv = match scan false l with
    | .bad p c => .bad p c
    | .ok ts => allF ts lv (ts.length + 1) [] 0 := by
  unfold allG full
  rw [if_neg (by omega)]
  cases scan false l <;> rfl
theorem allG_ok {l : List UInt8} (h : l.length ≤ 4096) {lv : Int} {Ts : List Tm} : allG l lv = .ok Ts ↔ ∃ ts, scan false l = .ok ts ∧ allF ts lv (ts.length + 1) [] 0 = .ok Ts := by
  rw [allG_small h]
  cases hs : scan false l with
  | bad p c => simp
  | ok ts => simp
/-- One sentence with a blank and an end behind it. -/
theorem one_cut {s v : List UInt8} {Ts : List Tm} {lv : Int} (hl : s.length ≤ 1000) (hT : Ts.length = 1) (h7 : 37 ∉ s) (hv : v = [46] ∨ v = [46, 10]) (h : allG (s ++ 32 :: v) lv = .ok Ts) : ∃ us T ns, scan false (s ++ [10]) = .ok us ∧ Ts = [T] ∧ rd (us ++ [tE]) lv 60 1200 0 [] = .ok T us.length ns ∧ T.check lv = 0 ∧ 0 < us.length ∧ bal us 0 us.length = 0 ∧ ∀ x, x < us.length → (ahd us x).kind ≠ 5 := by
  have hv2 : v.length ≤ 2 ∧ 39 ∉ v ∧ scan false v = .ok [tE] := by
    rcases hv with rfl | rfl
    · exact ⟨by decide, by decide, scan_end⟩
    · exact ⟨by decide, by decide, scan_end2⟩
  obtain ⟨ts, h1, h2⟩ := (allG_ok (by simp; omega)).1 h
  obtain ⟨us, vs, h3, h4, rfl⟩ := (scan_two h7 hv2.2.1 ts).1 h1
  rw [hv2.2.2] at h4
  cases h4
  obtain ⟨T, i1, ns, h5, h6, h8, h9, h10, h11, h12⟩ := allF_first h2 (by simp)
  have e := h11 (h12 hT)
  rw [List.length_append] at e
  simp at e
  subst e
  have g := (rd_seg _ lv 60 _ _ _ _ _ _ h5).1
  have hb := g.bal
  rw [Nat.sub_zero] at hb
  refine ⟨us, T, ns, h3, h12 hT, h5, h8, h10, ?_, fun x hx => ?_⟩
  · rw [← hb]
    exact bal_congr _ (fun x hx => (ahd_left (by omega)).symm)
  · have := g.ends x (by omega) hx
    rwa [ahd_left hx] at this
theorem ahd_zero (t : Tok) (l : List Tok) : ahd (t :: l) 0 = t := rfl
theorem ahd_succ (t : Tok) (l : List Tok) (x : Nat) : ahd (t :: l) (x + 1) = ahd l x := by simp [ahd]
/-- Tokens with no end but the last one, whose brackets don't go: no sentence. -/
theorem no_all {us : List Tok} {lv : Int} (he : ∀ x, x < us.length → (ahd us x).kind ≠ 5) (hb : bal us 0 us.length ≠ 0) (Ts : List Tm) : allF (us ++ [tE]) lv ((us ++ [tE]).length + 1) [] 0 ≠ .ok Ts := by
  intro h
  obtain ⟨T, i1, ns, h5, h6, h8, h9, h10, -, -⟩ := allF_first h (by simp)
  have e : i1 = us.length := by
    rw [List.length_append] at h9
    simp at h9
    refine Decidable.byContradiction fun hn => he i1 (by omega) ?_
    rw [← h6, ahd_left (by omega)]
  subst e
  have g := (rd_seg _ lv 60 _ _ _ _ _ _ h5).1.bal
  rw [Nat.sub_zero] at g
  exact hb (by rw [← g]; exact bal_congr _ (fun x hx => by rw [ahd_left (by omega)]))
/-- READERCUTS, apart from memory. -/
theorem cuts_ghost {s : List UInt8} {Ts : List Tm} (hl : s.length ≤ 1000) (hT : Ts.length = 1) (h7 : 37 ∉ s) (h6 : 46 ∉ s) (h : allG (s ++ [32, 46]) 4 = .ok Ts) : (∀ Us, allG ([40, 32] ++ s ++ [32, 46]) 4 ≠ .ok Us) ∧ (∀ Us, allG (s ++ [32, 41, 32, 46]) 4 ≠ .ok Us) ∧ ∀ Us, allG s 4 ≠ .ok Us := by
  obtain ⟨us, T, ns, h1, -, h2, h3, h4, h5, h8⟩ := one_cut hl hT h7 (.inl rfl) h
  refine ⟨fun Us hU => ?_, fun Us hU => ?_, fun Us hU => ?_⟩
  · obtain ⟨ts, g1, g2⟩ := (allG_ok (by simp; omega)).1 hU
    have e : [40, 32] ++ s ++ [32, 46] = 40 :: 32 :: (s ++ 32 :: [46]) := by simp
    rw [e, scan_pun (.inl rfl), after_ok] at g1
    obtain ⟨vs, g3, rfl⟩ := g1
    obtain ⟨us', ws, g4, g5, rfl⟩ := (scan_two h7 (by decide) vs).1 g3
    rw [h1] at g4
    rw [scan_end] at g5
    cases g4; cases g5
    have e2 : [tP 40] ++ (us ++ [tE]) = (tP 40 :: us) ++ [tE] := by simp
    rw [e2] at g2
    refine no_all (us := tP 40 :: us) (fun x hx => ?_) ?_ Us g2
    · cases x with
      | zero => rw [ahd_zero]; decide
      | succ x => rw [ahd_succ]; exact h8 x (by simpa using hx)
    · rw [List.length_cons, Nat.add_comm, bal_add, bal_congr (L' := us) (i' := 0) us.length (fun x hx => by rw [Nat.zero_add, Nat.add_comm 1 x, ahd_succ, Nat.zero_add]), h5]
      show ((0 : Int) + par (tP 40)) + 0 ≠ 0
      decide
  · obtain ⟨ts, g1, g2⟩ := (allG_ok (by simp; omega)).1 hU
    have e : s ++ [32, 41, 32, 46] = s ++ 32 :: (41 :: 32 :: [46]) := by simp
    rw [e] at g1
    obtain ⟨us', ws, g4, g5, rfl⟩ := (scan_two h7 (by decide) ts).1 g1
    rw [scan_pun (.inr rfl), scan_end] at g5
    rw [h1] at g4
    cases g4; cases g5
    have e2 : us ++ ([tP 41] ++ [tE]) = (us ++ [tP 41]) ++ [tE] := by simp
    rw [e2] at g2
    have hz : ahd (us ++ [tP 41]) us.length = tP 41 := by
      have := ahd_right us [tP 41] 0
      rwa [Nat.zero_add] at this
    refine no_all (us := us ++ [tP 41]) (fun x hx => ?_) ?_ Us g2
    · rw [List.length_append] at hx
      by_cases e3 : x = us.length
      · rw [e3, hz]; decide
      · rw [ahd_left (by simp at hx; omega)]; exact h8 x (by simp at hx; omega)
    · rw [List.length_append, bal_add, bal_congr (L' := us) (i' := 0) us.length (fun x hx => by rw [Nat.zero_add]; exact ahd_left hx), h5]
      show (0 : Int) + bal (us ++ [tP 41]) (0 + us.length) (0 + 1) ≠ 0
      rw [bal, bal, Nat.zero_add, Nat.add_zero, hz]
      decide
  · obtain ⟨ts, g1, g2⟩ := (allG_ok (by omega)).1 hU
    by_cases hn : ts = []
    · rw [hn] at g1
      have := scan_empty h7 g1
      rw [h1] at this
      cases this
      simp at h4
    · obtain ⟨T', i1, ns', -, k2, -, k4, -, -, -⟩ := allF_first g2 hn
      have hm : ahd ts i1 ∈ ts := by
        unfold ahd
        rw [List.getD_eq_getElem?_getD, List.getElem?_eq_getElem k4]
        exact List.getElem_mem k4
      exact scan_no46 _ _ _ _ (Nat.le_refl _) h6 g1 _ hm k2
/-- READERBRACKETS, the first half, apart from memory. -/
theorem brackets_ghost {s : List UInt8} {Ts : List Tm} (hl : s.length ≤ 1000) (hT : Ts.length = 1) (h7 : 37 ∉ s) (h : allG (s ++ [32, 46, 10]) 4 = .ok Ts) : allG ([40, 32] ++ s ++ [32, 41, 32, 46, 10]) 4 = .ok Ts ∨ ∃ p, allG ([40, 32] ++ s ++ [32, 41, 32, 46, 10]) 4 = .bad p 7 := by
  obtain ⟨us, T, ns, h1, rfl, h2, h3, h4, h5, h8⟩ := one_cut hl hT h7 (.inr rfl) h
  have e : [40, 32] ++ s ++ [32, 41, 32, 46, 10] = 40 :: 32 :: (s ++ 32 :: (41 :: 32 :: [46, 10])) := by simp
  have hsc : scan false (40 :: 32 :: (s ++ 32 :: (41 :: 32 :: [46, 10]))) = .ok (tP 40 :: (us ++ [tP 41, tE])) := by
    have : scan false (s ++ 32 :: (41 :: 32 :: [46, 10])) = .ok (us ++ [tP 41, tE]) := (scan_two h7 (by decide) _).2 ⟨us, [tP 41, tE], h1, by rw [scan_pun (.inr rfl), scan_end2]; rfl, rfl⟩
    rw [scan_pun (.inl rfl), this]; rfl
  rw [e, allG_small (by simp; omega), hsc]
  simp only
  obtain ⟨L, hL⟩ : ∃ L, L = tP 40 :: (us ++ [tP 41, tE]) := ⟨_, rfl⟩
  have hlen : L.length = us.length + 3 := by rw [hL]; simp
  have a0 : ahd L 0 = tP 40 := by rw [hL]; rfl
  have a1 : ∀ x, x < us.length → ahd L (x + 1) = ahd us x := fun x hx => by rw [hL, ahd_succ]; exact ahd_left hx
  have a2 : ahd L (us.length + 1) = tP 41 := by
    rw [hL, ahd_succ]
    have := ahd_right us [tP 41, tE] 0
    rwa [Nat.zero_add] at this
  have a3 : ahd L (us.length + 2) = tE := by
    rw [hL, show us.length + 2 = (us.length + 1) + 1 by omega, ahd_succ]
    have := ahd_right us [tP 41, tE] 1
    rwa [Nat.add_comm] at this
  rw [← hL]
  have hend : ahd (us ++ [tE]) us.length = tE := by
    have := ahd_right us [tE] 0
    rwa [Nat.zero_add] at this
  have key := rd_tr (L := us ++ [tE]) (L' := L) (lv := 4) (k := 1) (i0 := 0) (j0 := us.length) (fun x _ hx => by rw [a1 x hx, ahd_left hx]) (.inr ⟨by rw [hend]; exact .inl rfl, by rw [a2]; exact .inr ⟨rfl, rfl⟩⟩) 60 58 (by decide) 1200 0 [] (Nat.le_refl _) _ _ _ h2 (Nat.le_refl _)
  have hrd : rd L 4 60 1200 0 [] = (rd L 4 58 1200 1 []).bind fun t i ns => (needG L [41] t i ns).bind fun t i ns => loopG L 4 (rd L 4 59) 1200 (L.length + 1 - i) t 0 i ns := by
    rw [rd]
    unfold primG
    rw [if_neg (by rw [a0]; decide), if_neg (by rw [a0]; decide), if_pos (by rw [a0]; rfl)]
    unfold brackG
    rw [if_pos (by rw [a0]; rfl)]
    cases rd L 4 58 1200 (0 + 1) [] with
    | bad p c => rfl
    | ok t i ns =>
      show (zeroG (needG L [41] t i ns)).bind _ = (needG L [41] t i ns).bind _
      cases needG L [41] t i ns with
      | bad p c => rfl
      | ok t i ns => rfl
  have hread : readG L 4 0 = .ok T (us.length + 3) ns ∨ ∃ p, readG L 4 0 = .bad p 7 := by
    rcases key with k | ⟨-, p, k⟩
    · left
      have hnd : needG L [41] T (us.length + 1) ns = .ok T (us.length + 2) ns := by
        unfold needG
        rw [a2, if_pos (by decide)]
      have hlp : loopG L 4 (rd L 4 59) 1200 (L.length + 1 - (us.length + 2)) T 0 (us.length + 2) ns = .ok T (us.length + 2) ns := by
        rw [show L.length + 1 - (us.length + 2) = 1 + 1 by omega]
        unfold loopG
        have : opG L 1200 0 (us.length + 2) = none := by
          unfold opG
          rw [a3, if_neg (by decide)]
        rw [this]
      unfold readG
      rw [hrd, k]
      show ((needG L [41] T (us.length + 1) ns).bind _).bind _ = _
      rw [hnd]
      show (loopG L 4 (rd L 4 59) 1200 (L.length + 1 - (us.length + 2)) T 0 (us.length + 2) ns).bind _ = _
      rw [hlp]
      show (if (ahd L (us.length + 2)).kind ≠ 5 then _ else _) = _
      rw [a3, if_neg (by decide), if_neg (by rw [h3]; decide)]
    · right
      refine ⟨p, ?_⟩
      unfold readG
      rw [hrd, k]; rfl
  have e4 : L.length + 1 = (us.length + 2) + 1 + 1 := by omega
  rw [e4]
  rcases hread with k | ⟨p, k⟩
  · left
    unfold allF
    rw [if_neg (by omega), k]
    simp only
    unfold allF
    rw [if_pos (by omega)]
    rfl
  · right
    refine ⟨p, ?_⟩
    unfold allF
    rw [if_neg (by omega), k]
/-- READERBRACKETS, the other half. -/
theorem behind_ghost {s t : List UInt8} {Ts Us : List Tm} (hl : s.length ≤ 1000) (ht : t.length ≤ 1000) (h : allG (s ++ [32, 46, 10]) 4 = .ok Ts) (g : allG t 4 = .ok Us) : allG (s ++ [32, 46, 10] ++ t) 4 = .ok (Ts ++ Us) := by
  obtain ⟨ts, h1, h2⟩ := (allG_ok (by simp; omega)).1 h
  obtain ⟨us, g1, g2⟩ := (allG_ok (by omega)).1 g
  refine (allG_ok (by simp; omega)).2 ⟨ts ++ us, ?_, ?_⟩
  · have e : s ++ [32, 46, 10] ++ t = (s ++ [32, 46]) ++ 10 :: t := by simp
    have e2 : s ++ [32, 46, 10] = (s ++ [32, 46]) ++ [10] := by simp
    rw [e2] at h1
    rw [e, scan_join _ false _ t (Nat.le_refl _), h1, g1]; rfl
  · exact all_two ts us 4 g2 (ts.length + 1) [] 0 Ts _ h2 (by omega) (by omega) (by omega)
end Go.Proofs.YtgodbmmhkmockaaGreatDoor
