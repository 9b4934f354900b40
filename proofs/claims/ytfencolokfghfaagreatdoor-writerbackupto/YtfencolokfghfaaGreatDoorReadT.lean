/-
  What the tokens of a text may be; All, apart from memory; no error has the code 0; what is read may be, and its variables are 0, 1, and so on.
-/
import Derived.Test.YtfencolokfghfaaGreatDoorReadG
import Derived.Test.YtfencolokfghfaaGreatDoorTokN
import Derived.Test.YtfencolokfghfaaGreatDoorTokS
namespace Go.Proofs.YtfencolokfghfaaGreatDoor
open Go.RowKit
set_option linter.unusedVariables false

theorem limR_num {t : Tok} {n m : Nat} {t' : Tok} (h : limR t n = .tok t' m) : t' = t := by
  unfold limR at h
  split at h
  · cases h
  · cases h; rfl
theorem quoF_num : ∀ {f : Nat} {acc l : List UInt8} {a : Nat} {t : Tok} {m : Nat}, quoF f acc l a = .tok t m → t.n = 0
  | 0, _, _, _, _, _, h => by cases h
  | f + 1, acc, l, a, t, m, h => by
    unfold quoF at h
    split at h
    · cases h
    · split at h
      · rw [limR_num h]
      · split at h
        · cases h
        · exact quoF_num h
theorem wrap_ok (u : Int) : i64ok (IntKind.i64.wrap u) := by
  constructor <;> (simp only [IntKind.wrap_i64]; omega)
theorem fstR_num {l : List UInt8} {t : Tok} {n : Nat} (h : fstR l = .tok t n) : i64ok t.n := by
  have hw : ∀ {k : Int} {l : List UInt8}, wrt k l = .tok t n → i64ok t.n := fun h => by rw [limR_num h]; show i64ok (0 : Int); exact ⟨by decide, by decide⟩
  cases l with
  | nil => cases h
  | cons a r =>
    unfold fstR at h
    simp only at h
    split at h
    · exact hw h
    · split at h
      · exact hw h
      · split at h
        · unfold numR at h
          split at h
          · cases h
          · split at h
            · split at h
              · cases h
              · cases h; exact wrap_ok _
            · cases h
        · split at h
          · rw [quoF_num h]; exact ⟨by decide, by decide⟩
          · split at h
            · exact hw h
            · split at h
              · exact hw h
              · split at h
                · exact hw h
                · split at h
                  · exact hw h
                  · cases h
theorem scan_num : ∀ (k : Nat) (b : Bool) (l : List UInt8) (ts : List Tok), l.length ≤ k → scan b l = .ok ts → ∀ t ∈ ts, i64ok t.n
  | k, b, l, ts, hk, h => by
    by_cases hd : l.drop (skp false l) = []
    · rw [scan_nil b hd] at h
      cases h
      intro t ht; cases ht
    · cases hf : fstR (l.drop (skp false l)) with
      | bad c => rw [scan_bad b hd hf] at h; cases h
      | tok t n =>
        rw [scan_tok b hf] at h
        have O := fstR_ok hf
        have h1 := O.pos
        have h2 := O.le
        rw [List.length_drop] at h2
        cases hr : scan true (l.drop (skp false l + n)) with
        | bad p c => rw [hr] at h; cases h
        | ok us =>
          rw [hr] at h
          simp only [ScanR.after] at h
          have e := ScanR.ok.inj h
          subst e
          cases k with
          | zero => omega
          | succ k =>
            have ih := scan_num k true _ us (by simp; omega) hr
            intro t' ht
            simp only [List.singleton_append, List.mem_cons] at ht
            rcases ht with rfl | ht
            · show i64ok t.n; exact fstR_num hf
            · exact ih t' ht
theorem full_tok {l : List UInt8} {ts : List Tok} (h : full l = .ok ts) : ts.length ≤ 4096 ∧ ∀ t ∈ ts, i64ok t.n ∧ t.s.length ≤ 4096 := by
  obtain ⟨h1, h2, h3, h4, h5⟩ := full_facts h
  refine ⟨by omega, fun t ht => ⟨?_, by have := (h2 t ht).short; omega⟩⟩
  unfold full at h
  split at h
  · cases h
  · exact scan_num _ _ _ _ (Nat.le_refl _) h t ht
theorem readG_ok {L : List Tok} {lv : Int} {i j : Nat} {T : Tm} {ns : Nms} (h : readG L lv i = .ok T j ns) : ∃ i1, rd L lv 60 1200 i [] = .ok T i1 ns ∧ (ahd L i1).kind = 5 ∧ T.check lv = 0 ∧ j = i1 + 1 ∧ i < i1 ∧ i1 < L.length := by
  unfold readG at h
  obtain ⟨t, i1, ns1, e1, e2⟩ := Out.bind_ok h
  split at e2
  · cases e2
  · rename_i hk
    split at e2
    · cases e2
    · rename_i hc
      cases e2
      have hk' : (ahd L i1).kind = 5 := Decidable.byContradiction fun e => hk e
      exact ⟨i1, e1, hk', Decidable.byContradiction fun e => hc e, rfl, (rd_seg L lv 60 _ _ _ _ _ _ e1).2, ahd_lt (by rw [hk']; decide)⟩
/-- All, apart from memory. -/
def allG (l : List UInt8) (lv : Int) : AllR := match full l with
  | .bad p c => .bad p c
  | .ok ts => allF ts lv (ts.length + 1) [] 0

def exT7 : List UInt8 := [49, 32, 45, 32, 50, 32, 45, 32, 51, 46, 32, 97, 64, 50, 46]
def exK7 : List Tok := [⟨3, [], 1, false, false⟩, ⟨1, [45], 0, false, false⟩, ⟨3, [], 2, false, false⟩, ⟨1, [45], 0, false, false⟩, ⟨3, [], 3, false, false⟩, ⟨5, [46], 0, false, true⟩, ⟨1, [97], 0, false, false⟩, ⟨1, [64], 0, false, true⟩, ⟨3, [], 2, false, true⟩, ⟨5, [46], 0, false, true⟩]
theorem ex_full7 : full exT7 = .ok exK7 := by decide +kernel
def exOne : Tm := .mk 3 0 (strV [45]) [.mk 3 0 (strV [45]) [.mk 2 1 empB [], .mk 2 2 empB []], .mk 2 3 empB []]
def exTwo : Tm := .mk 4 2 empB [.mk 3 0 (strV [97]) []]
theorem ex_all7 : allF exK7 4 11 [] 0 = .ok [exOne, exTwo] := by kernel_rfl
end Go.Proofs.YtfencolokfghfaaGreatDoor
namespace Go.Proofs.YtfencolokfghfaaGreatDoor
open Go.RowKit
set_option linter.unusedVariables false

theorem Out.bind_bad {α β : Type} {o : Out α} {f : α → Nat → Nms → Out β} {j : Nat} {c : Int} (h : o.bind f = .bad j c) : o = .bad j c ∨ ∃ x i ns, o = .ok x i ns ∧ f x i ns = .bad j c := by
  cases o with
  | ok x i ns => exact .inr ⟨x, i, ns, rfl, h⟩
  | bad i c' => cases h; exact .inl rfl
def NZ (r : Rdr) : Prop := ∀ most i ns j c, r most i ns = .bad j c → c ≠ 0
theorem funG_nz {lv : Int} {nm : List UInt8} {ks : List Tm} {i j : Nat} {ns : Nms} {c : Int} (h : funG lv nm ks i ns = .bad j c) : c ≠ 0 := by
  unfold funG at h
  split at h
  · split at h
    · split at h
      · cases h; decide
      · cases h
    · cases h
  · cases h
theorem needG_nz {α : Type} {L : List Tok} {s : List UInt8} {x : α} {i j : Nat} {ns : Nms} {c : Int} (h : needG L s x i ns = .bad j c) : c ≠ 0 := by
  unfold needG at h
  split at h
  · cases h
  · cases h; decide
section
variable {L : List Tok} {lv : Int} {r : Rdr} (hr : NZ r)
include hr
theorem more_nz : ∀ (n : Nat) (acc : List Tm) (i : Nat) (ns : Nms) (j : Nat) (c : Int), moreG L r n acc i ns = .bad j c → c ≠ 0
  | 0, _, _, _, _, _, h => by cases h
  | n + 1, acc, i, ns, j, c, h => by
    unfold moreG at h
    split at h
    · rcases Out.bind_bad h with h | ⟨x, i', ns', -, h⟩
      · exact hr _ _ _ _ _ h
      · exact more_nz n _ _ _ _ _ h
    · cases h
theorem args_nz {i j : Nat} {ns : Nms} {c : Int} (h : argsG L r i ns = .bad j c) : c ≠ 0 := by
  rcases Out.bind_bad h with h | ⟨x, i', ns', -, h⟩
  · exact hr _ _ _ _ _ h
  · exact more_nz hr _ _ _ _ _ _ h
theorem list_nz {i j : Nat} {ns : Nms} {c : Int} (h : listG L r i ns = .bad j c) : c ≠ 0 := by
  unfold listG at h
  split at h
  · cases h
  · rcases Out.bind_bad h with h | ⟨x, i', ns', -, h⟩
    · exact args_nz hr h
    · rcases Out.bind_bad h with h | ⟨y, i2, ns2, -, h⟩
      · unfold restG at h
        split at h
        · exact hr _ _ _ _ _ h
        · cases h
      · exact needG_nz h
theorem brack_nz {i j : Nat} {ns : Nms} {c : Int} (h : brackG L r i ns = .bad j c) : c ≠ 0 := by
  unfold brackG at h
  split at h
  · rcases Out.bind_bad h with h | ⟨x, i', ns', -, h⟩
    · exact hr _ _ _ _ _ h
    · exact needG_nz h
  · split at h
    · exact list_nz hr h
    · cases h; decide
theorem named_nz {most i j : Nat} {ns : Nms} {c : Int} (h : namedG L lv r most i ns = .bad j c) : c ≠ 0 := by
  unfold namedG at h
  split at h
  · rcases Out.bind_bad h with h | ⟨x, i', ns', -, h⟩
    · exact args_nz hr h
    · rcases Out.bind_bad h with h | ⟨y, i2, ns2, -, h⟩
      · exact needG_nz h
      · rcases Out.bind_bad h with h | ⟨y, i2, ns2, -, h⟩
        · exact funG_nz h
        · cases h
  · split at h
    · cases h
    · split at h
      · split at h
        · rcases Out.bind_bad h with h | ⟨x, i', ns', -, h⟩
          · exact hr _ _ _ _ _ h
          · rcases Out.bind_bad h with h | ⟨y, i2, ns2, -, h⟩
            · exact funG_nz h
            · cases h
        · cases h
      · cases h
theorem prim_nz {most i j : Nat} {ns : Nms} {c : Int} (h : primG L lv r most i ns = .bad j c) : c ≠ 0 := by
  have hz : ∀ {o : Out Tm}, zeroG o = .bad j c → o = .bad j c := fun {o} e => by
    rcases Out.bind_bad e with h | ⟨x, i', ns', -, h⟩
    · exact h
    · cases h
  unfold primG at h
  split at h
  · have := hz h
    unfold numG at this
    split at this
    · cases this; decide
    · cases this
  · split at h
    · have := hz h
      unfold varG at this
      split at this <;> cases this
    · split at h
      · exact brack_nz hr (hz h)
      · split at h
        · exact named_nz hr h
        · cases h; decide
theorem loop_nz {most : Nat} : ∀ (n : Nat) (t : Tm) (pri i : Nat) (ns : Nms) (j : Nat) (c : Int), loopG L lv r most n t pri i ns = .bad j c → c ≠ 0
  | 0, _, _, _, _, _, _, h => by cases h
  | n + 1, t, pri, i, ns, j, c, h => by
    unfold loopG at h
    split at h
    · cases h
    · rcases Out.bind_bad h with h | ⟨x, i', ns', -, h⟩
      · exact hr _ _ _ _ _ h
      · rcases Out.bind_bad h with h | ⟨y, i2, ns2, -, h⟩
        · exact funG_nz h
        · exact loop_nz n _ _ _ _ _ _ h
end
theorem rd_nz (L : List Tok) (lv : Int) : ∀ d, NZ (rd L lv d)
  | 0 => fun most i ns j c h => by cases h; decide
  | 1 => fun most i ns j c h => by cases h; decide
  | d + 2 => fun most i ns j c h => by
    rw [rd] at h
    rcases Out.bind_bad h with h | ⟨x, i', ns', -, h⟩
    · exact prim_nz (rd_nz L lv d) h
    · exact loop_nz (rd_nz L lv (d + 1)) _ _ _ _ _ _ _ h
theorem readG_nz {L : List Tok} {lv : Int} {i j : Nat} {c : Int} (h : readG L lv i = .bad j c) : c ≠ 0 := by
  unfold readG at h
  rcases Out.bind_bad h with h | ⟨x, i', ns', -, h⟩
  · exact rd_nz L lv 60 _ _ _ _ _ h
  · split at h
    · cases h; decide
    · split at h
      · rename_i hc; cases h; exact hc
      · cases h
theorem allF_nz {L : List Tok} {lv : Int} : ∀ (g : Nat) (acc : List Tm) (i j : Nat) (c : Int), allF L lv g acc i = .bad j c → c ≠ 0
  | 0, _, _, _, _, h => by cases h
  | g + 1, acc, i, j, c, h => by
    unfold allF at h
    split at h
    · cases h
    · split at h
      · rename_i hr; cases h; exact readG_nz hr
      · exact allF_nz g _ _ _ _ h
theorem scan_nz : ∀ (k : Nat) (b : Bool) (l : List UInt8) (p : Nat) (c : Int), l.length ≤ k → scan b l = .bad p c → c ≠ 0
  | k, b, l, p, c, hk, h => by
    by_cases hd : l.drop (skp false l) = []
    · rw [scan_nil b hd] at h; cases h
    · cases hf : fstR (l.drop (skp false l)) with
      | bad c' =>
        rw [scan_bad b hd hf] at h
        cases h
        have := fstR_bad hf
        omega
      | tok t n =>
        rw [scan_tok b hf] at h
        have O := fstR_ok hf
        have h1 := O.pos
        have h2 := O.le
        rw [List.length_drop] at h2
        cases hr : scan true (l.drop (skp false l + n)) with
        | ok us => rw [hr] at h; cases h
        | bad p' c' =>
          rw [hr] at h
          simp only [ScanR.after, ScanR.bad.injEq] at h
          obtain ⟨-, rfl⟩ := h
          cases k with
          | zero => omega
          | succ k => exact scan_nz k true _ p' _ (by simp; omega) hr
theorem allG_nz {l : List UInt8} {lv : Int} {p : Nat} {c : Int} (h : allG l lv = .bad p c) : c ≠ 0 := by
  unfold allG at h
  cases hf : full l with
  | bad p' c' =>
    rw [hf] at h
    cases h
    unfold full at hf
    split at hf
    · cases hf; decide
    · exact scan_nz _ _ _ _ _ (Nat.le_refl _) hf
  | ok ts => rw [hf] at h; exact allF_nz _ _ _ _ _ h
end Go.Proofs.YtfencolokfghfaaGreatDoor
namespace Go.Proofs.YtfencolokfghfaaGreatDoor
open Go.RowKit
set_option linter.unusedVariables false

theorem addV_vl : ∀ (l : List (Nat × Tm)) (acc : List Int), l.foldl addV acc = (l.filterMap fun x => if x.2.kind = 1 then some x.2.num else none).foldl addNew acc
  | [], _ => rfl
  | x :: l, acc => by
    rw [List.foldl_cons, addV_vl l, List.filterMap_cons]
    unfold addV
    by_cases h : x.2.kind = 1
    · simp [h]
    · simp [h]
theorem vars_vl (T : Tm) : T.vars = (vlist T).foldl addNew [] := addV_vl _ _
def rng (n : Nat) : List Int := (List.range n).map Int.ofNat
theorem rng_has (n : Nat) (x : Int) : (rng n).contains x = decide (0 ≤ x ∧ x < n) := by
  rw [Bool.eq_iff_iff]
  simp only [rng, List.contains_iff_mem, List.mem_map, List.mem_range, decide_eq_true_eq]
  constructor
  · rintro ⟨a, ha, rfl⟩; simp; omega
  · rintro ⟨h1, h2⟩; exact ⟨x.toNat, by omega, by simp; omega⟩
theorem rng_succ (n : Nat) : rng (n + 1) = rng n ++ [(n : Int)] := by simp [rng, List.range_succ]
theorem scan_rng : ∀ (l : List Int) (c n : Nat), scanV c l = some n → l.foldl addNew (rng c) = rng n
  | [], c, n, h => by simp only [scanV, Option.some.injEq] at h; rw [h]; rfl
  | x :: l, c, n, h => by
    rw [List.foldl_cons]
    unfold scanV at h
    split at h
    · rename_i hx
      have : addNew (rng c) x = rng c := by unfold addNew; rw [rng_has, decide_eq_true hx]; rfl
      rw [this]; exact scan_rng l c n h
    · rename_i hx
      split at h
      · rename_i he
        have : addNew (rng c) x = rng (c + 1) := by unfold addNew; rw [rng_has, decide_eq_false hx, rng_succ, he]; rfl
        rw [this]; exact scan_rng l (c + 1) n h
      · cases h
theorem read_vars {L : List Tok} {lv : Int} {i j : Nat} {T : Tm} {ns : Nms} (h : readG L lv i = .ok T j ns) : T.check lv = 0 ∧ T.vars = rng ns.length ∧ T.size ≤ L.length := by
  obtain ⟨i1, h1, -, h3, -, -, h6⟩ := readG_ok h
  have g := (rd_seg L lv 60 _ _ _ _ _ _ h1).1
  have hv := g.vars
  have hz := g.size
  rw [List.flatMap_cons, List.flatMap_nil, List.append_nil] at hv
  rw [Tm.sizes_cons, Tm.sizes_nil] at hz
  refine ⟨h3, ?_, by omega⟩
  rw [vars_vl]
  exact scan_rng _ 0 _ hv
/-- What is read may be. -/
def GoodT (lv : Int) (T : Tm) : Prop := T.check lv = 0 ∧ (∃ n, T.vars = rng n ∧ n ≤ 4096) ∧ T.size ≤ 4096
theorem allF_good {L : List Tok} (hL : L.length ≤ 4096) {lv : Int} : ∀ (g : Nat) (acc : List Tm) (i : Nat) (Ts : List Tm), (∀ t ∈ acc, GoodT lv t) → acc.length ≤ i → i ≤ L.length → allF L lv g acc i = .ok Ts → (∀ t ∈ Ts, GoodT lv t) ∧ Ts.length ≤ 4096
  | 0, acc, i, Ts, ha, hl, hi, h => by cases h; exact ⟨ha, by omega⟩
  | g + 1, acc, i, Ts, ha, hl, hi, h => by
    unfold allF at h
    split at h
    · cases h; exact ⟨ha, by omega⟩
    · split at h
      · cases h
      · rename_i T j ns hr
        obtain ⟨h1, h2, h3⟩ := read_vars hr
        obtain ⟨i1, e1, -, -, rfl, h5, h6⟩ := readG_ok hr
        have hn := (rd_seg L lv 60 _ _ _ _ _ _ e1).1.names
        refine allF_good hL g _ _ Ts (fun t ht => ?_) (by simp; omega) (by omega) h
        rcases List.mem_append.1 ht with ht | ht
        · exact ha t ht
        · rw [List.mem_singleton.1 ht]; exact ⟨h1, ⟨_, h2, by simp at hn; omega⟩, by omega⟩
theorem allG_good {l : List UInt8} {lv : Int} {Ts : List Tm} (h : allG l lv = .ok Ts) : (∀ t ∈ Ts, GoodT lv t) ∧ Ts.length ≤ 4096 := by
  unfold allG at h
  cases hf : full l with
  | bad p c => rw [hf] at h; cases h
  | ok ts =>
    rw [hf] at h
    exact allF_good (full_tok hf).1 _ [] 0 Ts (by simp) (by simp) (by omega) h
theorem ex_allG7 : allG exT7 4 = .ok [exOne, exTwo] := by
  unfold allG
  rw [ex_full7]
  exact ex_all7
end Go.Proofs.YtfencolokfghfaaGreatDoor
