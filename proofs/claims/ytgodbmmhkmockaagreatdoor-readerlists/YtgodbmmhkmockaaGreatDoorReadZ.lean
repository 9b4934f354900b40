/-
  Figures in square brackets: their tokens, and what these read as, apart from memory.
-/
import Derived.Test.YtgodbmmhkmockaaGreatDoorReadY
namespace Go.Proofs.YtgodbmmhkmockaaGreatDoor
open Go.RowKit
set_option linter.unusedVariables false

def tQ (c : UInt8) (g : Bool) : Tok := ⟨4, [c], 0, false, g⟩
theorem scan_pq (g : Bool) {c : UInt8} (hc : c = 91 ∨ c = 44) (x : List UInt8) : scan g (c :: x) = (scan true x).after [tQ c g] 1 := by
  have h0 : skp false (c :: x) = 0 := by rcases hc with rfl | rfl <;> simp [skp, blkB]
  have hf : fstR (c :: x) = .tok (tP c) 1 := by
    rcases hc with rfl | rfl
    · unfold fstR
      simp only
      rw [if_neg (by decide), if_neg (by decide), if_neg (by decide), if_neg (by decide), if_pos (by decide)]
      rfl
    · unfold fstR
      simp only
      rw [if_neg (by decide), if_neg (by decide), if_neg (by decide), if_neg (by decide), if_pos (by decide)]
      rfl
  rw [scan_tok (l := c :: x) g (t := tP c) (n := 1) (by rw [h0]; exact hf), h0]
  simp [tP, tQ]
def lsT (b : UInt8) : List UInt8 := [44, 32, dgt b]
def lsK (b : UInt8) : List Tok := [tQ 44 true, tN b false]
def tlT (v : Bool) : List UInt8 := (if v then [124, 84] else []) ++ [93, 46]
def tlK (v : Bool) : List Tok := (if v then [tQ 124 true, ⟨2, [84], 0, false, true⟩] else []) ++ [tQ 93 true, tE']
theorem past_ls (l : List UInt8) (v : Bool) : past (l.flatMap lsT ++ tlT v) := by
  cases l with
  | nil => cases v <;> exact past_pun (by decide) _
  | cons b l => exact past_pun (.inl rfl) _
theorem scan_ls (v : Bool) : ∀ (l : List UInt8), scan true (l.flatMap lsT ++ tlT v) = .ok (l.flatMap lsK ++ tlK v)
  | [] => by cases v <;> decide +kernel
  | b :: l => by
    have ih := scan_ls v l
    have hp := past_ls l v
    rw [List.flatMap_cons, List.flatMap_cons, List.append_assoc, List.append_assoc]
    generalize l.flatMap lsT ++ tlT v = r at ih hp
    generalize l.flatMap lsK ++ tlK v = ts at ih
    show scan true (44 :: 32 :: dgt b :: r) = .ok ([tQ 44 true, tN b false] ++ ts)
    rw [scan_pq true (.inr rfl), scan_blank, scan_dig false b hp, ih]
    simp [ScanR.after]
theorem scan_list (b : UInt8) (l : List UInt8) (v : Bool) : scan false (91 :: dgt b :: (l.flatMap lsT ++ tlT v)) = .ok (tQ 91 false :: tN b true :: (l.flatMap lsK ++ tlK v)) := by
  rw [scan_pq false (.inl rfl), scan_dig true b (past_ls l v), scan_ls]; simp [ScanR.after]
theorem ls_none {L : List Tok} {i : Nat} (l : List UInt8) (v : Bool) (h : L.drop i = l.flatMap lsK ++ tlK v) : opG L 999 0 i = none := by
  cases l with
  | nil =>
    cases v
    · exact op_none (ahd_at h).1 (by decide) (by decide)
    · exact op_none (ahd_at h).1 (by decide) (by decide)
  | cons b l =>
    have := (ahd_at (t := tQ 44 true) (ts := tN b false :: (l.flatMap lsK ++ tlK v)) h).1
    unfold opG
    rw [this]
    decide
theorem more_ls {L : List Tok} {lv : Int} {d : Nat} (v : Bool) : ∀ (l : List UInt8) (n : Nat) (acc : List Tm) (i : Nat) (ns : Nms), L.drop i = l.flatMap lsK ++ tlK v → l.length ≤ n → ∃ j, moreG L (rd L lv (d + 2)) n acc i ns = .ok (acc ++ l.map fun b => nM (b.toNat % 10)) j ns ∧ L.drop j = tlK v
  | [], n, acc, i, ns, h, hn => by
    refine ⟨i, ?_, h⟩
    rw [List.map_nil, List.append_nil]
    cases n with
    | zero => rfl
    | succ n =>
      unfold moreG
      cases v
      · rw [(ahd_at (t := tQ 93 true) h).1]; rfl
      · rw [(ahd_at (t := tQ 124 true) h).1]; rfl
  | b :: l, 0, acc, i, ns, h, hn => by simp at hn
  | b :: l, n + 1, acc, i, ns, h, hn => by
    obtain ⟨a1, h⟩ := ahd_at (t := tQ 44 true) (ts := tN b false :: (l.flatMap lsK ++ tlK v)) h
    obtain ⟨a2, h⟩ := ahd_at h
    obtain ⟨j, e, hj⟩ := more_ls v l n (acc ++ [nM (b.toNat % 10)]) (i + 1 + 1) ns h (by simpa using hn)
    refine ⟨j, ?_, hj⟩
    unfold moreG
    rw [a1, if_pos (by decide), rd_num a2 (ls_none l v h)]
    show moreG L (rd L lv (d + 2)) n (acc ++ [nM (b.toNat % 10)]) (i + 1 + 1) ns = _
    rw [e]
    simp
def lsU (v : Bool) : Tm := if v then .mk 1 0 empB [] else nilT
def lsM (l : List UInt8) (u : Tm) : Tm := consT (l.map fun b => nM (b.toNat % 10)) u
theorem lsU_fine (v : Bool) : Fine (lsU v) 1 1 := by
  cases v
  · exact ⟨by decide +kernel, by decide +kernel, by decide +kernel⟩
  · exact ⟨by decide +kernel, by decide +kernel, by decide +kernel⟩
theorem lsM_fine (u : Tm) (hu : Fine u 1 1) : ∀ (l : List UInt8), Fine (lsM l u) (l.length + 1) (2 * l.length + 1)
  | [] => hu
  | b :: l => by
    have ih := lsM_fine u hu l
    show Fine (pairT (nM (b.toNat % 10)) (lsM l u)) _ _
    exact ((Fine.num _).two ih (formed_two _ _ _)).weak (by rw [List.length_cons]; omega) (by rw [List.length_cons]; omega)
theorem lsT_len : ∀ (l : List UInt8), (l.flatMap lsT).length = 3 * l.length
  | [] => rfl
  | b :: l => by
    have := lsT_len l
    rw [List.flatMap_cons, List.length_append, this, List.length_cons, lsT]; simp; omega
theorem lsK_len : ∀ (l : List UInt8), (l.flatMap lsK).length = 2 * l.length
  | [] => rfl
  | b :: l => by
    have := lsK_len l
    rw [List.flatMap_cons, List.length_append, this, List.length_cons, lsK]; simp; omega
theorem tl_len (v : Bool) : 2 ≤ (tlK v).length ∧ (tlT v).length ≤ 4 := by cases v <;> decide
/-- The list's end: what stands behind the stroke, or nothing; and the bracket. -/
theorem tl_read {L : List Tok} {lv : Int} {d i : Nat} (v : Bool) (ts : List Tm) (h : L.drop i = tlK v) : ∃ j ns, ((restG L (rd L lv (d + 2)) i []).bind fun u i ns => needG L [93] (consT ts u) i ns) = .ok (consT ts (lsU v)) j ns ∧ ahd L j = tE' ∧ L.drop (j + 1) = [] := by
  cases v with
  | false =>
    obtain ⟨a1, h⟩ := ahd_at (t := tQ 93 true) (ts := [tE']) h
    obtain ⟨a2, h⟩ := ahd_at h
    refine ⟨i + 1, [], ?_, a2, h⟩
    unfold restG
    rw [a1, if_neg (by decide)]
    show needG L [93] (consT ts nilT) i [] = _
    unfold needG
    rw [a1, if_pos (by decide)]; rfl
  | true =>
    obtain ⟨a1, h⟩ := ahd_at (t := tQ 124 true) (ts := [⟨2, [84], 0, false, true⟩, tQ 93 true, tE']) h
    obtain ⟨a2, h⟩ := ahd_at h
    obtain ⟨a3, h⟩ := ahd_at h
    obtain ⟨a4, h⟩ := ahd_at h
    refine ⟨i + 1 + 1 + 1, [[84]], ?_, a4, h⟩
    have hr : rd L lv (d + 2) 999 (i + 1) [] = .ok (.mk 1 0 empB []) (i + 1 + 1) [[84]] := by
      rw [rd]
      unfold primG
      rw [if_neg (by rw [a2]; decide), if_pos (by rw [a2])]
      unfold varG
      rw [a2, if_neg (by simp)]
      exact loop_stop (op_none a3 (by decide) (by decide))
    unfold restG
    rw [a1, if_pos (by decide), hr]
    show needG L [93] (consT ts (.mk 1 0 empB [])) (i + 1 + 1) [[84]] = _
    unfold needG
    rw [a3, if_pos (by decide)]; rfl
/-- READERLISTS, apart from memory. -/
theorem lists_ghost (b : UInt8) (l : List UInt8) (v : Bool) (hl : l.length ≤ 19) : allG (91 :: dgt b :: (l.flatMap lsT ++ tlT v)) 1 = .ok [lsM (b :: l) (lsU v)] := by
  have hpl := lsT_len l
  have htl := tl_len v
  refine (allG_ok (by rw [List.length_cons, List.length_cons, List.length_append]; omega)).2 ⟨_, scan_list b l v, ?_⟩
  obtain ⟨L, hL⟩ : ∃ L, L = tQ 91 false :: tN b true :: (l.flatMap lsK ++ tlK v) := ⟨_, rfl⟩
  have a0 : ahd L 0 = tQ 91 false := by rw [hL]; rfl
  have a1 : ahd L 1 = tN b true := by rw [hL]; rfl
  have hd : L.drop 2 = l.flatMap lsK ++ tlK v := by rw [hL]; rfl
  have hlen : L.length = 2 * l.length + 2 + (tlK v).length := by have := lsK_len l; rw [hL, List.length_cons, List.length_cons, List.length_append]; omega
  rw [← hL]
  obtain ⟨j, h1, h2⟩ := more_ls (L := L) (lv := 1) (d := 56) v l (L.length + 1 - 2) [nM (b.toNat % 10)] 2 [] hd (by omega)
  obtain ⟨j', ns, h3, h4, h5⟩ := tl_read (L := L) (lv := 1) (d := 56) v ([nM (b.toNat % 10)] ++ l.map fun b => nM (b.toNat % 10)) h2
  refine all_one (j := j') (ns := ns) ?_ (by rw [h4]; rfl) h5 ?_
  · have hn : rd L 1 58 999 1 [] = .ok (nM (b.toNat % 10)) 2 [] := rd_num (d := 56) a1 (ls_none l v hd)
    have hli : listG L (rd L 1 58) 1 [] = .ok (lsM (b :: l) (lsU v)) j' ns := by
      unfold listG
      rw [a1, if_neg (by intro h; cases h)]
      unfold argsG
      rw [hn]
      show ((moreG L (rd L 1 58) (L.length + 1 - 2) [nM (b.toNat % 10)] 2 []).bind _) = _
      rw [h1]
      exact h3
    rw [rd]
    unfold primG
    rw [if_neg (by rw [a0]; decide), if_neg (by rw [a0]; decide), if_pos (by rw [a0]; rfl)]
    unfold brackG
    rw [a0, if_neg (by decide), if_pos (by decide)]
    show (zeroG (listG L (rd L 1 58) 1 [])).bind _ = _
    rw [hli]
    exact loop_stop (op_none h4 (by decide) (by decide))
  · exact (lsM_fine _ (lsU_fine v) (b :: l)).check (by simp; omega) (by simp; omega)
theorem empty_ghost : allG [91, 93, 46] 1 = .ok [nilT] := by
  refine (allG_ok (by decide)).2 ⟨[tQ 91 false, tQ 93 true, tE'], by decide +kernel, ?_⟩
  kernel_rfl
end Go.Proofs.YtgodbmmhkmockaaGreatDoor
