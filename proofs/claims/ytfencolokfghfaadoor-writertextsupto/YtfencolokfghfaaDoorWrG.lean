/-
  writer.Answer: what it answers.
-/
import Derived.Test.YtfencolokfghfaaDoorWrF
namespace Go.Proofs.YtfencolokfghfaaDoor
open Go.Shelf Go.RowKit Go.Sort
set_option linter.unusedVariables false

/-- Texts in memory. -/
def StrIn (w : World) (a : Option Addr) (ns : List ByteArray) : Prop := ∀ i s, ns[i]? = some s → ∃ g o, a = some ⟨g, o, none⟩ ∧ g < w.heap.size ∧ w.cell? ⟨g, o + i, none⟩ = some (.string s)
theorem StrIn.below {w w' : World} {a : Option Addr} {ns : List ByteArray} (h : StrIn w a ns) (hb : Below w.heap.size w w') : StrIn w' a ns := fun i s hs => by
  obtain ⟨g, o, h1, h2, h3⟩ := h i s hs
  exact ⟨g, o, h1, Nat.lt_of_lt_of_le h2 hb.size, (hb.cell (p := ⟨g, o + i, none⟩) h2).trans h3⟩
def tellO (x : ByteArray × Tm) : Option ByteArray := if Lib.hasPrefix x.1.data.toList [95] = true then none else some (x.1 ++ ByteArray.mk #[32, 61, 32] ++ strV x.2.txt)
def toldL (ns : List ByteArray) (vs : List Tm) (k : Nat) : List ByteArray := ((ns.zip vs).take k).filterMap tellO
def ansL (ns : List ByteArray) (vs : List Tm) : List UInt8 :=
  if (toldL ns vs (ns.zip vs).length).length = 0 then [121, 101, 115] else Lib.join ((toldL ns vs (ns.zip vs).length).map (·.data.toList)) [44, 32]
def OwnS (w : World) (base : Nat) (v : Value) (ss : List ByteArray) : Prop := w.ownsRow base 9 1 v ss.length (ss.map Value.string)
theorem OwnS.form {w : World} {base : Nat} {v : Value} {l : List ByteArray} (h : OwnS w base v l) : ∃ a c, v = .slice a l.length c := by
  obtain ⟨hl, ⟨rfl, h1⟩ | ⟨g, cap, cur, rfl, hg, hh, h4, h5, h6, h7⟩⟩ := h
  · exact ⟨none, 0, by rw [h1]⟩
  · exact ⟨_, _, rfl⟩
theorem infoStr : (Tryd.prog.info? 9).map (fun i => (i.zero, i.size, i.bytes)) = some (some (.string (ByteArray.mk #[])), 1, 16) := by kernel_rfl
theorem wpList_append_s {w : World} {ops : Array Oper} {rest : List Oper} {o : Oper} {a : Act} {Q : Exit → Act → World → Prop} (hgd : o.guard = none) (s x : Operand)
    (ho : o.op = .call { callee := .builtin .append, args := #[s, x], argTypes := #[25, 25] })
    (base : Nat) (v : Value) (l : List ByteArray) (hs : a.eval s = v) (hown : OwnS w base v l) (B : Nat) (y : ByteArray) (hx : a.eval x = .slice (some ⟨B, 0, none⟩) 1 1)
    (hr : w.cell? ⟨B, 0, none⟩ = some (.string y)) (hl : l.length ≤ 1000000) (hbase : base ≤ w.heap.size)
    (h : ∀ v' w', OwnS w' base v' (l ++ [y]) → w.grownBy w' v.ownBlock → wpList Tryd.prog ops Q rest (a.put o.dst v') w') : wpList Tryd.prog ops Q (o :: rest) a w := by
  obtain ⟨i0, hi, hz0, hz1, hz2⟩ := info_parts infoStr
  refine wpList_append_own _ hgd s x 25 ho base 9 i0 _ 1 16 Tryd.underlying25 hi hz0 hz1 hz2 rfl (by decide) v l.length (l.map Value.string) hs hown ⟨B, 0, none⟩ 1 1 [.string y] hx rfl (fun j u hj => ?_) (fun u hu => by simp at hu; subst hu; rfl) (by unfold maxLen; omega) (by omega) hbase ?_
  · have : j = 0 := by have := (List.getElem?_eq_some_iff.1 hj).1; simpa using this
    subst this
    simp at hj
    subst hj
    simpa [Addr.add] using hr
  · intro v' w' h1 h2 _
    exact h v' w' (by unfold OwnS; rw [List.length_append, List.map_append]; exact h1) h2
theorem toldL_succ {ns : List ByteArray} {vs : List Tm} {k : Nat} {x : ByteArray × Tm} (h : (ns.zip vs)[k]? = some x) : toldL ns vs (k + 1) = toldL ns vs k ++ (tellO x).toList := by
  unfold toldL
  rw [List.take_add_one, h, List.filterMap_append]
  cases hx : tellO x with
  | none => simp [hx]
  | some y => simp [hx]
theorem joinTail_len {c : Nat} (sep : List UInt8) : ∀ (r : List (List UInt8)), (∀ x ∈ r, x.length ≤ c) → (Lib.joinTail sep r).length ≤ (c + sep.length) * r.length
  | [], _ => by simp [Lib.joinTail]
  | x :: r, h => by
    have h1 := joinTail_len sep r (fun y hy => h y (by simp [hy]))
    have h2 := h x (by simp)
    simp only [Lib.joinTail, List.map_cons, List.flatten_cons, List.length_append, List.length_cons] at h1 ⊢
    rw [Nat.mul_add]
    omega
theorem join_len {c : Nat} (sep : List UInt8) (r : List (List UInt8)) (h : ∀ x ∈ r, x.length ≤ c) : (Lib.join r sep).length ≤ (c + sep.length) * r.length := by
  cases r with
  | nil => simp [Lib.join_nil]
  | cons x r =>
    have h1 := joinTail_len sep r (fun y hy => h y (by simp [hy]))
    have h2 := h x (by simp)
    rw [Lib.join_cons, List.length_append, List.length_cons, Nat.mul_add]
    omega
theorem txt_bound {p : Nat → Prop} {W : World} {v : Value} {t : Tm} (h : TmIn p W v t) (hb : t.byt ≤ 2000000 ∧ t.size ≤ 1000000) : t.txt.length ≤ 45000000 := by
  have := Tm.txt_len t (h.nums 1)
  omega
set_option maxRecDepth 100000 in
set_option maxHeartbeats 4000000 in
theorem answer_at (ns : List ByteArray) (vs : List Tm) (a0 : Option Addr) (cap0 : Nat) (a1 : Option Addr) (cap1 : Nat) (w : World) (hns : StrIn w a0 ns) (hc0 : ns.length ≤ cap0) (hcm : cap0 ≤ maxLen) (ha0 : a0 = none → cap0 = 0) (hvs : HasTs w (.slice a1 vs.length cap1) vs) (hT : TabP w)
    (hv : ∀ t ∈ vs, t.byt ≤ 2000000 ∧ t.size ≤ 1000000) (hvl : vs.length ≤ 1000) (hnl : ns.length ≤ 9223372036854775807) (hn : ∀ s ∈ ns, s.size ≤ 2000000) : Calls Tryd.prog 9 #[.slice a0 ns.length cap0, .slice a1 vs.length cap1] w fun e w' => e = .returned (.string (strV (ansL ns vs))) ∧ Below w.heap.size w w' := by
  obtain ⟨m, hm⟩ : ∃ m, m = (ns.zip vs).length := ⟨_, rfl⟩
  have hm2 : m = min ns.length vs.length := by rw [hm, List.length_zip]
  have hmi : min (ns.length : Int) (vs.length : Int) = (m : Int) := by omega
  have hm3 : (m : Int) ≤ (cap0 : Int) := by omega
  have hm4 : (0 : Int) ≤ (m : Int) := by omega
  go_enter Tryd.func9, Tryd.ntmps9
  have hTs := hvs
  obtain ⟨a1', cap1', hvv, -, -, -, hel⟩ := hvs
  injection hvv with hv1 hv2 hv3
  subst hv1 hv3
  have htold : ∀ k, ∀ x ∈ toldL ns vs k, x.size ≤ 50000000 := by
    intro k x hx
    unfold toldL at hx
    obtain ⟨y, hy, hyx⟩ := List.mem_filterMap.1 hx
    have hz := List.mem_of_mem_take hy
    obtain ⟨i, hi, e⟩ := List.getElem_of_mem hz
    rw [List.getElem_zip] at e
    have hi1 : i < ns.length := by rw [List.length_zip] at hi; omega
    have hi2 : i < vs.length := by rw [List.length_zip] at hi; omega
    obtain ⟨b, o, k1, n1, s1, a2, l2, c2, -, -, -, -, -, -, hTm⟩ := hel i hi2
    have h1 := hn _ (List.getElem_mem hi1)
    have h2 := txt_bound hTm (hv _ (List.getElem_mem hi2))
    rw [← e] at hyx
    unfold tellO at hyx
    split at hyx
    · cases hyx
    · injection hyx with hyx
      rw [← hyx, ByteArray.size_append, ByteArray.size_append, strV_size]
      have : (ByteArray.mk #[32, 61, 32]).size = 3 := rfl
      simp only at *
      omega
  have hlen : ∀ k, k ≤ m → (toldL ns vs k).length ≤ 1000 := fun k hk => by
    have := List.length_filterMap_le tellO ((ns.zip vs).take k)
    rw [List.length_take] at this
    unfold toldL
    omega
  have HT := Lib.hid (And.intro htold (And.intro hlen (And.intro hm hel)))
  have HM := Lib.hid hm2
  clear htold hlen hm hel hm2
  go_wp2_with fail
  go_loopg [5, 16] m (fun g x z wr => ∃ k : Nat, z = .int .i64 k ∧ g + k = m ∧ OwnS wr w.heap.size x (toldL ns vs k) ∧ Below w.heap.size w wr)
  case atStart => exact ⟨0, rfl, by omega, World.ownsRow_nil _ _ _ _, Below.refl _ _⟩
  case round =>
    obtain ⟨k, rfl, hgk, hO, hbr⟩ := hrel
    obtain ⟨xa, xc, rfl⟩ := hO.form
    cases gk with
    | zero =>
      have hkk : ¬ ((k : Int) < (m : Int)) := by omega
      obtain ⟨htold, hlen, hm, hel⟩ := HT.out
      have hke : k = (ns.zip vs).length := by omega
      have hl1 := hlen k (by omega)
      have ht1 := htold k
      by_cases h0 : (toldL ns vs k).length = 0
      · have ha : ansL ns vs = [121, 101, 115] := by unfold ansL; rw [← hke, if_pos h0]
        have h0' : ((toldL ns vs k).length : Int) = 0 := by omega
        have HA := Lib.hid ha
        clear ha htold hlen ht1 hel hke hm
        go_wp2_with fail
        go_ret
        rw [HA.out]
        exact ⟨rfl, hbr⟩
      · have ha : ansL ns vs = Lib.join ((toldL ns vs k).map (·.data.toList)) [44, 32] := by unfold ansL; rw [← hke, if_neg h0]
        have h0' : (((toldL ns vs k).length : Int) == 0) = false := by rw [beq_eq_false_iff_ne]; omega
        obtain ⟨hol, ⟨-, h1⟩ | ⟨g, cap, cur, hgv, hg, hh, h4, h5, h6, h7⟩⟩ := id hO
        · exact absurd h1 h0
        · injection hgv with e1 e2 e3
          subst e1 e3
          have hjl := join_len (c := 50000000) [44, 32] ((toldL ns vs k).map (·.data.toList)) (fun x hx => by
            obtain ⟨y, hy, rfl⟩ := List.mem_map.1 hx
            exact ht1 y hy)
          have hj := Tryd.strings_Join g 0 xc (toldL ns vs k) (ByteArray.mk #[44, 32]) wr (fun j x hx => by
            have hjl : j < (toldL ns vs k).length := (List.getElem?_eq_some_iff.1 hx).1
            rw [Nat.zero_add, Lib.cell_of_heap hh]
            have e : cur.toList[j]? = ((toldL ns vs k).map Value.string)[j]? := by
              rw [← h7, List.getElem?_take_of_lt (by omega)]
            rw [List.getElem?_map, hx] at e
            simpa using e) ((Array.getElem?_eq_some_iff.1 hh).1) (by omega) h4 (by
              have : (ByteArray.mk #[44, 32]).data.toList = [44, 32] := rfl
              rw [this]
              simp only [List.length_map, List.length_cons, List.length_nil] at hjl
              have : (50000000 + (0 + 1 + 1)) * (toldL ns vs k).length ≤ 50000002 * 1000 := Nat.mul_le_mul (by omega) hl1
              omega)
          have HA := Lib.hid ha
          have HJ := Lib.hid hj
          clear ha htold hlen ht1 hel hj hjl hol h7 hO hke hm h0
          go_wp2_with (first | (go_at_call 25; (with_reducible refine HJ.out.mono ?_); rintro e W2 ⟨rfl, hb2⟩))
          go_ret
          rw [HA.out]
          exact ⟨rfl, bel hbr hb2⟩
    | succ q =>
      have hkk : ((k : Int) < (m : Int)) := by omega
      obtain ⟨htold, hlen, hm, hel⟩ := HT.out
      have hm2 := HM.out
      have hk1 : k < ns.length := by omega
      have hk2 : k < vs.length := by omega
      have hk3 : (k : Int) < (vs.length : Int) := by omega
      have hl1 := hlen k (by omega)
      have hz : (ns.zip vs)[k]? = some (ns[k], vs[k]) := by
        rw [List.getElem?_eq_getElem (by rw [List.length_zip]; omega), List.getElem_zip]
      have hsu := toldL_succ hz
      obtain ⟨g, o, hga, hgl, hgc⟩ := (hns.below hbr) k ns[k] (List.getElem?_eq_getElem hk1)
      subst hga
      obtain ⟨a1', cap1', hvv, -, -, -, hel2⟩ := hTs.below hbr
      injection hvv with hv1 hv2 hv3
      subst hv1 hv3
      obtain ⟨b, o2, k1, n1, s1, a2, l2, c2, he, hbl, q0, q1, q2, q3, hTm⟩ := hel2 k hk2
      subst he
      have hvk := hv _ (List.getElem_mem hk2)
      have hnk := hn _ (List.getElem_mem hk1)
      have htx := text_at vs[k] _ wr hTm (hT.later hbr) hvk.1 hvk.2
      have htb := txt_bound hTm hvk
      have hts : (strV vs[k].txt).size = vs[k].txt.length := strV_size _
      have hpf := fun W => Tryd.strings_HasPrefix ns[k] (ByteArray.mk #[95]) W
      generalize hnm : ns[k] = nm at *
      generalize htt : vs[k] = t at *
      have HS := Lib.hid hsu
      have HTX := Lib.hid htx
      cases hpx : Lib.hasPrefix nm.data.toList [95] with
      | true =>
        have hpf' : ∀ W, Calls Tryd.prog 24 #[.string nm, .string (ByteArray.mk #[95])] W fun e w' => e = .returned (.bool true) ∧ w' = W := fun W => by
          have := hpf W
          rwa [show (ByteArray.mk #[95]).data.toList = [95] from rfl, hpx] at this
        have hto : tellO (nm, t) = none := by unfold tellO; rw [if_pos hpx]
        have HTO := Lib.hid hto
        clear hto hpf hsu htx hpx htold hlen hel hel2 hm2 hm
        go_wp2_with (first | (go_at_call 24; refine (hpf' _).mono ?_; rintro e W2 ⟨rfl, rfl⟩))
        go_roundg q
        case measure => omega
        case rel => exact ⟨k + 1, by simp, by omega, by rw [HS.out, HTO.out]; simpa using hO, hbr⟩
      | false =>
        have hpf' : ∀ W, Calls Tryd.prog 24 #[.string nm, .string (ByteArray.mk #[95])] W fun e w' => e = .returned (.bool false) ∧ w' = W := fun W => by
          have := hpf W
          rwa [show (ByteArray.mk #[95]).data.toList = [95] from rfl, hpx] at this
        have hto : tellO (nm, t) = some (nm ++ ByteArray.mk #[32, 61, 32] ++ strV t.txt) := by unfold tellO; rw [if_neg (by rw [hpx]; decide)]
        have HTO := Lib.hid hto
        clear hto hpf hsu htx hpx htold hlen hel hel2 hm2 hm
        go_wp2_with (first
          | (go_at_call 24; refine (hpf' _).mono ?_; rintro e W2 ⟨rfl, rfl⟩)
          | (go_at_call 7; (with_reducible refine HTX.out.mono ?_); rintro e W3 ⟨rfl, hb3⟩)
          | (at_builtin; refine wpList_append_s rfl _ _ rfl w.heap.size (.slice xa (toldL ns vs k).length xc) (toldL ns vs k) rfl (owns_below (owns_below hO hb3) (bel_al (Below.refl _ _) _)) W3.heap.size _ rfl (by rw [Lib.cell_of_heap (alloc_new _ _)]; rfl) (by omega) (by have := hbr.size; have := hb3.size; simp; omega) ?_; intro v' W4 hO4 hg4; have hb4 := (bel_al (bel hbr hb3) _).grown hg4 (by have := hbr.size; have := hb3.size; simp; omega) (fun k' hk' => (World.ownsRow.lt hO k' hk').1)))
        go_roundg q
        case measure => omega
        case rel => exact ⟨k + 1, by simp, by omega, by rw [HS.out, HTO.out]; exact hO4, hb4⟩
end Go.Proofs.YtfencolokfghfaaDoor
