/-
  The walk of TokenJoins.
-/
import Derived.Test.YtnkadfbdmffhcaaDoorTokSameF
import Derived.Test.YtnkadfbdmffhcaaDoorTokMR
import Derived.Test.YtnkadfbdmffhcaaDoorTokN
namespace Go.Proofs.YtnkadfbdmffhcaaDoor
open Go.RowKit Go.Lib
set_option linter.unusedVariables false

theorem OwnTk.made0 (w : World) (base : Nat) (hb : base ≤ w.heap.size) : OwnTk (w.alloc (.cells #[] 31)) base (.slice (some ⟨w.heap.size, 0, none⟩) 0 0) [] :=
  ⟨rfl, Or.inr ⟨w.heap.size, 0, #[], rfl, hb, alloc_new _ _, Nat.le_refl _, Nat.zero_le _, rfl, rfl⟩⟩
/-- append onto tokens of one's own, of tokens wherever they lie. -/
theorem wpList_append_tks {w : World} {ops : Array Oper} {rest : List Oper} {o : Oper} {a : Act} {Q : Exit → Act → World → Prop} (hw : Region.wanted o (yielded ops a.tmps) = true) (s x : Operand)
    (ho : o.op = .call { callee := .builtin .append, args := #[s, x], argTypes := #[25, 25] })
    (base : Nat) (v : Value) (l : List Tok) (hs : a.eval s = v) (hown : OwnTk w base v l) (m : Nat) (u : Value) (r : List Tok) (hx : a.eval x = u) (hr : OwnTk w m u r)
    (hl : l.length + r.length ≤ 1000000000000) (hbase : base ≤ w.heap.size)
    (h : ∀ v' w', OwnTk w' base v' (l ++ r) → w.grownBy w' v.ownBlock → wpList Tryd.prog ops Q rest (a.put o.dst v') w') : wpList Tryd.prog ops Q (o :: rest) a w := by
  obtain ⟨i0, hi, hz0, hz1, hz2⟩ := info_parts infoTok
  have key : ∃ v' w', (Builtin.append_ #[25, 25] o.type #[v, u]).run Tryd.prog w = .ok v' w' ∧ OwnTk w' base v' (l ++ r) ∧ w.grownBy w' v.ownBlock := by
    obtain ⟨hrl, ⟨rfl, h0⟩ | ⟨g, cap, cur, rfl, hg, hh, h4, h5, h6, h7⟩⟩ := hr
    · obtain rfl : r = [] := List.eq_nil_of_length_eq_zero h0
      exact ⟨v, w, run_append_owned_none w base 25 o.type 31 i0 5 Tryd.underlying25 hi v l.length (flatT l) hown, by rw [List.append_nil]; exact hown, ⟨rfl, rfl, rfl, Nat.le_refl _, fun _ _ _ => rfl⟩⟩
    · obtain ⟨v', w', hr', ho', hg', _⟩ := run_append_own_at (P := Tryd.prog) w base 25 o.type 31 i0 _ 5 40 Tryd.underlying25 hi hz0 hz1 hz2 rfl (by decide) v l.length (flatT l) hown ⟨g, 0, none⟩ r.length cap (flatT r) (flatT_length r) (fun j e hj => by
        rw [add_off, Nat.zero_add, cells_at hh, ← hj, ← h7]
        have := (List.getElem?_eq_some_iff.1 hj).1
        rw [flatT_length] at this
        rw [List.getElem?_take_of_lt this]; simp) (flatT_one r) (by unfold maxLen; omega) (by omega) hbase
      exact ⟨v', w', hr', by unfold OwnTk; rw [List.length_append, flatT_append]; exact ho', hg'⟩
  obtain ⟨v', w', h1, h2, h3⟩ := key
  refine wpList_step fun K hK => ?_
  rw [if_pos hw]
  unfold Oper.wp
  simp only [execOp, ho, resolve, invoke, builtin, Sem.run_bind, Sem.run_pure, Result.andThen_ok, List.map_toArray, List.map_cons, List.map_nil, hs, hx, h1]
  exact hK _ _ (h v' w' h2 h3)

theorem full_joins (u v : List UInt8) (hu : u.length ≤ 1500) (hv : v.length ≤ 1500) : full (u ++ [10] ++ v) = joinR (full (u ++ [10])) (u.length + 1) (full v) := by
  have e : u ++ [10] ++ v = u ++ 10 :: v := by simp
  rw [full_small (l := u ++ [10] ++ v) (by simp; omega), full_small (l := u ++ [10]) (by simp; omega), full_small (l := v) (by omega), e, scan_join _ false u v (Nat.le_refl _)]

set_option maxRecDepth 100000 in
set_option maxHeartbeats 8000000 in
theorem tokenJoins_at (s t : ByteArray) (w : World) (L : Laid w) (hs : s.size ≤ 9223372036854775807) (ht : t.size ≤ 9223372036854775807) :
    Calls Tryd.prog 6 #[.string s, .string t] w (Ans w (.bool true)) := by
  have h0 := shown_at w L
  by_cases g1 : 1500 < s.size
  · have g1' : (1500 : Int) < (s.size : Int) := by omega
    go_enter Tryd.func6, Tryd.ntmps6
    go_wp2_with (go_at_call 10; refine h0.mono ?_; rintro e w1 ⟨rfl, hb1⟩)
    go_ret
    exact ⟨rfl, hb1⟩
  · have g1' : decide ((1500 : Int) < (s.size : Int)) = false := by simp; omega
    by_cases g2 : 1500 < t.size
    · have g2' : (1500 : Int) < (t.size : Int) := by omega
      go_enter Tryd.func6, Tryd.ntmps6
      go_wp2_with (go_at_call 10; refine h0.mono ?_; rintro e w1 ⟨rfl, hb1⟩)
      go_ret
      exact ⟨rfl, hb1⟩
    · have g2' : decide ((1500 : Int) < (t.size : Int)) = false := by simp; omega
      obtain ⟨u, hu⟩ : ∃ u, s.data.toList = u := ⟨_, rfl⟩
      obtain ⟨v, hv⟩ : ∃ v, t.data.toList = v := ⟨_, rfl⟩
      have lu := len_le hu
      have lv := len_le hv
      have fa : (s ++ { data := #[10] }).data.toList = u ++ [10] := by rw [app_list, hu]
      have fc : (s ++ { data := #[10] } ++ t).data.toList = u ++ [10] ++ v := by rw [app_list, app_list, hu, hv]
      have za : (s ++ { data := #[10] }).size ≤ 4096 := by rw [len_of fa]; simp; omega
      have zc : (s ++ { data := #[10] } ++ t).size ≤ 4096 := by rw [len_of fc]; simp; omega
      have sa := fun W hW => scan_at _ _ fa W (L.later hW) (by omega)
      have sb := fun W hW => scan_at t v hv W (L.later hW) (by omega)
      have sc := fun W hW => scan_at _ _ fc W (L.later hW) (by omega)
      rw [full_joins u v (by omega) (by omega)] at sc
      have lenA : ∀ ts, full (u ++ [10]) = .ok ts → ts.length ≤ 2000 := fun ts h => by
        have := (full_facts h).2.2.2.1
        simp at this; omega
      have lenB : ∀ ts, full v = .ok ts → ts.length ≤ 2000 := fun ts h => by
        have := (full_facts h).2.2.2.1
        omega
      clear fa fc za zc lu lv hu hv
      cases hf : full (u ++ [10]) with
      | bad p cd =>
        rw [hf] at sa sc
        simp only [joinR] at sc
        cases hg : full v with
        | bad p2 cd2 =>
          rw [hg] at sb
          clear hf hg lenA lenB
          go_enter Tryd.func6, Tryd.ntmps6
          go_wp2_with (first
            | (go_at_call 16; with_reducible refine (sc _ ?_).mono ?_; exact bel (bel hb1 hb2) hb3; intro e w4 hsp; obtain ⟨x4, rfl, hb4⟩ := hsp.bad; clear hsp)
            | (go_at_call 16; with_reducible refine (sb _ ?_).mono ?_; exact bel hb1 hb2; intro e w3 hsp; obtain ⟨x3, rfl, hb3⟩ := hsp.bad; clear hsp)
            | (go_at_call 16; with_reducible refine (sa _ ?_).mono ?_; exact hb1; intro e w2 hsp; obtain ⟨x2, rfl, hb2⟩ := hsp.bad; clear hsp)
            | (go_at_call 10; refine h0.mono ?_; rintro e w1 ⟨rfl, hb1⟩))
          go_ret
          exact ⟨rfl, bel (bel (bel hb1 hb2) hb3) hb4⟩
        | ok us =>
          rw [hg] at sb
          clear hf hg lenA lenB
          go_enter Tryd.func6, Tryd.ntmps6
          go_wp2_with (first
            | (go_at_call 16; with_reducible refine (sc _ ?_).mono ?_; exact bel (bel hb1 hb2) hb3; intro e w4 hsp; obtain ⟨x4, rfl, hb4⟩ := hsp.bad; clear hsp)
            | (go_at_call 16; with_reducible refine (sb _ ?_).mono ?_; exact bel hb1 hb2; intro e w3 hsp; obtain ⟨a3, c3, rfl, o3, hb3⟩ := hsp.ok; clear hsp)
            | (go_at_call 16; with_reducible refine (sa _ ?_).mono ?_; exact hb1; intro e w2 hsp; obtain ⟨x2, rfl, hb2⟩ := hsp.bad; clear hsp)
            | (go_at_call 10; refine h0.mono ?_; rintro e w1 ⟨rfl, hb1⟩))
          go_ret
          exact ⟨rfl, bel (bel (bel hb1 hb2) hb3) hb4⟩
      | ok ts =>
        rw [hf] at sa sc
        simp only [joinR] at sc
        cases hg : full v with
        | bad p2 cd2 =>
          rw [hg] at sb sc
          simp only [ScanR.after] at sc
          clear hf hg lenA lenB
          go_enter Tryd.func6, Tryd.ntmps6
          go_wp2_with (first
            | (go_at_call 16; with_reducible refine (sc _ ?_).mono ?_; exact bel (bel hb1 hb2) hb3; intro e w4 hsp; obtain ⟨x4, rfl, hb4⟩ := hsp.bad; clear hsp)
            | (go_at_call 16; with_reducible refine (sb _ ?_).mono ?_; exact bel hb1 hb2; intro e w3 hsp; obtain ⟨x3, rfl, hb3⟩ := hsp.bad; clear hsp)
            | (go_at_call 16; with_reducible refine (sa _ ?_).mono ?_; exact hb1; intro e w2 hsp; obtain ⟨a2, c2, rfl, o2, hb2⟩ := hsp.ok; clear hsp)
            | (go_at_call 10; refine h0.mono ?_; rintro e w1 ⟨rfl, hb1⟩))
          go_ret
          exact ⟨rfl, bel (bel (bel hb1 hb2) hb3) hb4⟩
        | ok us =>
          rw [hg] at sb sc
          simp only [ScanR.after] at sc
          have hla := lenA ts hf
          have hlb := lenB us hg
          clear hf hg lenA lenB
          go_enter Tryd.func6, Tryd.ntmps6
          go_wp2_with (first
            | (at_builtin; refine wpList_append_tks rfl _ _ rfl w4.heap.size _ [] rfl (OwnTk.made0 w4 _ (Nat.le_refl _)) w1.heap.size _ ts rfl (OwnTk.alloc (OwnTk.below (OwnTk.below o2 hb3) hb4) _) ?c1 ?c2 ?_)
            | (go_at_call 16; with_reducible refine (sc _ ?_).mono ?_; exact bel (bel hb1 hb2) hb3; intro e w4 hsp; obtain ⟨a4, c4, rfl, o4, hb4⟩ := hsp.ok; clear hsp)
            | (go_at_call 16; with_reducible refine (sb _ ?_).mono ?_; exact bel hb1 hb2; intro e w3 hsp; obtain ⟨a3, c3, rfl, o3, hb3⟩ := hsp.ok; clear hsp)
            | (go_at_call 16; with_reducible refine (sa _ ?_).mono ?_; exact hb1; intro e w2 hsp; obtain ⟨a2, c2, rfl, o2, hb2⟩ := hsp.ok; clear hsp)
            | (go_at_call 10; refine h0.mono ?_; rintro e w1 ⟨rfl, hb1⟩))
          case c1 => simp; omega
          case c2 => simp
          · intro v5 w5 o5 hg5
            have hb5 : Below w4.heap.size w4 w5 := (bel_al (Below.refl _ _) (.cells #[] 31)).grown hg5 (by simp) (fun k hk => by simp [Value.ownBlock] at hk; omega)
            replace o5 : OwnTk w5 w4.heap.size v5 ts := o5
            obtain ⟨a5, c5, rfl⟩ := o5.form
            have o35 := OwnTk.below (OwnTk.below o3 hb4) hb5
            have o45 := OwnTk.below o4 hb5
            have hs5 := hb5.size
            go_wp2_with (at_builtin; refine wpList_append_tks rfl _ _ rfl w4.heap.size _ ts rfl o5 w2.heap.size _ us rfl o35 ?d1 ?d2 ?_)
            case d1 => omega
            case d2 => exact hs5
            · intro v6 w6 o6 hg6
              have hb6 : Below w4.heap.size w4 w6 := hb5.grown hg6 hs5 (OwnTk.lt o5)
              have o46 := OwnTk.below o4 hb6
              have sm := same_loose w6 _ _ _ v6 (ts ++ us) o46 o6 (by simp; omega)
              rw [List.length_append] at sm
              have HB := Lib.hid (bel (bel (bel (bel hb1 hb2) hb3) hb4) hb6)
              clear o6 hg6 o46 o35 o45 o5 o2 o3 o4 hb5 hg5 sa sb sc h0
              go_wp2_with (go_at_call 18; with_reducible refine sm.mono ?_; rintro e w7 ⟨rfl, hb7⟩)
              go_ret
              exact ⟨rfl, bel HB.out hb7⟩
end Go.Proofs.YtnkadfbdmffhcaaDoor
