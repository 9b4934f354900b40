/-
  The walks of writer.write and writer.writeFun, whatever the term.
-/
import Derived.Test.YtfencolokfghfaaDoorWrC
import Derived.Deep.Cut
import Derived.Deep.LoopGhost
namespace Go.Proofs.YtfencolokfghfaaDoor
open Go.Shelf Go.RowKit Go.Sort
set_option linter.unusedVariables false

theorem PgAt.below {B b : Nat} {p : Value} {bs : List Value} {w w' : World} (h : PgAt B b p bs w) (k : Below w.heap.size w w') : PgAt B b p bs w' := by
  obtain ⟨hB, v, hb, ho, hne⟩ := id h
  exact ⟨hB, v, (k.block b h.lt).trans hb, owns_below ho k, hne⟩
theorem Pg.below {B b : Nat} {bs : List Value} {w w' : World} (h : Pg B b bs w) (k : Below w.heap.size w w') : Pg B b bs w' := h.imp (fun h => PgAt.below h k) (fun h => PgAt.below h k)
theorem Pg.any {B b : Nat} {bs : List Value} {w : World} (h : Pg B b bs w) : ∃ p, PgAt B b p bs w := by
  rcases h with h | h
  · exact ⟨_, h⟩
  · exact ⟨_, h⟩
theorem put_new (B b : Nat) (l : List UInt8) (ss : List ByteArray) (W : World) (hP : Pg B b (Lib.byteCells l) W) (hBw : B ≤ W.heap.size) (hl : l.length + (catL ss).length ≤ 1000000000000) (hn : ss.length ≤ 1000) :
    Calls Tryd.prog 20 #[.pointer (some ⟨b, 0, none⟩), .slice (some ⟨W.heap.size, 0, none⟩) ss.length ss.length] (W.alloc (.cells (ss.map Value.string).toArray 9)) fun e w' => e = .returned (.tuple #[]) ∧ Pg B b (Lib.byteCells (l ++ catL ss)) w' ∧ Below B W w' ∧ KeepF b W w' := by
  have hb := bel_al (Below.refl W.heap.size W) (.cells (ss.map Value.string).toArray 9)
  obtain ⟨p, hp⟩ := hP.any
  refine (put_at B b l ss _ ss.length _ (hP.below hb) ⟨W.heap.size, 0, rfl, hp.fresh hb (Nat.le_refl _) (by simp), fun i s hs => ?_⟩ hl hn (Nat.le_refl _) (by simp; omega)).mono ?_
  · have := alloc_new W (.cells (ss.map Value.string).toArray 9)
    rw [Lib.cell_of_heap this]
    simp [hs]
  · rintro e w' ⟨h1, h2, h3, h4⟩
    exact ⟨h1, h2, (hb.mono hBw).trans h3, (KeepF.below hb hp.lt).trans h4⟩
/-- The method value. -/
abbrev PV (b : Nat) : Value := .func (.func 20) #[.pointer (some ⟨b, 0, none⟩)] #[]
def WPost (w0 : World) (b : Nat) (l : List UInt8) (w : World) (e : Ending) (w' : World) : Prop := e = .returned (.tuple #[]) ∧ Pg w0.heap.size b (Lib.byteCells l) w' ∧ Below w0.heap.size w0 w' ∧ KeepF b w w'
/-- A text is put, out of a list of one, two, or three. -/
theorem put1 {w0 : World} {b : Nat} {l : List UInt8} (s : ByteArray) {W : World} (hP : Pg w0.heap.size b (Lib.byteCells l) W) (hB : Below w0.heap.size w0 W) (hl : l.length + s.data.toList.length ≤ 1000000000000) :
    Calls Tryd.prog 20 #[.pointer (some ⟨b, 0, none⟩), .slice (some ⟨W.heap.size, 0, none⟩) 1 1] (W.alloc (.cells #[.string s] 9)) (WPost w0 b (l ++ s.data.toList) W) :=
  (put_new w0.heap.size b l [s] W hP hB.size (by simpa [catL] using hl) (by simp)).mono fun e w' h => ⟨h.1, by simpa [catL] using h.2.1, hB.trans h.2.2.1, h.2.2.2⟩
theorem put2 {w0 : World} {b : Nat} {l : List UInt8} (s t : ByteArray) {W : World} (hP : Pg w0.heap.size b (Lib.byteCells l) W) (hB : Below w0.heap.size w0 W) (hl : l.length + (s.data.toList.length + t.data.toList.length) ≤ 1000000000000) :
    Calls Tryd.prog 20 #[.pointer (some ⟨b, 0, none⟩), .slice (some ⟨W.heap.size, 0, none⟩) 2 2] (W.alloc (.cells #[.string s, .string t] 9)) (WPost w0 b (l ++ (s.data.toList ++ t.data.toList)) W) :=
  (put_new w0.heap.size b l [s, t] W hP hB.size (by simpa [catL] using hl) (by simp)).mono fun e w' h => ⟨h.1, by simpa [catL] using h.2.1, hB.trans h.2.2.1, h.2.2.2⟩
theorem put3 {w0 : World} {b : Nat} {l : List UInt8} (s t u : ByteArray) {W : World} (hP : Pg w0.heap.size b (Lib.byteCells l) W) (hB : Below w0.heap.size w0 W) (hl : l.length + (s.data.toList.length + (t.data.toList.length + u.data.toList.length)) ≤ 1000000000000) :
    Calls Tryd.prog 20 #[.pointer (some ⟨b, 0, none⟩), .slice (some ⟨W.heap.size, 0, none⟩) 3 3] (W.alloc (.cells #[.string s, .string t, .string u] 9)) (WPost w0 b (l ++ (s.data.toList ++ (t.data.toList ++ u.data.toList))) W) :=
  (put_new w0.heap.size b l [s, t, u] W hP hB.size (by simpa [catL] using hl) (by simp)).mono fun e w' h => ⟨h.1, by simpa [catL] using h.2.1, hB.trans h.2.2.1, h.2.2.2⟩
/-- write, of one term. -/
def WOk (w0 : World) (b : Nat) (T : Tm) : Prop := ∀ (v : Value) (l : List UInt8) (w : World), TmIn (For b w) w v T → Pg w0.heap.size b (Lib.byteCells l) w → Below w0.heap.size w0 w → l.length + T.txt.length ≤ 1000000000 →
  Calls Tryd.prog 19 #[v, PV b] w (WPost w0 b (l ++ T.txt) w)
def wrt8 (s : List UInt8) (ks : List Tm) (k : Nat) : List UInt8 := if k = 0 then [] else fnL s ++ 40 :: (Tm.txtc (ks.take k)).tail
def bef8 (s : List UInt8) (k : Nat) : List UInt8 := if k = 0 then fnL s ++ [40] else [44]
theorem wrt8_succ {s : List UInt8} {ks : List Tm} {k : Nat} {t : Tm} (h : ks[k]? = some t) : wrt8 s ks (k + 1) = wrt8 s ks k ++ (bef8 s k ++ t.txt) := by
  have htk : ks.take (k + 1) = ks.take k ++ [t] := by rw [List.take_add_one, h]; rfl
  unfold wrt8 bef8
  rw [if_neg (by omega), htk, Tm.txtc_append, Tm.txtc_cons, Tm.txtc_nil]
  by_cases hk : k = 0
  · subst hk
    rw [if_pos rfl, if_pos rfl, List.take_zero, Tm.txtc_nil]
    simp
  · rw [if_neg hk, if_neg hk]
    have hne : Tm.txtc (ks.take k) ≠ [] := by
      have hlt := (List.getElem?_eq_some_iff.1 h).1
      cases hq : ks.take k with
      | nil =>
        have := congrArg List.length hq
        rw [List.length_take, List.length_nil] at this
        omega
      | cons u us => rw [Tm.txtc_cons]; simp
    rw [List.tail_append_of_ne_nil hne]
    simp
theorem wrt8_len (s : List UInt8) (ks : List Tm) (k : Nat) : (wrt8 s ks k).length ≤ (fnL s ++ 40 :: (Tm.txtc ks).tail).length := by
  unfold wrt8
  split
  · simp
  · have e : Tm.txtc ks = Tm.txtc (ks.take k) ++ Tm.txtc (ks.drop k) := by rw [← Tm.txtc_append, List.take_append_drop]
    have := congrArg List.length e
    rw [List.length_append] at this
    simp only [List.length_append, List.length_cons, List.length_tail]
    omega
theorem wrt8_all {s : List UInt8} {ks : List Tm} (h : ks.length ≠ 0) : wrt8 s ks ks.length = fnL s ++ 40 :: (Tm.txtc ks).tail := by
  unfold wrt8
  rw [if_neg h, List.take_length]
/-- A term put into a new box. -/
theorem box_new (w : World) (v0 v1 v2 v3 : Value) : ∃ V, V = w.alloc (.cells #[v0, v1, v2, v3] 24) ∧ V.heap[w.heap.size]? = some (.cells #[v0, v1, v2, v3] 24 (0, 0)) ∧ Below w.heap.size w V :=
  ⟨_, rfl, alloc_new w _, bel_al (Below.refl w.heap.size w) _⟩
set_option maxRecDepth 100000 in
set_option maxHeartbeats 4000000 in
theorem writeFun_nil {w0 : World} {b : Nat} (n : Int) (s : ByteArray) (hs : s.size ≤ 2000000) (v : Value) (l : List UInt8) (w : World) (ht : TmIn (For b w) w v (.mk 3 n s [])) (hP : Pg w0.heap.size b (Lib.byteCells l) w) (hB : Below w0.heap.size w0 w) (hl : l.length + (quoteL s.data.toList).length ≤ 1000000000) :
    Calls Tryd.prog 31 #[v, PV b] w (WPost w0 b (l ++ quoteL s.data.toList) w) := by
  obtain ⟨k, n', s', a, len, cap, ks', rfl, e, hlen, -⟩ := ht.form
  injection e with e1 e2 e3 e4
  subst e1 e2 e3 e4
  subst hlen
  obtain ⟨w1, hw1⟩ : ∃ w1, w1 = w.alloc (.cells #[.int .i64 3, .int .i64 n, .string s, .slice a 0 cap] 24) := ⟨_, rfl⟩
  have hb1 : Below w.heap.size w w1 := by rw [hw1]; exact bel_al (Below.refl _ _) _
  have hx1 : w1.heap[w.heap.size]? = some (.cells #[.int .i64 3, .int .i64 n, .string s, .slice a 0 cap] 24 (0, 0)) := by rw [hw1]; exact alloc_new _ _
  obtain ⟨t0, t1, t2, t3⟩ := tbox_cells hx1
  have hq := quote_at s s.data.toList rfl w1 hs
  obtain ⟨p, hp⟩ := hP.any
  have hk1 := KeepF.below hb1 hp.lt
  have hP1 := hP.below hb1
  have hB1 : Below w0.heap.size w0 w1 := bel hB hb1
  go_enter Tryd.func31, Tryd.ntmps31
  go_upto_region 1 with fail
  rw [← hw1]
  clear hw1
  go_wp2_with (first
    | (go_at_call 40; refine hq.mono ?_; rintro e W2 ⟨rfl, hb2⟩; have hk2 := hk1.trans (KeepF.below hb2 (hp.below hb1).lt); have hput := put1 (strV (quoteL s.data.toList)) (hP1.below hb2) (bel hB1 hb2) (by rw [strV_list]; omega))
    | (go_at_call 20; refine hput.mono ?_; rintro e W3 ⟨rfl, hP3, hB3, hk3⟩))
  rw [strV_list] at hP3
  exact bodyPost_ret (v := .tuple #[]) (by simp [results, Tryd.f31, go_sem]) rfl ⟨rfl, hP3, hB3, hk2.trans hk3⟩
set_option maxRecDepth 100000 in
set_option maxHeartbeats 4000000 in
theorem writeFun_kids {w0 : World} {b : Nat} (n : Int) (s : ByteArray) (ks : List Tm) (hne : ks.length ≠ 0) (hkl : ks.length ≤ 1000000) (hs : s.size ≤ 2000000) (ih : ∀ t ∈ ks, WOk w0 b t) (v : Value) (l : List UInt8) (w : World) (ht : TmIn (For b w) w v (.mk 3 n s ks)) (hP : Pg w0.heap.size b (Lib.byteCells l) w) (hB : Below w0.heap.size w0 w)
    (hl : l.length + (fnL s.data.toList ++ 40 :: (Tm.txtc ks).tail ++ [41]).length ≤ 1000000000) :
    Calls Tryd.prog 31 #[v, PV b] w (WPost w0 b (l ++ (fnL s.data.toList ++ 40 :: (Tm.txtc ks).tail ++ [41])) w) := by
  obtain ⟨k, n', s', a, len, cap, ks', rfl, e, hlen, -⟩ := ht.form
  injection e with e1 e2 e3 e4
  subst e1 e2 e3 e4
  subst hlen
  have hne' : ((ks.length : Int) == 0) = false := by rw [beq_eq_false_iff_ne]; omega
  obtain ⟨w1, hw1⟩ : ∃ w1, w1 = w.alloc (.cells #[.int .i64 3, .int .i64 n, .string s, .slice a ks.length cap] 24) := ⟨_, rfl⟩
  have hb1 : Below w.heap.size w w1 := by rw [hw1]; exact bel_al (Below.refl _ _) _
  have hx1 : w1.heap[w.heap.size]? = some (.cells #[.int .i64 3, .int .i64 n, .string s, .slice a ks.length cap] 24 (0, 0)) := by rw [hw1]; exact alloc_new _ _
  obtain ⟨t0, t1, t2, t3⟩ := tbox_cells hx1
  have hq := functor_at s w1 hs
  obtain ⟨p, hp⟩ := hP.any
  have hk1 := KeepF.below hb1 hp.lt
  have hP1 := hP.below hb1
  have hB1 : Below w0.heap.size w0 w1 := bel hB hb1
  have hsz : w.heap.size < w1.heap.size := (Array.getElem?_eq_some_iff.1 hx1).1
  have hfl : (strV (fnL s.data.toList)).size ≤ 5000000 := by
    have h1 := fnL_len s.data.toList
    have h2 : (strV (fnL s.data.toList)).size = (fnL s.data.toList).length := strV_size _
    have h3 : s.data.toList.length = s.size := rfl
    omega
  go_enter Tryd.func31, Tryd.ntmps31
  go_upto_region 1 with fail
  rw [← hw1]
  clear hw1
  go_wp2_with (first
    | (go_at_call 41; refine hq.mono ?_; rintro e W2 ⟨rfl, hb2⟩; have hk2 := hk1.trans (KeepF.below hb2 (hp.below hb1).lt); have hx2 := (hb2.block _ hsz).trans hx1; obtain ⟨u0, u1, u2, u3⟩ := tbox_cells hx2))
  have hT2 : TsIn (For b W2) W2 (.slice a ks.length cap) ks := TsIn.carry (fun x hx => (hk2.2 x hx).2) (fun x hx => (hk2.2 x hx).1) ht.kids
  have hP2 : Pg w0.heap.size b (Lib.byteCells (l ++ wrt8 s.data.toList ks 0)) W2 := by
    have : wrt8 s.data.toList ks 0 = [] := rfl
    rw [this, List.append_nil]
    exact hP1.below hb2
  have hB2 : Below w0.heap.size w0 W2 := bel hB1 hb2
  have hl2 : l.length + ((fnL s.data.toList ++ 40 :: (Tm.txtc ks).tail).length + 1) ≤ 1000000000 := by
    rw [List.length_append] at hl
    simpa using hl
  have HE := Lib.hid (And.intro hk2 hl2)
  clear hk2 hl hl2 ht hx1 hx2 t0 t1 t2 t3 u0 u1 u2 u3 hq hP hP1 hB hB1 hk1 hp hb1 hb2
  go_loopg [4, 24] ks.length (fun g x z wr => ∃ (k : Nat) (S : ByteArray), x = .string S ∧ z = .int .i64 k ∧ g + k = ks.length ∧ S.data.toList = bef8 s.data.toList k ∧ Pg w0.heap.size b (Lib.byteCells (l ++ wrt8 s.data.toList ks k)) wr ∧ Below w0.heap.size w0 wr ∧ KeepF b W2 wr)
  case atStart => exact ⟨0, _, rfl, rfl, by omega, by rw [show (strV (fnL s.data.toList) ++ ByteArray.mk #[40]).data.toList = (strV (fnL s.data.toList)).data.toList ++ [40] by rw [ByteArray.data_append]; simp, strV_list]; rfl, hP2, hB2, KeepF.refl _ _⟩
  case round =>
    obtain ⟨k, S, rfl, rfl, hgk, hS, hPk, hBk, hkk⟩ := hrel
    obtain ⟨hk2, hl2⟩ := HE.out
    have hwl := wrt8_len s.data.toList ks k
    cases gk with
    | zero =>
      have hlt : ¬ ((k : Int) < (ks.length : Int)) := by omega
      have hke : k = ks.length := by omega
      have hput := put1 (ByteArray.mk #[41]) hPk hBk (by rw [List.length_append]; have : (ByteArray.mk #[41]).data.toList.length = 1 := rfl; omega)
      rw [hke, wrt8_all hne] at hput
      have HPU := Lib.hid hput
      clear hput hwl hl2
      go_wp2_with (first | (go_at_call 20; (with_reducible refine HPU.out.mono ?_); rintro e W3 ⟨rfl, hP3, hB3, hk3⟩))
      go_end0
      refine ⟨rfl, ?_, hB3, hk2.trans (hkk.trans hk3)⟩
      rw [← List.append_assoc]
      exact hP3
    | succ m =>
      have hlt : k < ks.length := by omega
      have hlt' : ((k : Int) < (ks.length : Int)) := by omega
      obtain ⟨t, hkt⟩ : ∃ t, ks[k]? = some t := ⟨_, List.getElem?_eq_getElem hlt⟩
      have hte : ks[k] = t := by rw [List.getElem?_eq_getElem hlt] at hkt; exact Option.some.inj hkt
      have hok := ih t (by rw [← hte]; exact List.getElem_mem hlt)
      obtain ⟨a', cap', hv, -, -, -, hx⟩ := TsIn.carry (fun x hx => (hkk.2 x hx).2) (fun x hx => (hkk.2 x hx).1) hT2
      obtain ⟨bk, o, k', n', s', a2, l2, c2, he, hfor, q0, q1, q2, q3, hTm⟩ := hx k hlt
      injection hv with hv1 hv2 hv3
      subst hv1 hv3
      subst he
      rw [hte] at hTm
      have hws := wrt8_succ (s := s.data.toList) hkt
      have hwl2 := wrt8_len s.data.toList ks (k + 1)
      rw [hws, List.length_append, List.length_append] at hwl2
      have hzt := zeroTerm
      obtain ⟨V, hV, hxV, hbV⟩ := box_new wr (.int .i64 k') (.int .i64 n') (.string s') (.slice a2 l2 c2)
      have HV := Lib.hid hV
      have Hws := Lib.hid hws
      have Hwl := Lib.hid hwl2
      clear hws hwl2 hwl hV hx hl2
      go_upto_region 7 with fail
      rw [← HV.out]
      obtain ⟨p, hp⟩ := hPk.any
      have hkV := KeepF.below hbV hp.lt
      have hput := put1 S (hPk.below hbV) (bel hBk hbV) (by rw [hS, List.length_append]; have := Hwl.out; have := HE.out.2; omega)
      rw [hS] at hput
      have hFV : For b V wr.heap.size := hp.fresh hbV (Nat.le_refl _) ((Array.getElem?_eq_some_iff.1 hxV).1)
      have hTV : TmIn (For b V) V (.agg #[.int .i64 k', .int .i64 n', .string s', .slice a2 l2 c2]) t := TmIn.carry (fun x hx => (hkV.2 x hx).2) (fun x hx => (hkV.2 x hx).1) hTm
      have HPU := Lib.hid hput
      clear hput HV q0 q1 q2 q3 hTm hfor hkt
      go_wp2_with (first
        | (go_at_call 20; (with_reducible refine HPU.out.mono ?_); rintro e W3 ⟨rfl, hP3, hB3, hk3⟩; have hx3 := (hk3.2 _ hFV).2.trans hxV; obtain ⟨y0, y1, y2, y3⟩ := tbox_cells hx3; have hT3 : TmIn (For b W3) W3 (.agg #[.int .i64 k', .int .i64 n', .string s', .slice a2 l2 c2]) t := TmIn.carry (fun x hx => (hk3.2 x hx).2) (fun x hx => (hk3.2 x hx).1) hTV; have hwr := hok _ _ W3 hT3 hP3 hB3 (by rw [List.length_append, List.length_append]; have := Hwl.out; have := HE.out.2; omega))
        | (go_at_call 19; (with_reducible refine hwr.mono ?_); rintro e W4 ⟨rfl, hP4, hB4, hk4⟩))
      go_roundg m
      case measure => omega
      case rel =>
        refine ⟨k + 1, _, rfl, by simp, by omega, ?_, ?_, hB4, hkk.trans (hkV.trans (hk3.trans hk4))⟩
        · unfold bef8; rw [if_neg (by omega)]
        · rw [Hws.out]
          simpa [List.append_assoc] using hP4
end Go.Proofs.YtfencolokfghfaaDoor
