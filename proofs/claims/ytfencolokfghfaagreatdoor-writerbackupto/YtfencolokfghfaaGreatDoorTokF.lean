/-
  The walk of the token that a text begins with.
-/
import Derived.Test.YtfencolokfghfaaGreatDoorTokD
import Derived.Test.YtfencolokfghfaaGreatDoorTokE
import Derived.Deep.RegionHeld3
namespace Go.Proofs.YtfencolokfghfaaGreatDoor
open Go.RowKit Go.Lib
set_option linter.unusedVariables false

/-- A closure's call, in whatever world is behind w. -/
def ClC (w : World) (g : Nat) (lb : Array Value) (c : UInt8) (b : Bool) : Prop :=
  ∀ W, Below w.heap.size w W → Calls Tryz.prog g (#[Value.int .u8 (c.toNat : Int)] ++ lb) W fun e w' => e = .returned (.bool b) ∧ ∃ q, w' = W.drewN q
theorem Cl.call {m : Nat} {w : World} {g : Nat} {lb : Array Value} {p : UInt8 → Bool} (h : Cl m w g lb p) (c : UInt8) : ClC w g lb c (p c) := fun W hW => h.1 W c (.of_below hW)
/-- How many bytes of a kind, in whatever world is behind w. -/
def RunC (w : World) (s : ByteArray) (g : Nat) (lb : Array Value) (n : Nat) : Prop :=
  ∀ W, Below w.heap.size w W → Calls Tryz.prog 59 #[.string s, .func (.func g) #[] lb] W fun e w' => e = .returned (.int .i64 (n : Int)) ∧ ∃ q, w' = W.drewN q
theorem Cl.run {m : Nat} {w : World} {g : Nat} {lb : Array Value} {p : UInt8 → Bool} (h : Cl m w g lb p) {s : ByteArray} {l : List UInt8} (hs : s.data.toList = l) (hm : s.size ≤ 9223372036854775807) : RunC w s g lb (pre p l) := fun W hW => run_at m W s l hs hm g lb p (h.later hW)
/-- A result that is known, whatever it is; in whatever world is behind w. -/
def ResC (w : World) (f : Nat) (args : Array Value) (r : Value) : Prop := ∀ W, Below w.heap.size w W → Calls Tryz.prog f args W (Ans W r)

theorem fstR_cons (c : UInt8) (r : List UInt8) : fstR (c :: r) =
    if lowB c then wrt 1 ((c :: r).take (pre wordB (c :: r)))
    else if upB c then wrt 2 ((c :: r).take (pre wordB (c :: r)))
    else if digB c then numR (c :: r)
    else if c == 39 then quo [] r 1
    else if punB c then wrt 4 [c]
    else if sinB c then wrt 1 [c]
    else if endsB (c :: r) then wrt 5 [c]
    else if symB c then wrt 1 ((c :: r).take (pre symB (c :: r)))
    else .bad 4 := by
  have e : (c = 39) = ((c == 39) = true) := by simp
  conv => lhs; unfold fstR
  simp only [e]
  rfl

/-- Behind some steps that let all lie that lay in w3, but a token's box. -/
structure Aft (w3 : World) (B : Nat) (w' : World) : Prop where
  os : w'.os = w3.os
  tape : w'.tape = w3.tape
  output : w'.output = w3.output
  size : w3.heap.size ≤ w'.heap.size
  same : ∀ b, b < w3.heap.size → b ≠ B → w'.heap[b]? = w3.heap[b]?
  lt : B < w3.heap.size
  box : ∃ v0 v1 v2 v3 v4, w'.heap[B]? = some (.cells #[v0, v1, v2, v3, v4] 87 (0, 0))
theorem Aft.drew {w3 w' : World} {B : Nat} (h : Aft w3 B w') : Aft w3 B w'.drew := ⟨h.os, h.tape, h.output, h.size, h.same, h.lt, h.box⟩
theorem Aft.below {w3 w' w'' : World} {B : Nat} (h : Aft w3 B w') (k : Below w'.heap.size w' w'') : Aft w3 B w'' := by
  obtain ⟨v0, v1, v2, v3, v4, hv⟩ := h.box
  exact ⟨k.os.trans h.os, k.tape.trans h.tape, k.output.trans h.output, Nat.le_trans h.size k.size, fun b hb hB => (k.block b (Nat.lt_of_lt_of_le hb h.size)).trans (h.same b hb hB), h.lt, v0, v1, v2, v3, v4, (k.block B (Array.getElem?_eq_some_iff.1 hv).1).trans hv⟩
theorem Aft.set {w3 w' : World} {B : Nat} (h : Aft w3 B w') (v0 v1 v2 v3 v4 : Value) : Aft w3 B (((((w'.setCell ⟨B, 0, none⟩ v0).setCell ⟨B, 1, none⟩ v1).setCell ⟨B, 2, none⟩ v2).setCell ⟨B, 3, none⟩ v3).setCell ⟨B, 4, none⟩ v4) := by
  obtain ⟨u0, u1, u2, u3, u4, hv⟩ := h.box
  obtain ⟨W, hW, hx, -, hB⟩ := set5 (w := w') (m := B) hv v0 v1 v2 v3 v4 (Below.refl _ _) (Nat.le_refl _)
  have hsz : W.heap.size = w'.heap.size := by rw [hW]; simp
  have hother : ∀ b, b ≠ B → W.heap[b]? = w'.heap[b]? := fun b hb => by
    rw [hW, Below.heap_setCell _ _ _ _ (by simpa using hb), Below.heap_setCell _ _ _ _ (by simpa using hb), Below.heap_setCell _ _ _ _ (by simpa using hb), Below.heap_setCell _ _ _ _ (by simpa using hb), Below.heap_setCell _ _ _ _ (by simpa using hb)]
  rw [← hW]
  exact ⟨hB.os.trans h.os, hB.tape.trans h.tape, hB.output.trans h.output, by rw [hsz]; exact h.size, fun b hb hne => (hother b hne).trans (h.same b hb hne), h.lt, v0, v1, v2, v3, v4, hx⟩
theorem Aft.isBelow {w w3 w' : World} {B : Nat} (h : Aft w3 B w') (hb : Below w.heap.size w w3) (hm : w.heap.size ≤ B) : Below w.heap.size w w' :=
  ⟨h.os.trans hb.os, h.tape.trans hb.tape, h.output.trans hb.output, Nat.le_trans hb.size h.size, fun b hl => (h.same b (Nat.lt_of_lt_of_le hl hb.size) (by omega)).trans (hb.block b hl)⟩

def oldc (B i : Nat) (w : World) : Value := (w.cell? ⟨B, i, none⟩).getD undef
theorem oldc_of {B i : Nat} {w : World} {v : Value} (h : w.cell? ⟨B, i, none⟩ = some v) : w.cell? ⟨B, i, none⟩ = some (oldc B i w) := by unfold oldc; rw [h]; rfl

theorem bel_d {w w2 w4 : World} {n : Nat} (h : Below w.heap.size w w2) (k : Below (w2.drewN n).heap.size (w2.drewN n) w4) : Below w.heap.size w w4 := bel (below_drewN' h n) k
theorem close5 {P : Program} {f : Func} {Q : Ending → World → Prop} {a : Act} {w w9 : World} {m B : Nat} {a0 a1 a2 a3 a4 v0 v1 v2 v3 v4 : Value} {t : TypeId} (h : w9.heap[B]? = some (.cells #[a0, a1, a2, a3, a4] t (0, 0))) (hb : Below m w w9) (hm : m ≤ B)
    (hk : ∀ W, W.heap[B]? = some (.cells #[v0, v1, v2, v3, v4] t (0, 0)) → Below m w W → bodyPost P f Q .ret a W) :
    bodyPost P f Q .ret a (((((w9.setCell ⟨B, 0, none⟩ v0).setCell ⟨B, 1, none⟩ v1).setCell ⟨B, 2, none⟩ v2).setCell ⟨B, 3, none⟩ v3).setCell ⟨B, 4, none⟩ v4) := by
  obtain ⟨W, hW, hx, -, hB⟩ := set5 h v0 v1 v2 v3 v4 hb hm
  rw [← hW]
  exact hk W hx hB

set_option maxRecDepth 100000 in
set_option maxHeartbeats 8000000 in
theorem first_at (m : Nat) (k : Fs) (s : ByteArray) (l : List UInt8) (hs : s.data.toList = l) (w : World) (L : Laid w) (hm : s.size ≤ 1000000) (hne : 0 < s.size) (K : Kinds m w k) :
    Calls Tryz.prog 42 #[.string s, .agg (fcells k)] w (Ans w (resV (fstR l))) := by
  have hb2 : Below w.heap.size w ((w.alloc (.cells (fcells k) 83)).alloc (.cells #[.int .i64 0, .string ⟨#[]⟩, .int .i64 0, .bool false, .bool false] 87)) := bel_al (bel_al (Below.refl _ _) _) _
  have y2 : ((w.alloc (.cells (fcells k) 83)).alloc (.cells #[.int .i64 0, .string ⟨#[]⟩, .int .i64 0, .bool false, .bool false] 87)).heap[w.heap.size + 1]? = some (.cells #[.int .i64 0, .string ⟨#[]⟩, .int .i64 0, .bool false, .bool false] 87 (0, 0)) := by
    have := alloc_new (w.alloc (.cells (fcells k) 83)) (.cells #[.int .i64 0, .string ⟨#[]⟩, .int .i64 0, .bool false, .bool false] 87)
    simpa using this
  obtain ⟨c, hc, hg⟩ := get_of hs hne
  obtain ⟨hl1, hl2⟩ := len_le hs
  have hdc : l = c :: l.drop 1 := by have := drop_cons hc; simpa using this
  have hm7 : s.size ≤ 9223372036854775807 := by omega
  have rW := K.word.run hs hm7
  have rD := K.dig.run hs hm7
  have rS := K.sym.run hs hm7
  have pW := pre_le wordB l
  have pS := pre_le symB l
  have pD := pre_le digB l
  have kL := K.low.call c
  have kU := K.up.call c
  have kD := K.dig.call c
  have kP := K.pun.call c
  have kN := K.sin.call c
  have kS := K.sym.call c
  have eL := K.low.2
  have eU := K.up.2
  have eD := K.dig.2
  have eP := K.pun.2
  have eN := K.sin.2
  have eS := K.sym.2
  have rE : ∀ W, Calls Tryz.prog 62 #[.string s] W fun e w' => e = .returned (.bool (endsB l)) ∧ w' = W := fun W => ends_at s l hs W (by omega) hne
  have cW1 : ResC w 58 #[.int .i64 1, .string (s.extract 0 (pre wordB l))] (resV (wrt 1 (l.take (pre wordB l)))) := fun W _ => written_at 1 _ _ (ext_take hs _) W (by rw [len_of (ext_take hs _), List.length_take]; omega)
  have cW2 : ResC w 58 #[.int .i64 2, .string (s.extract 0 (pre wordB l))] (resV (wrt 2 (l.take (pre wordB l)))) := fun W _ => written_at 2 _ _ (ext_take hs _) W (by rw [len_of (ext_take hs _), List.length_take]; omega)
  have cWs : ResC w 58 #[.int .i64 1, .string (s.extract 0 (pre symB l))] (resV (wrt 1 (l.take (pre symB l)))) := fun W _ => written_at 1 _ _ (ext_take hs _) W (by rw [len_of (ext_take hs _), List.length_take]; omega)
  have h1 : l.take 1 = [c] := by rw [hdc]; rfl
  have cO : ∀ k : Int, ResC w 58 #[.int .i64 k, .string (s.extract 0 1)] (resV (wrt k [c])) := fun k W _ => by
    have := written_at k _ _ (ext_take hs 1) W (by rw [len_of (ext_take hs _), List.length_take]; omega)
    rw [h1] at this
    exact this
  have cQ : ResC w 61 #[.string s] (resV (quo [] (l.drop 1) 1)) := fun W _ => quoted_at s l hs W hm hne
  have cN : digB c = true → ResC w 60 #[.string s, .int .i64 (pre digB l : Nat), .agg (fcells k)] (resV (numR l)) := fun hd W hW => number_at m k s l hs W (L.later hW) hm (K.later hW) (by rw [hdc]; exact pre_pos hd)
  have hf := fstR_cons c (l.drop 1)
  rw [← hdc] at hf
  rw [hf]
  have e39 := beq39 c
  clear hf K L hdc h1 hc hs
  generalize endsB l = bE at *
  generalize pre wordB l = nW at *
  generalize pre symB l = nS at *
  generalize pre digB l = nD at *
  generalize wrt 1 (l.take nW) = r1 at *
  generalize wrt 2 (l.take nW) = r2 at *
  generalize wrt 1 (l.take nS) = r8 at *
  generalize numR l = r3 at *
  generalize quo [] (l.drop 1) 1 = r4 at *
  have cO4 := cO 4
  have cO1 := cO 1
  have cO5 := cO 5
  clear cO
  generalize wrt 4 [c] = r5 at *
  generalize wrt 1 [c] = r6 at *
  generalize wrt 5 [c] = r7 at *
  generalize lowB c = bL at *
  generalize upB c = bU at *
  generalize digB c = bD at *
  generalize punB c = bP at *
  generalize sinB c = bN at *
  generalize symB c = bS at *
  generalize (c == 39) = bM at *
  obtain ⟨g0, g1, g2, g3, g4, g5, g6, b0, b1, b2, b3, b4, b5, b6⟩ := k
  dsimp only at *
  unfold fcells at *
  dsimp only at *
  cases bL
  · cases bU
    · cases bD
      · cases bM
        · cases bP
          · cases bN
            · cases bE
              · cases bS
                · show Calls _ _ _ _ (Ans w (resV (.bad 4)))
                  go_enter Tryz.func42, Tryz.ntmps42
                  go_wp2_with (first | (go_at_fn g0; refine (kL _ ?_).mono ?_; exact ⟨hb2.os, hb2.tape, hb2.output, hb2.size, hb2.block⟩; rintro e w' ⟨rfl, q, rfl⟩) | (go_at_fn g1; refine (kU _ ?_).mono ?_; exact ⟨hb2.os, hb2.tape, hb2.output, hb2.size, hb2.block⟩; rintro e w' ⟨rfl, q, rfl⟩) | (go_at_fn g2; refine (kD _ ?_).mono ?_; exact ⟨hb2.os, hb2.tape, hb2.output, hb2.size, hb2.block⟩; rintro e w' ⟨rfl, q, rfl⟩) | (go_at_fn g5; refine (kP _ ?_).mono ?_; exact ⟨hb2.os, hb2.tape, hb2.output, hb2.size, hb2.block⟩; rintro e w' ⟨rfl, q, rfl⟩) | (go_at_fn g6; refine (kN _ ?_).mono ?_; exact ⟨hb2.os, hb2.tape, hb2.output, hb2.size, hb2.block⟩; rintro e w' ⟨rfl, q, rfl⟩) | (go_at_call 62; refine (rE _).mono ?_; rintro e w' ⟨rfl, hw'⟩; have hw' := hw'.symm; subst hw') | (go_at_fn g4; refine (kS _ ?_).mono ?_; exact ⟨hb2.os, hb2.tape, hb2.output, hb2.size, hb2.block⟩; rintro e w' ⟨rfl, q, rfl⟩))
                  refine close5 (drew_y y2 _) (below_drewN' hb2 _) (Nat.le_succ _) fun W hx5 hB => ?_
                  obtain ⟨f0, f1, f2, f3, f4, -⟩ := box5 hx5
                  exact bodyPost_ret (v := .tuple #[.agg #[.int .i64 0, .string ⟨#[]⟩, .int .i64 0, .bool false, .bool false], .int .i64 0, .int .i64 4]) (by simp [results, Tryz.f42, go_sem, f0, f1, f2, f3, f4]) rfl ⟨rfl, hB⟩
                · show Calls _ _ _ _ (Ans w (resV r8))
                  obtain ⟨k', s', n', q', t', z', c', hr⟩ := resV_form r8
                  rw [hr] at cWs ⊢
                  clear hr
                  go_enter Tryz.func42, Tryz.ntmps42
                  go_wp2_with (first | (go_at_fn g0; refine (kL _ ?_).mono ?_; exact ⟨hb2.os, hb2.tape, hb2.output, hb2.size, hb2.block⟩; rintro e w' ⟨rfl, q, rfl⟩) | (go_at_fn g1; refine (kU _ ?_).mono ?_; exact ⟨hb2.os, hb2.tape, hb2.output, hb2.size, hb2.block⟩; rintro e w' ⟨rfl, q, rfl⟩) | (go_at_fn g2; refine (kD _ ?_).mono ?_; exact ⟨hb2.os, hb2.tape, hb2.output, hb2.size, hb2.block⟩; rintro e w' ⟨rfl, q, rfl⟩) | (go_at_fn g5; refine (kP _ ?_).mono ?_; exact ⟨hb2.os, hb2.tape, hb2.output, hb2.size, hb2.block⟩; rintro e w' ⟨rfl, q, rfl⟩) | (go_at_fn g6; refine (kN _ ?_).mono ?_; exact ⟨hb2.os, hb2.tape, hb2.output, hb2.size, hb2.block⟩; rintro e w' ⟨rfl, q, rfl⟩) | (go_at_call 62; refine (rE _).mono ?_; rintro e w' ⟨rfl, hw'⟩; have hw' := hw'.symm; subst hw') | (go_at_fn g4; refine (kS _ ?_).mono ?_; exact ⟨hb2.os, hb2.tape, hb2.output, hb2.size, hb2.block⟩; rintro e w' ⟨rfl, q, rfl⟩) | (go_at_call 59; refine (rS _ ?_).mono ?_; exact ⟨hb2.os, hb2.tape, hb2.output, hb2.size, hb2.block⟩; rintro e w' ⟨rfl, q, rfl⟩) | (go_at_call 58; refine (cWs _ ?_).mono ?_; exact ⟨hb2.os, hb2.tape, hb2.output, hb2.size, hb2.block⟩; rintro e w4 ⟨rfl, hb4⟩; have y4 := (hb4.block (w.heap.size + 1) (by simp)).trans y2; obtain ⟨x0, x1, x2, x3, x4, xf⟩ := box5 y4))
                  obtain ⟨W, hW, hx5, -, hB⟩ := set5 y4 (.int .i64 k') (.string s') (.int .i64 n') (.bool q') (.bool t') (bel_d hb2 hb4) (Nat.le_succ _)
                  rw [← hW]
                  obtain ⟨f0, f1, f2, f3, f4, -⟩ := box5 hx5
                  exact bodyPost_ret (v := .tuple #[.agg #[.int .i64 k', .string s', .int .i64 n', .bool q', .bool t'], .int .i64 z', .int .i64 c']) (by simp [results, Tryz.f42, go_sem, f0, f1, f2, f3, f4]) rfl ⟨rfl, hB⟩
              · show Calls _ _ _ _ (Ans w (resV r7))
                obtain ⟨k', s', n', q', t', z', c', hr⟩ := resV_form r7
                rw [hr] at cO5 ⊢
                clear hr
                go_enter Tryz.func42, Tryz.ntmps42
                go_wp2_with (first | (go_at_fn g0; refine (kL _ ?_).mono ?_; exact ⟨hb2.os, hb2.tape, hb2.output, hb2.size, hb2.block⟩; rintro e w' ⟨rfl, q, rfl⟩) | (go_at_fn g1; refine (kU _ ?_).mono ?_; exact ⟨hb2.os, hb2.tape, hb2.output, hb2.size, hb2.block⟩; rintro e w' ⟨rfl, q, rfl⟩) | (go_at_fn g2; refine (kD _ ?_).mono ?_; exact ⟨hb2.os, hb2.tape, hb2.output, hb2.size, hb2.block⟩; rintro e w' ⟨rfl, q, rfl⟩) | (go_at_fn g5; refine (kP _ ?_).mono ?_; exact ⟨hb2.os, hb2.tape, hb2.output, hb2.size, hb2.block⟩; rintro e w' ⟨rfl, q, rfl⟩) | (go_at_fn g6; refine (kN _ ?_).mono ?_; exact ⟨hb2.os, hb2.tape, hb2.output, hb2.size, hb2.block⟩; rintro e w' ⟨rfl, q, rfl⟩) | (go_at_call 62; refine (rE _).mono ?_; rintro e w' ⟨rfl, hw'⟩; have hw' := hw'.symm; subst hw') | (go_at_call 58; refine (cO5 _ ?_).mono ?_; exact ⟨hb2.os, hb2.tape, hb2.output, hb2.size, hb2.block⟩; rintro e w4 ⟨rfl, hb4⟩; have y4 := (hb4.block (w.heap.size + 1) (by simp)).trans y2; obtain ⟨x0, x1, x2, x3, x4, xf⟩ := box5 y4))
                obtain ⟨W, hW, hx5, -, hB⟩ := set5 y4 (.int .i64 k') (.string s') (.int .i64 n') (.bool q') (.bool t') (bel_d hb2 hb4) (Nat.le_succ _)
                rw [← hW]
                obtain ⟨f0, f1, f2, f3, f4, -⟩ := box5 hx5
                exact bodyPost_ret (v := .tuple #[.agg #[.int .i64 k', .string s', .int .i64 n', .bool q', .bool t'], .int .i64 z', .int .i64 c']) (by simp [results, Tryz.f42, go_sem, f0, f1, f2, f3, f4]) rfl ⟨rfl, hB⟩
            · show Calls _ _ _ _ (Ans w (resV r6))
              obtain ⟨k', s', n', q', t', z', c', hr⟩ := resV_form r6
              rw [hr] at cO1 ⊢
              clear hr
              go_enter Tryz.func42, Tryz.ntmps42
              go_wp2_with (first | (go_at_fn g0; refine (kL _ ?_).mono ?_; exact ⟨hb2.os, hb2.tape, hb2.output, hb2.size, hb2.block⟩; rintro e w' ⟨rfl, q, rfl⟩) | (go_at_fn g1; refine (kU _ ?_).mono ?_; exact ⟨hb2.os, hb2.tape, hb2.output, hb2.size, hb2.block⟩; rintro e w' ⟨rfl, q, rfl⟩) | (go_at_fn g2; refine (kD _ ?_).mono ?_; exact ⟨hb2.os, hb2.tape, hb2.output, hb2.size, hb2.block⟩; rintro e w' ⟨rfl, q, rfl⟩) | (go_at_fn g5; refine (kP _ ?_).mono ?_; exact ⟨hb2.os, hb2.tape, hb2.output, hb2.size, hb2.block⟩; rintro e w' ⟨rfl, q, rfl⟩) | (go_at_fn g6; refine (kN _ ?_).mono ?_; exact ⟨hb2.os, hb2.tape, hb2.output, hb2.size, hb2.block⟩; rintro e w' ⟨rfl, q, rfl⟩) | (go_at_call 58; refine (cO1 _ ?_).mono ?_; exact ⟨hb2.os, hb2.tape, hb2.output, hb2.size, hb2.block⟩; rintro e w4 ⟨rfl, hb4⟩; have y4 := (hb4.block (w.heap.size + 1) (by simp)).trans y2; obtain ⟨x0, x1, x2, x3, x4, xf⟩ := box5 y4))
              obtain ⟨W, hW, hx5, -, hB⟩ := set5 y4 (.int .i64 k') (.string s') (.int .i64 n') (.bool q') (.bool t') (bel_d hb2 hb4) (Nat.le_succ _)
              rw [← hW]
              obtain ⟨f0, f1, f2, f3, f4, -⟩ := box5 hx5
              exact bodyPost_ret (v := .tuple #[.agg #[.int .i64 k', .string s', .int .i64 n', .bool q', .bool t'], .int .i64 z', .int .i64 c']) (by simp [results, Tryz.f42, go_sem, f0, f1, f2, f3, f4]) rfl ⟨rfl, hB⟩
          · show Calls _ _ _ _ (Ans w (resV r5))
            obtain ⟨k', s', n', q', t', z', c', hr⟩ := resV_form r5
            rw [hr] at cO4 ⊢
            clear hr
            go_enter Tryz.func42, Tryz.ntmps42
            go_wp2_with (first | (go_at_fn g0; refine (kL _ ?_).mono ?_; exact ⟨hb2.os, hb2.tape, hb2.output, hb2.size, hb2.block⟩; rintro e w' ⟨rfl, q, rfl⟩) | (go_at_fn g1; refine (kU _ ?_).mono ?_; exact ⟨hb2.os, hb2.tape, hb2.output, hb2.size, hb2.block⟩; rintro e w' ⟨rfl, q, rfl⟩) | (go_at_fn g2; refine (kD _ ?_).mono ?_; exact ⟨hb2.os, hb2.tape, hb2.output, hb2.size, hb2.block⟩; rintro e w' ⟨rfl, q, rfl⟩) | (go_at_fn g5; refine (kP _ ?_).mono ?_; exact ⟨hb2.os, hb2.tape, hb2.output, hb2.size, hb2.block⟩; rintro e w' ⟨rfl, q, rfl⟩) | (go_at_call 58; refine (cO4 _ ?_).mono ?_; exact ⟨hb2.os, hb2.tape, hb2.output, hb2.size, hb2.block⟩; rintro e w4 ⟨rfl, hb4⟩; have y4 := (hb4.block (w.heap.size + 1) (by simp)).trans y2; obtain ⟨x0, x1, x2, x3, x4, xf⟩ := box5 y4))
            obtain ⟨W, hW, hx5, -, hB⟩ := set5 y4 (.int .i64 k') (.string s') (.int .i64 n') (.bool q') (.bool t') (bel_d hb2 hb4) (Nat.le_succ _)
            rw [← hW]
            obtain ⟨f0, f1, f2, f3, f4, -⟩ := box5 hx5
            exact bodyPost_ret (v := .tuple #[.agg #[.int .i64 k', .string s', .int .i64 n', .bool q', .bool t'], .int .i64 z', .int .i64 c']) (by simp [results, Tryz.f42, go_sem, f0, f1, f2, f3, f4]) rfl ⟨rfl, hB⟩
        · show Calls _ _ _ _ (Ans w (resV r4))
          obtain ⟨k', s', n', q', t', z', c', hr⟩ := resV_form r4
          rw [hr] at cQ ⊢
          clear hr
          go_enter Tryz.func42, Tryz.ntmps42
          go_wp2_with (first | (go_at_fn g0; refine (kL _ ?_).mono ?_; exact ⟨hb2.os, hb2.tape, hb2.output, hb2.size, hb2.block⟩; rintro e w' ⟨rfl, q, rfl⟩) | (go_at_fn g1; refine (kU _ ?_).mono ?_; exact ⟨hb2.os, hb2.tape, hb2.output, hb2.size, hb2.block⟩; rintro e w' ⟨rfl, q, rfl⟩) | (go_at_fn g2; refine (kD _ ?_).mono ?_; exact ⟨hb2.os, hb2.tape, hb2.output, hb2.size, hb2.block⟩; rintro e w' ⟨rfl, q, rfl⟩) | (go_at_call 61; refine (cQ _ ?_).mono ?_; exact ⟨hb2.os, hb2.tape, hb2.output, hb2.size, hb2.block⟩; rintro e w4 ⟨rfl, hb4⟩; have y4 := (hb4.block (w.heap.size + 1) (by simp)).trans y2; obtain ⟨x0, x1, x2, x3, x4, xf⟩ := box5 y4))
          obtain ⟨W, hW, hx5, -, hB⟩ := set5 y4 (.int .i64 k') (.string s') (.int .i64 n') (.bool q') (.bool t') (bel_d hb2 hb4) (Nat.le_succ _)
          rw [← hW]
          obtain ⟨f0, f1, f2, f3, f4, -⟩ := box5 hx5
          exact bodyPost_ret (v := .tuple #[.agg #[.int .i64 k', .string s', .int .i64 n', .bool q', .bool t'], .int .i64 z', .int .i64 c']) (by simp [results, Tryz.f42, go_sem, f0, f1, f2, f3, f4]) rfl ⟨rfl, hB⟩
      · show Calls _ _ _ _ (Ans w (resV r3))
        replace cN := cN rfl
        obtain ⟨k', s', n', q', t', z', c', hr⟩ := resV_form r3
        rw [hr] at cN ⊢
        clear hr
        go_enter Tryz.func42, Tryz.ntmps42
        go_wp2_with (first | (go_at_fn g0; refine (kL _ ?_).mono ?_; exact ⟨hb2.os, hb2.tape, hb2.output, hb2.size, hb2.block⟩; rintro e w' ⟨rfl, q, rfl⟩) | (go_at_fn g1; refine (kU _ ?_).mono ?_; exact ⟨hb2.os, hb2.tape, hb2.output, hb2.size, hb2.block⟩; rintro e w' ⟨rfl, q, rfl⟩) | (go_at_fn g2; refine (kD _ ?_).mono ?_; exact ⟨hb2.os, hb2.tape, hb2.output, hb2.size, hb2.block⟩; rintro e w' ⟨rfl, q, rfl⟩))
        have k2 : ((w.alloc (.cells #[.func (.func g0) #[] b0, .func (.func g1) #[] b1, .func (.func g2) #[] b2, .func (.func g3) #[] b3, .func (.func g4) #[] b4, .func (.func g5) #[] b5, .func (.func g6) #[] b6] 83)).alloc (.cells #[.int .i64 0, .string ⟨#[]⟩, .int .i64 0, .bool false, .bool false] 87)).heap[w.heap.size]? = some (.cells #[.func (.func g0) #[] b0, .func (.func g1) #[] b1, .func (.func g2) #[] b2, .func (.func g3) #[] b3, .func (.func g4) #[] b4, .func (.func g5) #[] b5, .func (.func g6) #[] b6] 83 (0, 0)) := by
          have e := Below.heap_alloc (w.alloc (.cells #[.func (.func g0) #[] b0, .func (.func g1) #[] b1, .func (.func g2) #[] b2, .func (.func g3) #[] b3, .func (.func g4) #[] b4, .func (.func g5) #[] b5, .func (.func g6) #[] b6] 83)) (.cells #[.int .i64 0, .string ⟨#[]⟩, .int .i64 0, .bool false, .bool false] 87) w.heap.size (by simp)
          rw [e]; exact alloc_new _ _
        have F := fun n => And.intro (below_drewN' hb2 n) (And.intro (drew_y y2 n) (And.intro (drew_y k2 n) (show w.heap.size + 2 ≤ (World.drewN ((w.alloc (.cells #[.func (.func g0) #[] b0, .func (.func g1) #[] b1, .func (.func g2) #[] b2, .func (.func g3) #[] b3, .func (.func g4) #[] b4, .func (.func g5) #[] b5, .func (.func g6) #[] b6] 83)).alloc (.cells #[.int .i64 0, .string ⟨#[]⟩, .int .i64 0, .bool false, .bool false] 87)) n).heap.size by show _ ≤ (World.alloc _ _).heap.size; simp)))
        generalize hw3 : World.drewN _ _ = w3
        obtain ⟨hb3, y3, k3, s3⟩ := F _
        rw [hw3] at hb3 y3 k3 s3
        have hA3 : Aft w3 (w.heap.size + 1) w3 := ⟨rfl, rfl, rfl, Nat.le_refl _, fun _ _ _ => rfl, by omega, _, _, _, _, _, y3⟩
        have HS : ∀ w', Aft w3 (w.heap.size + 1) w' → (fun w' => w'.cell? ⟨w.heap.size, 0, none⟩ = some (.func (.func g0) #[] b0) ∧ w'.cell? ⟨w.heap.size, 1, none⟩ = some (.func (.func g1) #[] b1) ∧ w'.cell? ⟨w.heap.size, 2, none⟩ = some (.func (.func g2) #[] b2) ∧ w'.cell? ⟨w.heap.size, 3, none⟩ = some (.func (.func g3) #[] b3) ∧ w'.cell? ⟨w.heap.size, 4, none⟩ = some (.func (.func g4) #[] b4) ∧ w'.cell? ⟨w.heap.size, 5, none⟩ = some (.func (.func g5) #[] b5) ∧ w'.cell? ⟨w.heap.size, 6, none⟩ = some (.func (.func g6) #[] b6) ∧ w'.cell? ⟨w.heap.size + 1, 0, none⟩ = some (oldc (w.heap.size + 1) 0 w') ∧ w'.cell? ⟨w.heap.size + 1, 1, none⟩ = some (oldc (w.heap.size + 1) 1 w') ∧ w'.cell? ⟨w.heap.size + 1, 2, none⟩ = some (oldc (w.heap.size + 1) 2 w') ∧ w'.cell? ⟨w.heap.size + 1, 3, none⟩ = some (oldc (w.heap.size + 1) 3 w') ∧ w'.cell? ⟨w.heap.size + 1, 4, none⟩ = some (oldc (w.heap.size + 1) 4 w') ∧ (∀ j, w'.frozen? ⟨w.heap.size + 1, j, none⟩ = false) ∧ Aft w3 (w.heap.size + 1) w') w' := fun w' hb => by
          have z := (hb.same w.heap.size (by omega) (by omega)).trans k3
          obtain ⟨v0, v1, v2, v3, v4, z2⟩ := hb.box
          obtain ⟨p0, p1, p2, p3, p4, p5, p6, -⟩ := box7 z
          obtain ⟨r0, r1, r2, r3, r4, rf⟩ := box5 z2
          exact ⟨p0, p1, p2, p3, p4, p5, p6, oldc_of r0, oldc_of r1, oldc_of r2, oldc_of r3, oldc_of r4, rf, hb⟩
        have d1 : ∀ W, Aft w3 (w.heap.size + 1) W → Calls Tryz.prog 59 #[.string s, .func (.func g2) #[] b2] W fun e w' => e = .returned (.int .i64 (nD : Int)) ∧ Aft w3 (w.heap.size + 1) w' := fun W hW => (rD W (hW.isBelow hb3 (Nat.le_succ _))).mono fun e w' ⟨he, q, hq⟩ => ⟨he, hW.below (hq ▸ below_drewN' (Below.refl _ _) q)⟩
        have d2 : ∀ W, Aft w3 (w.heap.size + 1) W → Calls Tryz.prog 60 #[.string s, .int .i64 (nD : Int), .agg #[.func (.func g0) #[] b0, .func (.func g1) #[] b1, .func (.func g2) #[] b2, .func (.func g3) #[] b3, .func (.func g4) #[] b4, .func (.func g5) #[] b5, .func (.func g6) #[] b6]] W fun e w' => e = .returned (.tuple #[.agg #[.int .i64 k', .string s', .int .i64 n', .bool q', .bool t'], .int .i64 z', .int .i64 c']) ∧ Aft w3 (w.heap.size + 1) w' := fun W hW => (cN W (hW.isBelow hb3 (Nat.le_succ _))).mono fun e w' ⟨he, h⟩ => ⟨he, hW.below h⟩
        clear F k2 y2 hb2 hw3 cN rD rW rS cW1 cW2 cWs cQ cO4 cO1 cO5 kL kU kD kP kN kS rE eL eU eP eN eS hg e39 pW pS pD
        go_region_held3 (fun w' => w'.cell? ⟨w.heap.size, 0, none⟩ = some (.func (.func g0) #[] b0) ∧ w'.cell? ⟨w.heap.size, 1, none⟩ = some (.func (.func g1) #[] b1) ∧ w'.cell? ⟨w.heap.size, 2, none⟩ = some (.func (.func g2) #[] b2) ∧ w'.cell? ⟨w.heap.size, 3, none⟩ = some (.func (.func g3) #[] b3) ∧ w'.cell? ⟨w.heap.size, 4, none⟩ = some (.func (.func g4) #[] b4) ∧ w'.cell? ⟨w.heap.size, 5, none⟩ = some (.func (.func g5) #[] b5) ∧ w'.cell? ⟨w.heap.size, 6, none⟩ = some (.func (.func g6) #[] b6) ∧ w'.cell? ⟨w.heap.size + 1, 0, none⟩ = some (oldc (w.heap.size + 1) 0 w') ∧ w'.cell? ⟨w.heap.size + 1, 1, none⟩ = some (oldc (w.heap.size + 1) 1 w') ∧ w'.cell? ⟨w.heap.size + 1, 2, none⟩ = some (oldc (w.heap.size + 1) 2 w') ∧ w'.cell? ⟨w.heap.size + 1, 3, none⟩ = some (oldc (w.heap.size + 1) 3 w') ∧ w'.cell? ⟨w.heap.size + 1, 4, none⟩ = some (oldc (w.heap.size + 1) 4 w') ∧ (∀ j, w'.frozen? ⟨w.heap.size + 1, j, none⟩ = false) ∧ Aft w3 (w.heap.size + 1) w')
          (first | exact HS _ hA3.drew | (go_split_ands; exact HS _ (by assumption)) | (go_split_ands; exact HS _ (Aft.set (by assumption) _ _ _ _ _)))
          (first
            | (go_at_call 59; (with_reducible refine (d1 _ (by go_split_ands; assumption)).mono ?_); rintro r w5 ⟨rfl, hb5⟩)
            | (go_at_call 60; (with_reducible refine (d2 _ (by go_split_ands; assumption)).mono ?_); rintro r w4 ⟨rfl, hb4⟩))
        all_goals go_wp2_with fail
        obtain ⟨u0, u1, u2, u3, u4, y4⟩ := hb4.box
        refine close5 y4 (hb4.isBelow hb3 (Nat.le_succ _)) (Nat.le_succ _) fun W hx5 hB => ?_
        obtain ⟨f0, f1, f2, f3, f4, -⟩ := box5 hx5
        exact bodyPost_ret (v := .tuple #[.agg #[.int .i64 k', .string s', .int .i64 n', .bool q', .bool t'], .int .i64 z', .int .i64 c']) (by simp [results, Tryz.f42, go_sem, f0, f1, f2, f3, f4]) rfl ⟨rfl, hB⟩
    · show Calls _ _ _ _ (Ans w (resV r2))
      obtain ⟨k', s', n', q', t', z', c', hr⟩ := resV_form r2
      rw [hr] at cW2 ⊢
      clear hr
      go_enter Tryz.func42, Tryz.ntmps42
      go_wp2_with (first | (go_at_fn g0; refine (kL _ ?_).mono ?_; exact ⟨hb2.os, hb2.tape, hb2.output, hb2.size, hb2.block⟩; rintro e w' ⟨rfl, q, rfl⟩) | (go_at_fn g1; refine (kU _ ?_).mono ?_; exact ⟨hb2.os, hb2.tape, hb2.output, hb2.size, hb2.block⟩; rintro e w' ⟨rfl, q, rfl⟩) | (go_at_call 59; refine (rW _ ?_).mono ?_; exact ⟨hb2.os, hb2.tape, hb2.output, hb2.size, hb2.block⟩; rintro e w' ⟨rfl, q, rfl⟩) | (go_at_call 58; refine (cW2 _ ?_).mono ?_; exact ⟨hb2.os, hb2.tape, hb2.output, hb2.size, hb2.block⟩; rintro e w4 ⟨rfl, hb4⟩; have y4 := (hb4.block (w.heap.size + 1) (by simp)).trans y2; obtain ⟨x0, x1, x2, x3, x4, xf⟩ := box5 y4))
      obtain ⟨W, hW, hx5, -, hB⟩ := set5 y4 (.int .i64 k') (.string s') (.int .i64 n') (.bool q') (.bool t') (bel_d hb2 hb4) (Nat.le_succ _)
      rw [← hW]
      obtain ⟨f0, f1, f2, f3, f4, -⟩ := box5 hx5
      exact bodyPost_ret (v := .tuple #[.agg #[.int .i64 k', .string s', .int .i64 n', .bool q', .bool t'], .int .i64 z', .int .i64 c']) (by simp [results, Tryz.f42, go_sem, f0, f1, f2, f3, f4]) rfl ⟨rfl, hB⟩
  · show Calls _ _ _ _ (Ans w (resV r1))
    obtain ⟨k', s', n', q', t', z', c', hr⟩ := resV_form r1
    rw [hr] at cW1 ⊢
    clear hr
    go_enter Tryz.func42, Tryz.ntmps42
    go_wp2_with (first | (go_at_fn g0; refine (kL _ ?_).mono ?_; exact ⟨hb2.os, hb2.tape, hb2.output, hb2.size, hb2.block⟩; rintro e w' ⟨rfl, q, rfl⟩) | (go_at_call 59; refine (rW _ ?_).mono ?_; exact ⟨hb2.os, hb2.tape, hb2.output, hb2.size, hb2.block⟩; rintro e w' ⟨rfl, q, rfl⟩) | (go_at_call 58; refine (cW1 _ ?_).mono ?_; exact ⟨hb2.os, hb2.tape, hb2.output, hb2.size, hb2.block⟩; rintro e w4 ⟨rfl, hb4⟩; have y4 := (hb4.block (w.heap.size + 1) (by simp)).trans y2; obtain ⟨x0, x1, x2, x3, x4, xf⟩ := box5 y4))
    obtain ⟨W, hW, hx5, -, hB⟩ := set5 y4 (.int .i64 k') (.string s') (.int .i64 n') (.bool q') (.bool t') (bel_d hb2 hb4) (Nat.le_succ _)
    rw [← hW]
    obtain ⟨f0, f1, f2, f3, f4, -⟩ := box5 hx5
    exact bodyPost_ret (v := .tuple #[.agg #[.int .i64 k', .string s', .int .i64 n', .bool q', .bool t'], .int .i64 z', .int .i64 c']) (by simp [results, Tryz.f42, go_sem, f0, f1, f2, f3, f4]) rfl ⟨rfl, hB⟩
end Go.Proofs.YtfencolokfghfaaGreatDoor
