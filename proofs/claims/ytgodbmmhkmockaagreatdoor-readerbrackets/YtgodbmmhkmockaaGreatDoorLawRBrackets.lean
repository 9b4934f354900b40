/-
  ReaderBrackets: a text in brackets is read as without; two texts one behind the other are the terms of both.
-/
import Derived.Test.YtgodbmmhkmockaaGreatDoorLawRCuts
import Derived.Test.YtgodbmmhkmockaaGreatDoorLists
namespace Go.Proofs.YtgodbmmhkmockaaGreatDoor
open Go.RowKit Go.Maps
set_option linter.unusedVariables false

theorem src_below {W W' : World} {v u : Value} {ls : List Tm} (h : HasTs W u ls) (hb : Below W.heap.size W W') (hv : ∀ k, v.ownBlock = some k → W.heap.size ≤ k) {B : Nat} (hB : W.heap.size ≤ B) : TsIn (Pv W' B v) W' u ls :=
  h.carry (fun b hb' => hb.block b hb') (fun b (hb' : b < W.heap.size) => ⟨Nat.lt_of_lt_of_le hb' hb.size, fun e => by have := hv b e; omega, by omega⟩)
/-- append of terms under a guard that says yes. -/
theorem wpList_append_tsg {w : World} {ops : Array Oper} {rest : List Oper} {o : Oper} {a : Act} {Q : Exit → Act → World → Prop} (hw : Region.wanted o (yielded ops a.tmps) = true) (s x : Operand)
    (ho : o.op = .call { callee := .builtin .append, args := #[s, x], argTypes := #[23, 23] })
    (base B : Nat) (v u : Value) (ks ls : List Tm) (hs : a.eval s = v) (hx : a.eval x = u) (hown : OwnTs w base B v ks) (hsrc : TsIn (Pv w B v) w u ls) (hl : ks.length + ls.length ≤ 1000000000000) (hbase : base ≤ w.heap.size) (hB : B < w.heap.size)
    (h : ∀ v' w', OwnTs w' base B v' (ks ++ ls) → w.grownBy w' v.ownBlock → (v'.ownBlock = v.ownBlock ∨ v'.ownBlock = some w.heap.size) → wpList Tryz.prog ops Q rest (a.put o.dst v') w') : wpList Tryz.prog ops Q (o :: rest) a w := by
  refine BigFrame.wpList_want hw fun K hK => ?_
  obtain ⟨v', w', hr, h2, h3, h4⟩ := run_append_ts o.type base B v u ks ls hown hsrc hl hbase hB
  unfold Oper.wp execOp
  simp only [ho, resolve, invoke, builtin, Sem.run_bind, Sem.run_pure, Result.andThen_ok, List.map_toArray, List.map_cons, List.map_nil, hs, hx, hr]
  exact hK _ _ (h v' w' h2 h3 h4)
theorem lists_same (ks : List Tm) (u v : Value) (w : World) (hu : HasTs w u ks) (hv : HasTs w v ks) (hs : Tm.sizes ks ≤ 1000000000000) : Calls Tryz.prog 10 #[u, v] w (Gets w (.bool true)) := by
  have := lists_at ks ks u v w hu hv hs hs
  simpa using this
theorem lists_other {ks ls : List Tm} (hne : ks ≠ ls) (u v : Value) (w : World) (hu : HasTs w u ks) (hv : HasTs w v ls) (hs : Tm.sizes ks ≤ 1000000000000) (ht : Tm.sizes ls ≤ 1000000000000) : Calls Tryz.prog 10 #[u, v] w (Gets w (.bool false)) := by
  have := lists_at ks ls u v w hu hv hs ht
  simpa [hne] using this
set_option maxRecDepth 100000 in
set_option maxHeartbeats 4000000 in
theorem brackets_big (s t : ByteArray) (hs : s.size ≤ maxLen) (ht : t.size ≤ maxLen) (h : 1000 < s.size ∨ 1000 < t.size) (w : World) (L : Laid w) (T : Tab w) (E : ErrT w) : Calls Tryz.prog 3 #[.string s, .string t] w (Gets w (.bool true)) := by
  have hsh := shown7_at w L T E
  have hsz : s.size ≤ 9223372036854775807 := by unfold maxLen at hs; omega
  have htz : t.size ≤ 9223372036854775807 := by unfold maxLen at ht; omega
  by_cases hbig : 1000 < s.size
  · have hbig' : (1000 : Int) < (s.size : Int) := by omega
    clear h
    go_enter Tryz.func3, Tryz.ntmps3
    go_wp2_with (first | (go_at_call 8; refine hsh.mono ?_; rintro e W1 ⟨rfl, hb1⟩))
    go_ret
    exact ⟨rfl, hb1⟩
  · have hbig' : ¬ (1000 : Int) < (s.size : Int) := by omega
    have hbig2 : (1000 : Int) < (t.size : Int) := by omega
    clear h hbig
    go_enter Tryz.func3, Tryz.ntmps3
    go_wp2_with (first | (go_at_call 8; refine hsh.mono ?_; rintro e W1 ⟨rfl, hb1⟩))
    go_ret
    exact ⟨rfl, hb1⟩
set_option maxRecDepth 100000 in
set_option maxHeartbeats 4000000 in
theorem brackets_a (s t : ByteArray) (hsm : (s.size : Int) ≤ 1000) (htm : (t.size : Int) ≤ 1000) (w : World) (L : Laid w) (T : Tab w) (E : ErrT w) {p c : Int} (hc : c ≠ 0)
    (HA : Hid (∀ W, Laid W → Tab W → ErrT W → Calls Tryz.prog 9 #[.string (s ++ ByteArray.mk #[32, 46, 10]), .int .i64 4] W (fun e w' => e = .returned (.tuple #[.slice none 0 0, .int .i64 p, .int .i64 c]) ∧ Below W.heap.size W w')))
    (HB : Hid (∀ W, Laid W → Tab W → ErrT W → Calls Tryz.prog 9 #[.string (ByteArray.mk #[40, 32] ++ s ++ ByteArray.mk #[32, 41, 32, 46, 10]), .int .i64 4] W (fun e w' => ∃ a n cap p c, e = .returned (.tuple #[.slice a n cap, .int .i64 p, .int .i64 c]) ∧ Below W.heap.size W w' ∧ True)))
    (HC : Hid (∀ W, Laid W → Tab W → ErrT W → Calls Tryz.prog 9 #[.string (t), .int .i64 4] W (fun e w' => ∃ a n cap p c, e = .returned (.tuple #[.slice a n cap, .int .i64 p, .int .i64 c]) ∧ Below W.heap.size W w' ∧ True)))
    (HD : Hid (∀ W, Laid W → Tab W → ErrT W → Calls Tryz.prog 9 #[.string (s ++ ByteArray.mk #[32, 46, 10] ++ t), .int .i64 4] W (fun e w' => ∃ a n cap p c, e = .returned (.tuple #[.slice a n cap, .int .i64 p, .int .i64 c]) ∧ Below W.heap.size W w' ∧ True))) : Calls Tryz.prog 3 #[.string s, .string t] w (Gets w (.bool true)) := by
  have hsh := shown7_at w L T E
  go_enter Tryz.func3, Tryz.ntmps3
  go_wp2_with (first
    | (go_at_call 8; refine hsh.mono ?_; rintro e W1 ⟨rfl, hb1⟩)
    | (go_at_call 9; (with_reducible refine (HA.out _ (L.later hb1) (T.later hb1) (E.later hb1)).mono ?_); rintro e W2 ⟨rfl, hb2'⟩; have hb2 := bel hb1 hb2')
    | (go_at_call 9; (with_reducible refine (HB.out _ (L.later hb2) (T.later hb2) (E.later hb2)).mono ?_); rintro e W3 ⟨a3, n3, k3, p3, c3, rfl, hb3', -⟩; have hb3 := bel hb2 hb3')
    | (go_at_call 9; (with_reducible refine (HC.out _ (L.later hb3) (T.later hb3) (E.later hb3)).mono ?_); rintro e W4 ⟨a4, n4, k4, p4, c4, rfl, hb4', -⟩; have hb4 := bel hb3 hb4')
    | (go_at_call 9; (with_reducible refine (HD.out _ (L.later hb4) (T.later hb4) (E.later hb4)).mono ?_); rintro e W5 ⟨a5, n5, k5, p5, c5, rfl, hb5', -⟩; have hb5 := bel hb4 hb5'))
  all_goals
    go_ret
    exact ⟨rfl, hb5⟩
set_option maxRecDepth 100000 in
set_option maxHeartbeats 4000000 in
theorem brackets_b (s t : ByteArray) (hsm : (s.size : Int) ≤ 1000) (htm : (t.size : Int) ≤ 1000) (w : World) (L : Laid w) (T : Tab w) (E : ErrT w) {Ts : List Tm} (h1 : ¬ ((Ts.length : Int) = 1)) {p c : Int} (hc : c ≠ 0)
    (HA : Hid (∀ W, Laid W → Tab W → ErrT W → Calls Tryz.prog 9 #[.string (s ++ ByteArray.mk #[32, 46, 10]), .int .i64 4] W (fun e w' => ∃ a cap, e = .returned (.tuple #[.slice a Ts.length cap, .int .i64 0, .int .i64 0]) ∧ Below W.heap.size W w' ∧ HasTs w' (.slice a Ts.length cap) Ts)))
    (HB : Hid (∀ W, Laid W → Tab W → ErrT W → Calls Tryz.prog 9 #[.string (ByteArray.mk #[40, 32] ++ s ++ ByteArray.mk #[32, 41, 32, 46, 10]), .int .i64 4] W (fun e w' => ∃ a n cap p c, e = .returned (.tuple #[.slice a n cap, .int .i64 p, .int .i64 c]) ∧ Below W.heap.size W w' ∧ True)))
    (HC : Hid (∀ W, Laid W → Tab W → ErrT W → Calls Tryz.prog 9 #[.string (t), .int .i64 4] W (fun e w' => e = .returned (.tuple #[.slice none 0 0, .int .i64 p, .int .i64 c]) ∧ Below W.heap.size W w')))
    (HD : Hid (∀ W, Laid W → Tab W → ErrT W → Calls Tryz.prog 9 #[.string (s ++ ByteArray.mk #[32, 46, 10] ++ t), .int .i64 4] W (fun e w' => ∃ a n cap p c, e = .returned (.tuple #[.slice a n cap, .int .i64 p, .int .i64 c]) ∧ Below W.heap.size W w' ∧ True))) : Calls Tryz.prog 3 #[.string s, .string t] w (Gets w (.bool true)) := by
  have hsh := shown7_at w L T E
  go_enter Tryz.func3, Tryz.ntmps3
  go_wp2_with (first
    | (go_at_call 8; refine hsh.mono ?_; rintro e W1 ⟨rfl, hb1⟩)
    | (go_at_call 9; (with_reducible refine (HA.out _ (L.later hb1) (T.later hb1) (E.later hb1)).mono ?_); rintro e W2 ⟨a2, k2, rfl, hb2', hv2⟩; have hb2 := bel hb1 hb2')
    | (go_at_call 9; (with_reducible refine (HB.out _ (L.later hb2) (T.later hb2) (E.later hb2)).mono ?_); rintro e W3 ⟨a3, n3, k3, p3, c3, rfl, hb3', -⟩; have hb3 := bel hb2 hb3')
    | (go_at_call 9; (with_reducible refine (HC.out _ (L.later hb3) (T.later hb3) (E.later hb3)).mono ?_); rintro e W4 ⟨rfl, hb4'⟩; have hb4 := bel hb3 hb4')
    | (go_at_call 9; (with_reducible refine (HD.out _ (L.later hb4) (T.later hb4) (E.later hb4)).mono ?_); rintro e W5 ⟨a5, n5, k5, p5, c5, rfl, hb5', -⟩; have hb5 := bel hb4 hb5'))
  all_goals
    go_ret
    exact ⟨rfl, hb5⟩
set_option maxRecDepth 100000 in
set_option maxHeartbeats 4000000 in
theorem brackets_c (s t : ByteArray) (hsm : (s.size : Int) ≤ 1000) (htm : (t.size : Int) ≤ 1000) (w : World) (L : Laid w) (T : Tab w) (E : ErrT w) {Ts Us : List Tm} (h1 : ¬ ((Ts.length : Int) = 1)) (hl : Ts.length + Us.length ≤ 1000000000000) (hz : Tm.sizes (Ts ++ Us) ≤ 1000000000000)
    (HA : Hid (∀ W, Laid W → Tab W → ErrT W → Calls Tryz.prog 9 #[.string (s ++ ByteArray.mk #[32, 46, 10]), .int .i64 4] W (fun e w' => ∃ a cap, e = .returned (.tuple #[.slice a Ts.length cap, .int .i64 0, .int .i64 0]) ∧ Below W.heap.size W w' ∧ HasTs w' (.slice a Ts.length cap) Ts)))
    (HB : Hid (∀ W, Laid W → Tab W → ErrT W → Calls Tryz.prog 9 #[.string (ByteArray.mk #[40, 32] ++ s ++ ByteArray.mk #[32, 41, 32, 46, 10]), .int .i64 4] W (fun e w' => ∃ a n cap p c, e = .returned (.tuple #[.slice a n cap, .int .i64 p, .int .i64 c]) ∧ Below W.heap.size W w' ∧ True)))
    (HC : Hid (∀ W, Laid W → Tab W → ErrT W → Calls Tryz.prog 9 #[.string (t), .int .i64 4] W (fun e w' => ∃ a cap, e = .returned (.tuple #[.slice a Us.length cap, .int .i64 0, .int .i64 0]) ∧ Below W.heap.size W w' ∧ HasTs w' (.slice a Us.length cap) Us)))
    (HD : Hid (∀ W, Laid W → Tab W → ErrT W → Calls Tryz.prog 9 #[.string (s ++ ByteArray.mk #[32, 46, 10] ++ t), .int .i64 4] W (fun e w' => ∃ a cap, e = .returned (.tuple #[.slice a (Ts.length + Us.length) cap, .int .i64 0, .int .i64 0]) ∧ Below W.heap.size W w' ∧ HasTs w' (.slice a (Ts.length + Us.length) cap) (Ts ++ Us)))) : Calls Tryz.prog 3 #[.string s, .string t] w (Gets w (.bool true)) := by
  have hsh := shown7_at w L T E
  go_enter Tryz.func3, Tryz.ntmps3
  go_wp2_with (first
    | (go_at_call 8; refine hsh.mono ?_; rintro e W1 ⟨rfl, hb1⟩)
    | (go_at_call 9; (with_reducible refine (HA.out _ (L.later hb1) (T.later hb1) (E.later hb1)).mono ?_); rintro e W2 ⟨a2, k2, rfl, hb2', hv2⟩; have hb2 := bel hb1 hb2')
    | (go_at_call 9; (with_reducible refine (HB.out _ (L.later hb2) (T.later hb2) (E.later hb2)).mono ?_); rintro e W3 ⟨a3, n3, k3, p3, c3, rfl, hb3', -⟩; have hb3 := bel hb2 hb3')
    | (go_at_call 9; (with_reducible refine (HC.out _ (L.later hb3) (T.later hb3) (E.later hb3)).mono ?_); rintro e W4 ⟨a4, k4, rfl, hb4', hv4⟩; have hb4 := bel hb3 hb4')
    | (go_at_call 9; (with_reducible refine (HD.out _ (L.later hb4) (T.later hb4) (E.later hb4)).mono ?_); rintro e W5 ⟨a5, k5, rfl, hb5', hD5⟩; have hb5 := bel hb4 hb5'; have hA5 := hv2.below (bel hb3' (bel hb4' hb5')); have hC5 := hv4.below hb5')
    | (at_builtin; refine wpList_append_tsg (by rfl) _ _ rfl W5.heap.size W5.heap.size (.slice (some ⟨W5.heap.size, 0, none⟩) 0 0) (.slice a2 Ts.length k2) [] Ts rfl rfl (OwnTs.empty W5 _ _ (Nat.le_refl _)) (src_below hA5 (bel_al (Below.refl _ _) _) (fun k hk => by cases hk; exact Nat.le_refl _) (Nat.le_refl _)) (by simp <;> omega) (by simp) (by simp) ?_; intro v6 W6 ho6 hg6 hat6; rw [List.nil_append] at ho6; have hb6 : Below W5.heap.size W5 W6 := (bel_al (Below.refl _ _) _).grown hg6 (by simp) (fun k hk => by cases hk; exact Nat.le_refl _); have hl6 := ho6.lt; obtain ⟨x6, y6, e6⟩ := ho6.form; subst e6)
    | (at_builtin; refine wpList_append_tsg (by rfl) _ _ rfl W5.heap.size W5.heap.size (.slice x6 Ts.length y6) (.slice a4 Us.length k4) Ts Us rfl rfl ho6 (src_below hC5 hb6 hl6 (Nat.le_refl _)) hl hb6.size (Nat.lt_of_lt_of_le (by simp) hg6.size) ?_; intro v7 W7 ho7 hg7 hat7; have hb7 : Below W5.heap.size W5 W7 := hb6.grown hg7 hb6.size hl6; obtain ⟨x7, y7, e7⟩ := ho7.form; rw [List.length_append] at e7; subst e7)
    | (go_at_call 10; refine (lists_same (Ts ++ Us) _ _ W7 (hD5.below hb7) ho7.ts hz).mono ?_; rintro e W8 ⟨rfl, hb8⟩))
  go_ret
  exact ⟨rfl, bel hb5 (bel hb7 hb8)⟩
set_option maxRecDepth 100000 in
set_option maxHeartbeats 4000000 in
theorem brackets_d1 (s t : ByteArray) (hsm : (s.size : Int) ≤ 1000) (htm : (t.size : Int) ≤ 1000) (w : World) (L : Laid w) (T : Tab w) (E : ErrT w) {Ts : List Tm} (h1 : (Ts.length : Int) = 1) {p c : Int} (hc : c ≠ 0) (hc7 : c ≠ 7)
    (HP : Hid (∀ W, Calls Tryz.prog 11 #[.string s] W fun e w' => e = .returned (.bool true) ∧ w' = W))
    (HA : Hid (∀ W, Laid W → Tab W → ErrT W → Calls Tryz.prog 9 #[.string (s ++ ByteArray.mk #[32, 46, 10]), .int .i64 4] W (fun e w' => ∃ a cap, e = .returned (.tuple #[.slice a Ts.length cap, .int .i64 0, .int .i64 0]) ∧ Below W.heap.size W w' ∧ HasTs w' (.slice a Ts.length cap) Ts)))
    (HB : Hid (∀ W, Laid W → Tab W → ErrT W → Calls Tryz.prog 9 #[.string (ByteArray.mk #[40, 32] ++ s ++ ByteArray.mk #[32, 41, 32, 46, 10]), .int .i64 4] W (fun e w' => e = .returned (.tuple #[.slice none 0 0, .int .i64 p, .int .i64 c]) ∧ Below W.heap.size W w')))
    (HC : Hid (∀ W, Laid W → Tab W → ErrT W → Calls Tryz.prog 9 #[.string (t), .int .i64 4] W (fun e w' => ∃ a n cap p c, e = .returned (.tuple #[.slice a n cap, .int .i64 p, .int .i64 c]) ∧ Below W.heap.size W w' ∧ True)))
    (HD : Hid (∀ W, Laid W → Tab W → ErrT W → Calls Tryz.prog 9 #[.string (s ++ ByteArray.mk #[32, 46, 10] ++ t), .int .i64 4] W (fun e w' => ∃ a n cap p c, e = .returned (.tuple #[.slice a n cap, .int .i64 p, .int .i64 c]) ∧ Below W.heap.size W w' ∧ True))) : Calls Tryz.prog 3 #[.string s, .string t] w (Gets w (.bool true)) := by
  have hsh := shown7_at w L T E
  go_enter Tryz.func3, Tryz.ntmps3
  go_wp2_with (first
    | (go_at_call 8; refine hsh.mono ?_; rintro e W1 ⟨rfl, hb1⟩)
    | (go_at_call 9; (with_reducible refine (HA.out _ (L.later hb1) (T.later hb1) (E.later hb1)).mono ?_); rintro e W2 ⟨a2, k2, rfl, hb2', hv2⟩; have hb2 := bel hb1 hb2')
    | (go_at_call 9; (with_reducible refine (HB.out _ (L.later hb2) (T.later hb2) (E.later hb2)).mono ?_); rintro e W3 ⟨rfl, hb3'⟩; have hb3 := bel hb2 hb3')
    | (go_at_call 9; (with_reducible refine (HC.out _ (L.later hb3) (T.later hb3) (E.later hb3)).mono ?_); rintro e W4 ⟨a4, n4, k4, p4, c4, rfl, hb4', -⟩; have hb4 := bel hb3 hb4')
    | (go_at_call 9; (with_reducible refine (HD.out _ (L.later hb4) (T.later hb4) (E.later hb4)).mono ?_); rintro e W5 ⟨a5, n5, k5, p5, c5, rfl, hb5', -⟩; have hb5 := bel hb4 hb5')
    | (go_at_call 11; refine (HP.out _).mono ?_; rintro e W9 ⟨rfl, rfl⟩))
  all_goals
    go_ret
    exact ⟨rfl, hb5⟩
set_option maxRecDepth 100000 in
set_option maxHeartbeats 4000000 in
theorem brackets_d2 (s t : ByteArray) (hsm : (s.size : Int) ≤ 1000) (htm : (t.size : Int) ≤ 1000) (w : World) (L : Laid w) (T : Tab w) (E : ErrT w) {Ts : List Tm} (h1 : (Ts.length : Int) = 1) {p q c : Int} (hc : c ≠ 0)
    (HA : Hid (∀ W, Laid W → Tab W → ErrT W → Calls Tryz.prog 9 #[.string (s ++ ByteArray.mk #[32, 46, 10]), .int .i64 4] W (fun e w' => ∃ a cap, e = .returned (.tuple #[.slice a Ts.length cap, .int .i64 0, .int .i64 0]) ∧ Below W.heap.size W w' ∧ HasTs w' (.slice a Ts.length cap) Ts)))
    (HB : Hid (∀ W, Laid W → Tab W → ErrT W → Calls Tryz.prog 9 #[.string (ByteArray.mk #[40, 32] ++ s ++ ByteArray.mk #[32, 41, 32, 46, 10]), .int .i64 4] W (fun e w' => e = .returned (.tuple #[.slice none 0 0, .int .i64 p, .int .i64 7]) ∧ Below W.heap.size W w')))
    (HC : Hid (∀ W, Laid W → Tab W → ErrT W → Calls Tryz.prog 9 #[.string (t), .int .i64 4] W (fun e w' => e = .returned (.tuple #[.slice none 0 0, .int .i64 q, .int .i64 c]) ∧ Below W.heap.size W w')))
    (HD : Hid (∀ W, Laid W → Tab W → ErrT W → Calls Tryz.prog 9 #[.string (s ++ ByteArray.mk #[32, 46, 10] ++ t), .int .i64 4] W (fun e w' => ∃ a n cap p c, e = .returned (.tuple #[.slice a n cap, .int .i64 p, .int .i64 c]) ∧ Below W.heap.size W w' ∧ True))) : Calls Tryz.prog 3 #[.string s, .string t] w (Gets w (.bool true)) := by
  have hsh := shown7_at w L T E
  go_enter Tryz.func3, Tryz.ntmps3
  go_wp2_with (first
    | (go_at_call 8; refine hsh.mono ?_; rintro e W1 ⟨rfl, hb1⟩)
    | (go_at_call 9; (with_reducible refine (HA.out _ (L.later hb1) (T.later hb1) (E.later hb1)).mono ?_); rintro e W2 ⟨a2, k2, rfl, hb2', hv2⟩; have hb2 := bel hb1 hb2')
    | (go_at_call 9; (with_reducible refine (HB.out _ (L.later hb2) (T.later hb2) (E.later hb2)).mono ?_); rintro e W3 ⟨rfl, hb3'⟩; have hb3 := bel hb2 hb3')
    | (go_at_call 9; (with_reducible refine (HC.out _ (L.later hb3) (T.later hb3) (E.later hb3)).mono ?_); rintro e W4 ⟨rfl, hb4'⟩; have hb4 := bel hb3 hb4')
    | (go_at_call 9; (with_reducible refine (HD.out _ (L.later hb4) (T.later hb4) (E.later hb4)).mono ?_); rintro e W5 ⟨a5, n5, k5, p5, c5, rfl, hb5', -⟩; have hb5 := bel hb4 hb5'))
  all_goals
    go_ret
    exact ⟨rfl, hb5⟩
set_option maxRecDepth 100000 in
set_option maxHeartbeats 4000000 in
theorem brackets_d3 (s t : ByteArray) (hsm : (s.size : Int) ≤ 1000) (htm : (t.size : Int) ≤ 1000) (w : World) (L : Laid w) (T : Tab w) (E : ErrT w) {Ts Us : List Tm} (h1 : (Ts.length : Int) = 1) {p : Int} (hl : Ts.length + Us.length ≤ 1000000000000) (hz : Tm.sizes (Ts ++ Us) ≤ 1000000000000)
    (HA : Hid (∀ W, Laid W → Tab W → ErrT W → Calls Tryz.prog 9 #[.string (s ++ ByteArray.mk #[32, 46, 10]), .int .i64 4] W (fun e w' => ∃ a cap, e = .returned (.tuple #[.slice a Ts.length cap, .int .i64 0, .int .i64 0]) ∧ Below W.heap.size W w' ∧ HasTs w' (.slice a Ts.length cap) Ts)))
    (HB : Hid (∀ W, Laid W → Tab W → ErrT W → Calls Tryz.prog 9 #[.string (ByteArray.mk #[40, 32] ++ s ++ ByteArray.mk #[32, 41, 32, 46, 10]), .int .i64 4] W (fun e w' => e = .returned (.tuple #[.slice none 0 0, .int .i64 p, .int .i64 7]) ∧ Below W.heap.size W w')))
    (HC : Hid (∀ W, Laid W → Tab W → ErrT W → Calls Tryz.prog 9 #[.string (t), .int .i64 4] W (fun e w' => ∃ a cap, e = .returned (.tuple #[.slice a Us.length cap, .int .i64 0, .int .i64 0]) ∧ Below W.heap.size W w' ∧ HasTs w' (.slice a Us.length cap) Us)))
    (HD : Hid (∀ W, Laid W → Tab W → ErrT W → Calls Tryz.prog 9 #[.string (s ++ ByteArray.mk #[32, 46, 10] ++ t), .int .i64 4] W (fun e w' => ∃ a cap, e = .returned (.tuple #[.slice a (Ts.length + Us.length) cap, .int .i64 0, .int .i64 0]) ∧ Below W.heap.size W w' ∧ HasTs w' (.slice a (Ts.length + Us.length) cap) (Ts ++ Us)))) : Calls Tryz.prog 3 #[.string s, .string t] w (Gets w (.bool true)) := by
  have hsh := shown7_at w L T E
  go_enter Tryz.func3, Tryz.ntmps3
  go_wp2_with (first
    | (go_at_call 8; refine hsh.mono ?_; rintro e W1 ⟨rfl, hb1⟩)
    | (go_at_call 9; (with_reducible refine (HA.out _ (L.later hb1) (T.later hb1) (E.later hb1)).mono ?_); rintro e W2 ⟨a2, k2, rfl, hb2', hv2⟩; have hb2 := bel hb1 hb2')
    | (go_at_call 9; (with_reducible refine (HB.out _ (L.later hb2) (T.later hb2) (E.later hb2)).mono ?_); rintro e W3 ⟨rfl, hb3'⟩; have hb3 := bel hb2 hb3')
    | (go_at_call 9; (with_reducible refine (HC.out _ (L.later hb3) (T.later hb3) (E.later hb3)).mono ?_); rintro e W4 ⟨a4, k4, rfl, hb4', hv4⟩; have hb4 := bel hb3 hb4')
    | (go_at_call 9; (with_reducible refine (HD.out _ (L.later hb4) (T.later hb4) (E.later hb4)).mono ?_); rintro e W5 ⟨a5, k5, rfl, hb5', hD5⟩; have hb5 := bel hb4 hb5'; have hA5 := hv2.below (bel hb3' (bel hb4' hb5')); have hC5 := hv4.below hb5')
    | (at_builtin; refine wpList_append_tsg (by rfl) _ _ rfl W5.heap.size W5.heap.size (.slice (some ⟨W5.heap.size, 0, none⟩) 0 0) (.slice a2 Ts.length k2) [] Ts rfl rfl (OwnTs.empty W5 _ _ (Nat.le_refl _)) (src_below hA5 (bel_al (Below.refl _ _) _) (fun k hk => by cases hk; exact Nat.le_refl _) (Nat.le_refl _)) (by simp <;> omega) (by simp) (by simp) ?_; intro v6 W6 ho6 hg6 hat6; rw [List.nil_append] at ho6; have hb6 : Below W5.heap.size W5 W6 := (bel_al (Below.refl _ _) _).grown hg6 (by simp) (fun k hk => by cases hk; exact Nat.le_refl _); have hl6 := ho6.lt; obtain ⟨x6, y6, e6⟩ := ho6.form; subst e6)
    | (at_builtin; refine wpList_append_tsg (by rfl) _ _ rfl W5.heap.size W5.heap.size (.slice x6 Ts.length y6) (.slice a4 Us.length k4) Ts Us rfl rfl ho6 (src_below hC5 hb6 hl6 (Nat.le_refl _)) hl hb6.size (Nat.lt_of_lt_of_le (by simp) hg6.size) ?_; intro v7 W7 ho7 hg7 hat7; have hb7 : Below W5.heap.size W5 W7 := hb6.grown hg7 hb6.size hl6; obtain ⟨x7, y7, e7⟩ := ho7.form; rw [List.length_append] at e7; subst e7)
    | (go_at_call 10; refine (lists_same (Ts ++ Us) _ _ W7 (hD5.below hb7) ho7.ts hz).mono ?_; rintro e W8 ⟨rfl, hb8⟩))
  go_ret
  exact ⟨rfl, bel hb5 (bel hb7 hb8)⟩
set_option maxRecDepth 100000 in
set_option maxHeartbeats 4000000 in
theorem brackets_e1 (s t : ByteArray) (hsm : (s.size : Int) ≤ 1000) (htm : (t.size : Int) ≤ 1000) (w : World) (L : Laid w) (T : Tab w) (E : ErrT w) {Ts Vs : List Tm} (h1 : (Ts.length : Int) = 1) (hv : Ts ≠ Vs) (hzt : Tm.sizes Ts ≤ 1000000000000) (hzv : Tm.sizes Vs ≤ 1000000000000)
    (HP : Hid (∀ W, Calls Tryz.prog 11 #[.string s] W fun e w' => e = .returned (.bool true) ∧ w' = W))
    (HA : Hid (∀ W, Laid W → Tab W → ErrT W → Calls Tryz.prog 9 #[.string (s ++ ByteArray.mk #[32, 46, 10]), .int .i64 4] W (fun e w' => ∃ a cap, e = .returned (.tuple #[.slice a Ts.length cap, .int .i64 0, .int .i64 0]) ∧ Below W.heap.size W w' ∧ HasTs w' (.slice a Ts.length cap) Ts)))
    (HB : Hid (∀ W, Laid W → Tab W → ErrT W → Calls Tryz.prog 9 #[.string (ByteArray.mk #[40, 32] ++ s ++ ByteArray.mk #[32, 41, 32, 46, 10]), .int .i64 4] W (fun e w' => ∃ a cap, e = .returned (.tuple #[.slice a Vs.length cap, .int .i64 0, .int .i64 0]) ∧ Below W.heap.size W w' ∧ HasTs w' (.slice a Vs.length cap) Vs)))
    (HC : Hid (∀ W, Laid W → Tab W → ErrT W → Calls Tryz.prog 9 #[.string (t), .int .i64 4] W (fun e w' => ∃ a n cap p c, e = .returned (.tuple #[.slice a n cap, .int .i64 p, .int .i64 c]) ∧ Below W.heap.size W w' ∧ True)))
    (HD : Hid (∀ W, Laid W → Tab W → ErrT W → Calls Tryz.prog 9 #[.string (s ++ ByteArray.mk #[32, 46, 10] ++ t), .int .i64 4] W (fun e w' => ∃ a n cap p c, e = .returned (.tuple #[.slice a n cap, .int .i64 p, .int .i64 c]) ∧ Below W.heap.size W w' ∧ True))) : Calls Tryz.prog 3 #[.string s, .string t] w (Gets w (.bool true)) := by
  have hsh := shown7_at w L T E
  go_enter Tryz.func3, Tryz.ntmps3
  go_wp2_with (first
    | (go_at_call 8; refine hsh.mono ?_; rintro e W1 ⟨rfl, hb1⟩)
    | (go_at_call 9; (with_reducible refine (HA.out _ (L.later hb1) (T.later hb1) (E.later hb1)).mono ?_); rintro e W2 ⟨a2, k2, rfl, hb2', hv2⟩; have hb2 := bel hb1 hb2')
    | (go_at_call 9; (with_reducible refine (HB.out _ (L.later hb2) (T.later hb2) (E.later hb2)).mono ?_); rintro e W3 ⟨a3, k3, rfl, hb3', hv3⟩; have hb3 := bel hb2 hb3')
    | (go_at_call 9; (with_reducible refine (HC.out _ (L.later hb3) (T.later hb3) (E.later hb3)).mono ?_); rintro e W4 ⟨a4, n4, k4, p4, c4, rfl, hb4', -⟩; have hb4 := bel hb3 hb4')
    | (go_at_call 9; (with_reducible refine (HD.out _ (L.later hb4) (T.later hb4) (E.later hb4)).mono ?_); rintro e W5 ⟨a5, n5, k5, p5, c5, rfl, hb5', -⟩; have hb5 := bel hb4 hb5')
    | (go_at_call 10; refine (lists_other hv _ _ W5 (hv2.below (bel hb3' (bel hb4' hb5'))) (hv3.below (bel hb4' hb5')) hzt hzv).mono ?_; rintro e W51 ⟨rfl, hb51'⟩; have hb51 := bel hb5 hb51')
    | (go_at_call 11; refine (HP.out _).mono ?_; rintro e W9 ⟨rfl, rfl⟩))
  all_goals
    go_ret
    exact ⟨rfl, hb51⟩
set_option maxRecDepth 100000 in
set_option maxHeartbeats 4000000 in
theorem brackets_e2 (s t : ByteArray) (hsm : (s.size : Int) ≤ 1000) (htm : (t.size : Int) ≤ 1000) (w : World) (L : Laid w) (T : Tab w) (E : ErrT w) {Ts : List Tm} (h1 : (Ts.length : Int) = 1) (hzt : Tm.sizes Ts ≤ 1000000000000) {q c : Int} (hc : c ≠ 0)
    (HA : Hid (∀ W, Laid W → Tab W → ErrT W → Calls Tryz.prog 9 #[.string (s ++ ByteArray.mk #[32, 46, 10]), .int .i64 4] W (fun e w' => ∃ a cap, e = .returned (.tuple #[.slice a Ts.length cap, .int .i64 0, .int .i64 0]) ∧ Below W.heap.size W w' ∧ HasTs w' (.slice a Ts.length cap) Ts)))
    (HB : Hid (∀ W, Laid W → Tab W → ErrT W → Calls Tryz.prog 9 #[.string (ByteArray.mk #[40, 32] ++ s ++ ByteArray.mk #[32, 41, 32, 46, 10]), .int .i64 4] W (fun e w' => ∃ a cap, e = .returned (.tuple #[.slice a Ts.length cap, .int .i64 0, .int .i64 0]) ∧ Below W.heap.size W w' ∧ HasTs w' (.slice a Ts.length cap) Ts)))
    (HC : Hid (∀ W, Laid W → Tab W → ErrT W → Calls Tryz.prog 9 #[.string (t), .int .i64 4] W (fun e w' => e = .returned (.tuple #[.slice none 0 0, .int .i64 q, .int .i64 c]) ∧ Below W.heap.size W w')))
    (HD : Hid (∀ W, Laid W → Tab W → ErrT W → Calls Tryz.prog 9 #[.string (s ++ ByteArray.mk #[32, 46, 10] ++ t), .int .i64 4] W (fun e w' => ∃ a n cap p c, e = .returned (.tuple #[.slice a n cap, .int .i64 p, .int .i64 c]) ∧ Below W.heap.size W w' ∧ True))) : Calls Tryz.prog 3 #[.string s, .string t] w (Gets w (.bool true)) := by
  have hsh := shown7_at w L T E
  go_enter Tryz.func3, Tryz.ntmps3
  go_wp2_with (first
    | (go_at_call 8; refine hsh.mono ?_; rintro e W1 ⟨rfl, hb1⟩)
    | (go_at_call 9; (with_reducible refine (HA.out _ (L.later hb1) (T.later hb1) (E.later hb1)).mono ?_); rintro e W2 ⟨a2, k2, rfl, hb2', hv2⟩; have hb2 := bel hb1 hb2')
    | (go_at_call 9; (with_reducible refine (HB.out _ (L.later hb2) (T.later hb2) (E.later hb2)).mono ?_); rintro e W3 ⟨a3, k3, rfl, hb3', hv3⟩; have hb3 := bel hb2 hb3')
    | (go_at_call 9; (with_reducible refine (HC.out _ (L.later hb3) (T.later hb3) (E.later hb3)).mono ?_); rintro e W4 ⟨rfl, hb4'⟩; have hb4 := bel hb3 hb4')
    | (go_at_call 9; (with_reducible refine (HD.out _ (L.later hb4) (T.later hb4) (E.later hb4)).mono ?_); rintro e W5 ⟨a5, n5, k5, p5, c5, rfl, hb5', -⟩; have hb5 := bel hb4 hb5')
    | (go_at_call 10; refine (lists_same Ts _ _ W5 (hv2.below (bel hb3' (bel hb4' hb5'))) (hv3.below (bel hb4' hb5')) hzt).mono ?_; rintro e W51 ⟨rfl, hb51'⟩; have hb51 := bel hb5 hb51'))
  all_goals
    go_ret
    exact ⟨rfl, hb51⟩
set_option maxRecDepth 100000 in
set_option maxHeartbeats 4000000 in
theorem brackets_e3 (s t : ByteArray) (hsm : (s.size : Int) ≤ 1000) (htm : (t.size : Int) ≤ 1000) (w : World) (L : Laid w) (T : Tab w) (E : ErrT w) {Ts Us : List Tm} (h1 : (Ts.length : Int) = 1) (hzt : Tm.sizes Ts ≤ 1000000000000) (hl : Ts.length + Us.length ≤ 1000000000000) (hz : Tm.sizes (Ts ++ Us) ≤ 1000000000000)
    (HA : Hid (∀ W, Laid W → Tab W → ErrT W → Calls Tryz.prog 9 #[.string (s ++ ByteArray.mk #[32, 46, 10]), .int .i64 4] W (fun e w' => ∃ a cap, e = .returned (.tuple #[.slice a Ts.length cap, .int .i64 0, .int .i64 0]) ∧ Below W.heap.size W w' ∧ HasTs w' (.slice a Ts.length cap) Ts)))
    (HB : Hid (∀ W, Laid W → Tab W → ErrT W → Calls Tryz.prog 9 #[.string (ByteArray.mk #[40, 32] ++ s ++ ByteArray.mk #[32, 41, 32, 46, 10]), .int .i64 4] W (fun e w' => ∃ a cap, e = .returned (.tuple #[.slice a Ts.length cap, .int .i64 0, .int .i64 0]) ∧ Below W.heap.size W w' ∧ HasTs w' (.slice a Ts.length cap) Ts)))
    (HC : Hid (∀ W, Laid W → Tab W → ErrT W → Calls Tryz.prog 9 #[.string (t), .int .i64 4] W (fun e w' => ∃ a cap, e = .returned (.tuple #[.slice a Us.length cap, .int .i64 0, .int .i64 0]) ∧ Below W.heap.size W w' ∧ HasTs w' (.slice a Us.length cap) Us)))
    (HD : Hid (∀ W, Laid W → Tab W → ErrT W → Calls Tryz.prog 9 #[.string (s ++ ByteArray.mk #[32, 46, 10] ++ t), .int .i64 4] W (fun e w' => ∃ a cap, e = .returned (.tuple #[.slice a (Ts.length + Us.length) cap, .int .i64 0, .int .i64 0]) ∧ Below W.heap.size W w' ∧ HasTs w' (.slice a (Ts.length + Us.length) cap) (Ts ++ Us)))) : Calls Tryz.prog 3 #[.string s, .string t] w (Gets w (.bool true)) := by
  have hsh := shown7_at w L T E
  go_enter Tryz.func3, Tryz.ntmps3
  go_wp2_with (first
    | (go_at_call 8; refine hsh.mono ?_; rintro e W1 ⟨rfl, hb1⟩)
    | (go_at_call 9; (with_reducible refine (HA.out _ (L.later hb1) (T.later hb1) (E.later hb1)).mono ?_); rintro e W2 ⟨a2, k2, rfl, hb2', hv2⟩; have hb2 := bel hb1 hb2')
    | (go_at_call 9; (with_reducible refine (HB.out _ (L.later hb2) (T.later hb2) (E.later hb2)).mono ?_); rintro e W3 ⟨a3, k3, rfl, hb3', hv3⟩; have hb3 := bel hb2 hb3')
    | (go_at_call 9; (with_reducible refine (HC.out _ (L.later hb3) (T.later hb3) (E.later hb3)).mono ?_); rintro e W4 ⟨a4, k4, rfl, hb4', hv4⟩; have hb4 := bel hb3 hb4')
    | (go_at_call 9; (with_reducible refine (HD.out _ (L.later hb4) (T.later hb4) (E.later hb4)).mono ?_); rintro e W5 ⟨a5, k5, rfl, hb5', hv5⟩; have hb5 := bel hb4 hb5')
    | (at_builtin; refine wpList_append_tsg (by rfl) _ _ rfl W51.heap.size W51.heap.size (.slice (some ⟨W51.heap.size, 0, none⟩) 0 0) (.slice a2 Ts.length k2) [] Ts rfl rfl (OwnTs.empty W51 _ _ (Nat.le_refl _)) (src_below hA5 (bel_al (Below.refl _ _) _) (fun k hk => by cases hk; exact Nat.le_refl _) (Nat.le_refl _)) (by simp <;> omega) (by simp) (by simp) ?_; intro v6 W6 ho6 hg6 hat6; rw [List.nil_append] at ho6; have hb6 : Below W51.heap.size W51 W6 := (bel_al (Below.refl _ _) _).grown hg6 (by simp) (fun k hk => by cases hk; exact Nat.le_refl _); have hl6 := ho6.lt; obtain ⟨x6, y6, e6⟩ := ho6.form; subst e6)
    | (at_builtin; refine wpList_append_tsg (by rfl) _ _ rfl W51.heap.size W51.heap.size (.slice x6 Ts.length y6) (.slice a4 Us.length k4) Ts Us rfl rfl ho6 (src_below hC5 hb6 hl6 (Nat.le_refl _)) hl hb6.size (Nat.lt_of_lt_of_le (by simp) hg6.size) ?_; intro v7 W7 ho7 hg7 hat7; have hb7 : Below W51.heap.size W51 W7 := hb6.grown hg7 hb6.size hl6; obtain ⟨x7, y7, e7⟩ := ho7.form; rw [List.length_append] at e7; subst e7)
    | (go_at_call 10; refine (lists_same (Ts ++ Us) _ _ W7 (hD5.below hb7) ho7.ts hz).mono ?_; rintro e W8 ⟨rfl, hb8⟩)
    | (go_at_call 10; refine (lists_same Ts _ _ W5 (hv2.below (bel hb3' (bel hb4' hb5'))) (hv3.below (bel hb4' hb5')) hzt).mono ?_; rintro e W51 ⟨rfl, hb51'⟩; have hb51 := bel hb5 hb51'; have hA5 := hv2.below (bel hb3' (bel hb4' (bel hb5' hb51'))); have hC5 := hv4.below (bel hb5' hb51'); have hD5 := hv5.below hb51'))
  go_ret
  exact ⟨rfl, bel hb51 (bel hb7 hb8)⟩
theorem ans_any (x : ByteArray) (l : List UInt8) (hx : x.data.toList = l) (hl : l.length ≤ 4096) : Hid (∀ W, Laid W → Tab W → ErrT W → Calls Tryz.prog 9 #[.string x, .int .i64 4] W (fun e w' => ∃ a n cap p c, e = .returned (.tuple #[.slice a n cap, .int .i64 p, .int .i64 c]) ∧ Below W.heap.size W w' ∧ True)) :=
  Lib.hid fun W L T E => (all_any x l hx hl 4 rfl W L T E).mono fun e w' h => by
    obtain ⟨a, n, cap, p, c, h1, h2, -⟩ := h
    exact ⟨a, n, cap, p, c, h1, h2, trivial⟩
theorem ans_ok (x : ByteArray) (l : List UInt8) (hx : x.data.toList = l) (hl : l.length ≤ 4096) {Ts : List Tm} (h : allG l 4 = .ok Ts) {n : Nat} (hn : n = Ts.length) : Hid (∀ W, Laid W → Tab W → ErrT W → Calls Tryz.prog 9 #[.string x, .int .i64 4] W (fun e w' => ∃ a cap, e = .returned (.tuple #[.slice a n cap, .int .i64 0, .int .i64 0]) ∧ Below W.heap.size W w' ∧ HasTs w' (.slice a n cap) Ts)) :=
  Lib.hid fun W L T E => by
    subst hn
    have := all_at x l hx W L T E (by have : x.size = l.length := by rw [← hx]; rfl
                                      omega) 4
    rw [h] at this
    exact this
theorem ans_bad (x : ByteArray) (l : List UInt8) (hx : x.data.toList = l) (hl : l.length ≤ 4096) {p : Nat} {c : Int} (h : allG l 4 = .bad p c) : Hid (∀ W, Laid W → Tab W → ErrT W → Calls Tryz.prog 9 #[.string x, .int .i64 4] W (fun e w' => e = .returned (.tuple #[.slice none 0 0, .int .i64 (p : Int), .int .i64 c]) ∧ Below W.heap.size W w')) :=
  Lib.hid fun W L T E => by
    have := all_at x l hx W L T E (by have : x.size = l.length := by rw [← hx]; rfl
                                      omega) 4
    rw [h] at this
    exact this
theorem sizes_le : ∀ (Ts : List Tm), (∀ t ∈ Ts, t.size ≤ 4096) → Tm.sizes Ts ≤ 4096 * Ts.length
  | [], _ => by rw [Tm.sizes_nil]; omega
  | t :: ts, h => by
    have h1 := sizes_le ts (fun u hu => h u (by simp [hu]))
    have h2 := h t (by simp)
    rw [Tm.sizes_cons, List.length_cons]; omega
theorem good_sizes {l : List UInt8} {Ts : List Tm} (h : allG l 4 = .ok Ts) : Tm.sizes Ts ≤ 16777216 ∧ Ts.length ≤ 4096 := by
  obtain ⟨h1, h2⟩ := allG_good h
  have := sizes_le Ts (fun t ht => (h1 t ht).2.2)
  exact ⟨by omega, h2⟩
theorem brackets_at (s t : ByteArray) (hs : s.size ≤ maxLen) (ht : t.size ≤ maxLen) (w : World) (L : Laid w) (T : Tab w) (E : ErrT w) : Calls Tryz.prog 3 #[.string s, .string t] w (Gets w (.bool true)) := by
  by_cases hb : 1000 < s.size ∨ 1000 < t.size
  · exact brackets_big s t hs ht hb w L T E
  have hsm : (s.size : Int) ≤ 1000 := by omega
  have htm : (t.size : Int) ≤ 1000 := by omega
  have l1 : s.data.toList.length ≤ 1000 := by
    have := len_of (s := s) rfl
    omega
  have l2 : t.data.toList.length ≤ 1000 := by
    have := len_of (s := t) rfl
    omega
  have xA : (s ++ ByteArray.mk #[32, 46, 10]).data.toList = s.data.toList ++ [32, 46, 10] := rd_app _ _
  have xB : (ByteArray.mk #[40, 32] ++ s ++ ByteArray.mk #[32, 41, 32, 46, 10]).data.toList = [40, 32] ++ s.data.toList ++ [32, 41, 32, 46, 10] := by rw [rd_app, rd_app]
  have xD : (s ++ ByteArray.mk #[32, 46, 10] ++ t).data.toList = s.data.toList ++ [32, 46, 10] ++ t.data.toList := by rw [rd_app, rd_app]
  have yA : (s.data.toList ++ [32, 46, 10]).length ≤ 4096 := by simp; omega
  have yB : ([40, 32] ++ s.data.toList ++ [32, 41, 32, 46, 10]).length ≤ 4096 := by simp; omega
  have yD : (s.data.toList ++ [32, 46, 10] ++ t.data.toList).length ≤ 4096 := by simp; omega
  have aB := ans_any _ _ xB yB
  have aC := ans_any t _ rfl (by omega)
  have aD := ans_any _ _ xD yD
  cases hA : allG (s.data.toList ++ [32, 46, 10]) 4 with
  | bad p c => exact brackets_a s t hsm htm w L T E (allG_nz hA) (ans_bad _ _ xA yA hA) aB aC aD
  | ok Ts =>
    obtain ⟨zt, lt⟩ := good_sizes hA
    have HA := ans_ok _ _ xA yA hA rfl
    -- what stands behind
    have key : (∃ p c, allG t.data.toList 4 = .bad p c ∧ c ≠ 0) ∨ ∃ Us, allG t.data.toList 4 = .ok Us ∧ Ts.length + Us.length ≤ 1000000000000 ∧ Tm.sizes (Ts ++ Us) ≤ 1000000000000 ∧ allG (s.data.toList ++ [32, 46, 10] ++ t.data.toList) 4 = .ok (Ts ++ Us) := by
      cases hC : allG t.data.toList 4 with
      | bad p c => exact .inl ⟨p, c, rfl, allG_nz hC⟩
      | ok Us =>
        obtain ⟨zu, lu⟩ := good_sizes hC
        exact .inr ⟨Us, rfl, by omega, by rw [Tm.sizes_append]; omega, behind_ghost l1 l2 hA hC⟩
    by_cases h1 : Ts.length = 1
    · have h1' : (Ts.length : Int) = 1 := by omega
      have hB : (∃ p, allG ([40, 32] ++ s.data.toList ++ [32, 41, 32, 46, 10]) 4 = .bad p 7) ∨ allG ([40, 32] ++ s.data.toList ++ [32, 41, 32, 46, 10]) 4 = .ok Ts ∨ (plnE s.data.toList = true ∧ ((∃ p c, allG ([40, 32] ++ s.data.toList ++ [32, 41, 32, 46, 10]) 4 = .bad p c ∧ c ≠ 0 ∧ c ≠ 7) ∨ ∃ Vs, allG ([40, 32] ++ s.data.toList ++ [32, 41, 32, 46, 10]) 4 = .ok Vs ∧ Ts ≠ Vs)) := by
        cases hp : plnE s.data.toList with
        | false =>
          rcases brackets_ghost l1 h1 (plnE_no hp).1 hA with h | h
          · exact .inr (.inl h)
          · exact .inl h
        | true =>
          cases hg : allG ([40, 32] ++ s.data.toList ++ [32, 41, 32, 46, 10]) 4 with
          | bad p c =>
            by_cases h7 : c = 7
            · exact .inl ⟨p, by rw [h7]⟩
            · exact .inr (.inr ⟨rfl, .inl ⟨p, c, rfl, allG_nz hg, h7⟩⟩)
          | ok Vs =>
            by_cases hv : Ts = Vs
            · exact .inr (.inl (by rw [hv]))
            · exact .inr (.inr ⟨rfl, .inr ⟨Vs, rfl, hv⟩⟩)
      rcases hB with ⟨p, hB⟩ | hB | ⟨hp, hB⟩
      · have HB := ans_bad _ _ xB yB hB
        rcases key with ⟨q, c, hC, hc⟩ | ⟨Us, hC, hl, hz, hD⟩
        · exact brackets_d2 s t hsm htm w L T E h1' hc HA HB (ans_bad t _ rfl (by omega) hC) aD
        · exact brackets_d3 s t hsm htm w L T E h1' hl hz HA HB (ans_ok t _ rfl (by omega) hC rfl) (ans_ok _ _ xD yD hD (by rw [List.length_append]))
      · have HB := ans_ok _ _ xB yB hB rfl
        rcases key with ⟨q, c, hC, hc⟩ | ⟨Us, hC, hl, hz, hD⟩
        · exact brackets_e2 s t hsm htm w L T E h1' (by omega) hc HA HB (ans_bad t _ rfl (by omega) hC) aD
        · exact brackets_e3 s t hsm htm w L T E h1' (by omega) hl hz HA HB (ans_ok t _ rfl (by omega) hC rfl) (ans_ok _ _ xD yD hD (by rw [List.length_append]))
      · have HP : Hid (∀ W, Calls Tryz.prog 11 #[.string s] W fun e w' => e = .returned (.bool true) ∧ w' = W) := Lib.hid fun W => by
          have := plain_at s s.data.toList rfl (by omega) W
          rwa [hp] at this
        rcases hB with ⟨p, c, hB, hc, hc7⟩ | ⟨Vs, hB, hv⟩
        · exact brackets_d1 s t hsm htm w L T E h1' hc hc7 HP HA (ans_bad _ _ xB yB hB) aC aD
        · obtain ⟨zv, -⟩ := good_sizes hB
          exact brackets_e1 s t hsm htm w L T E h1' hv (by omega) (by omega) HP HA (ans_ok _ _ xB yB hB rfl) aC aD
    · have h1' : ¬ (Ts.length : Int) = 1 := by omega
      rcases key with ⟨q, c, hC, hc⟩ | ⟨Us, hC, hl, hz, hD⟩
      · exact brackets_b s t hsm htm w L T E h1' hc HA aB (ans_bad t _ rfl (by omega) hC) aD
      · exact brackets_c s t hsm htm w L T E h1' hl hz HA aB (ans_ok t _ rfl (by omega) hC rfl) (ans_ok _ _ xD yD hD (by rw [List.length_append]))
end Go.Proofs.YtgodbmmhkmockaaGreatDoor
