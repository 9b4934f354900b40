/-
  The parts of a term, walked: term.walk, the function that term.parts makes, and term.parts itself.
-/
import Derived.Test.YtbdkakpbhijilaaTm
namespace Go.Proofs.Ytbdkakpbhijilaa
open Go.RowKit Go.Shelf
set_option linter.unusedVariables false
attribute [local go_sem] Oper.semAt_some

theorem room_none {F : Fence} (hd : F.depth = none) (k : Nat) : F.room k := fun d h => by rw [hd] at h; cases h
theorem RoundIn.anyDeep {F : Fence} (hd : F.depth = none) {m m' : Nat} {P : Program} {l : Nat} {f : FuncId} {tmps : Array Value} {assign body : Code} {w : World} {R : Ending → World → Prop}
    (h : RoundIn F m P l f tmps assign body w R) : RoundIn F m' P l f tmps assign body w R := ⟨h.1, fun c cs _ => h.2 c cs (room_none hd _)⟩
theorem YieldAt.anyDeep {F : Fence} (hd : F.depth = none) {m : Nat} (m' : Nat) {P : Program} {l : Nat} {args : Array Value} {W : World} {R : Ending → World → Prop} (h : YieldAt F m P l args W R) : YieldAt F m' P l args W R := by
  obtain ⟨fn, tmps, assign, body, hy, hR⟩ := h
  exact ⟨fn, tmps, assign, body, hy, RoundIn.anyDeep hd hR⟩

theorem abides_alloc {β : Type} {B : Nat} {J : β → World → Prop} (h : AbidesFrom B J) {s : β} {W : World} (hs : J s W) (o : Obj) : J s (W.alloc o) :=
  h s W _ none hs (World.grownBy_alloc W o none) (fun r e => by cases e)

/-- What a round keeps: all that lies below n₀, and each block of terms. -/
structure Keeps (n₀ : Nat) (W W' : World) : Prop where
  below : Below n₀ W W'
  terms : ∀ (b : Nat) (c : Array Value) (z : Nat × Nat), W.heap[b]? = some (.cells c 24 z) → W'.heap[b]? = some (.cells c 24 z)

theorem Keeps.refl (n₀ : Nat) (W : World) : Keeps n₀ W W := ⟨Below.refl _ _, fun _ _ _ h => h⟩
theorem Keeps.trans {n₀ : Nat} {A B C : World} (h : Keeps n₀ A B) (k : Keeps n₀ B C) : Keeps n₀ A C := ⟨h.below.trans k.below, fun b c z e => k.terms b c z (h.terms b c z e)⟩
theorem Keeps.all {n₀ : Nat} {A B : World} (h : Below A.heap.size A B) (hn : n₀ ≤ A.heap.size) : Keeps n₀ A B := ⟨h.mono hn, fun b c z e => (h.block b (Array.getElem?_eq_some_iff.1 e).1).trans e⟩
theorem Keeps.alloc {n₀ : Nat} {A B : World} (h : Keeps n₀ A B) (hn : n₀ ≤ B.heap.size) (o : Obj) : Keeps n₀ A (B.alloc o) :=
  h.trans (.all ((Below.refl _ _).alloc (Nat.le_refl _) o) hn)
theorem keeps_t {n₀ : Nat} : ∀ {A B C : World}, Keeps n₀ A B → Keeps n₀ B C → Keeps n₀ A C := fun h k => h.trans k
theorem keeps_b {n₀ : Nat} {w : World} (hn : n₀ ≤ w.heap.size) : ∀ (W : World) (l : Nat) (o o' : Obj), w.heap.size ≤ l → W.heap[l]? = some o → o.isCells = false → o.isWalk = false → Keeps n₀ W (W.putObj l o') :=
  fun W l o o' hl ho hc hw => ⟨belowK_b hn W l o o' hl ho hc hw, fun b c z e => by
    by_cases h : b = l
    · subst h; rw [ho] at e; cases e; cases hc
    · exact (World.putObj_heap_other h).trans e⟩

def Part.encs {n₀ : Nat} {w0 : World} (x : Part n₀ w0) : Array Value := #[.int .i64 (x.1.1 : Int), x.1.2.1]

set_option maxRecDepth 100000 in
set_option maxHeartbeats 2000000 in
theorem walk_in (F : Fence) (hd : F.depth = none) (hf : F.fn 76) (hro : F.round = none) (n₀ : Nat) (w0 : World) (l N B : Nat) (J Jx : List (Part n₀ w0) → World → Prop) (hJ : AbidesFrom B J)
    (hY : ∀ m pre (x : Part n₀ w0) W, J pre W → pre.length < N → YieldAt F m Try.prog l x.encs W fun e W' =>
      (e = .returned (.bool true) ∧ J (pre ++ [x]) W' ∧ Keeps n₀ W W') ∨ (e = .returned (.bool false) ∧ Jx (pre ++ [x]) W')) (T : Tm) :
    ∀ (v : Value) (d n : Nat) (pre : List (Part n₀ w0)) (W : World), IsTm n₀ w0 v T → Below n₀ w0 W → n₀ ≤ W.heap.size → J pre W → d + T.size ≤ 4611686018427387904 → T.size ≤ 4000000000000000000 → pre.length + T.size ≤ N →
      CallsIn F n Try.prog 76 #[v, .int .i64 d, .func (.yield l) #[] #[]] W fun e W' =>
        (e = .returned (.bool true) ∧ (∃ L, L.map Part.key = T.parts d ∧ J (pre ++ L) W') ∧ Keeps n₀ W W') ∨ (e = .returned (.bool false) ∧ ∃ q, q.map Part.key <+: T.parts d ∧ Jx (pre ++ q) W') := by
  induction T using Tm.ind with
  | h k n' s ks ih =>
    intro v d n pre W ht hb hn₀ hJ0 hd0 hd1 hN
    have hdd : ∀ k : Nat, (F.depth.isSome = true → 1 ≤ k) := fun k h => by rw [hd] at h; cases h
    have ht' := ht
    obtain ⟨k_, n_, s_, a, len, cap, ks_, rfl, e, rfl, hk, hn, hs, hc, hm, ha⟩ := ht'.form
    injection e with e1 e2 e3 e4
    subst e1 e2 e3 e4
    obtain ⟨W1, hW1⟩ : ∃ W1, W.alloc (.cells #[.int .i64 k, .int .i64 n', .string s, .slice a ks.length cap] 24) = W1 := ⟨_, rfl⟩
    have hJ1 : J pre W1 := by rw [← hW1]; exact abides_alloc hJ hJ0 _
    obtain ⟨fn, tmps, assign, body, hy, hR⟩ := hY (n - 1) pre ⟨(d, _, _), ht, by omega, hd1⟩ W1 hJ1 (by have := (Tm.mk k n' s ks).size_pos; omega)
    simp only [Part.encs] at hy
    subst hW1
    refine callsIn_of_wp Try.func76 rfl hf ?_ hro
    simp only [Try.ntmps76, List.size_toArray, List.length_cons, List.length_nil, Nat.reduceAdd, Nat.reduceSub, Array.replicate_succ, Array.replicate_zero, List.push_toArray, List.append_toArray, List.nil_append, List.cons_append]
    have hbox := World.alloc_heap_new W (.cells #[.int .i64 k, .int .i64 n', .string s, .slice a ks.length cap] 24)
    obtain ⟨W1, hW1⟩ : ∃ W1, W1 = W.alloc (.cells #[.int .i64 k, .int .i64 n', .string s, .slice a ks.length cap] 24) := ⟨_, rfl⟩
    have hk1 : Keeps n₀ W W1 := by rw [hW1]; exact (Keeps.refl _ _).alloc hn₀ _
    have hR' := hR.mono (R' := fun e W2 => (e = .returned (.bool true) ∧ W2.cell? ⟨W.heap.size, 3, none⟩ = some (.slice a ks.length cap) ∧ J (pre ++ [⟨(d, _, _), ht, by omega, hd1⟩]) W2 ∧ Keeps n₀ W W2) ∨ (e = .returned (.bool false) ∧ Jx (pre ++ [⟨(d, _, _), ht, by omega, hd1⟩]) W2))
      (fun e W2 h => h.elim (fun ⟨he, hj, hb2⟩ => .inl ⟨he, by simp [World.cell?, hb2.terms _ _ _ hbox], hj, hk1.trans (by rw [hW1]; exact hb2)⟩) .inr)
    clear hR hbox hk1 hW1 W1
    gi_wp2_with ((try refine ⟨hdd _, ?_⟩); refine hR'.mono ?_; clear hR'; rintro e W2 (⟨rfl, hc2, hJ2, hk2⟩ | ⟨rfl, hx2⟩))
    · gi_loopw [17] (fun i wr => ∃ (c : Nat) (L : List (Part n₀ w0)), i = .int .i64 c ∧ c ≤ ks.length ∧ L.map Part.key = (d, .mk k n' s ks) :: Tm.partss (d + 1) (ks.take c) ∧ J (pre ++ L) wr ∧ Keeps n₀ W wr)
        (fun i _ => ks.length - (intOf i).toNat)
      case atStart => exact ⟨0, [⟨(d, _, _), ht, by omega, hd1⟩], rfl, Nat.zero_le _, by simp [Part.key, Tm.partss_nil], hJ2, hk2⟩
      case round =>
        obtain ⟨c, L, rfl, hc1, hL, hJr, hkr⟩ := hrel
        clear hJ2 hk2 hc2
        by_cases hlt : c < ks.length
        · obtain ⟨b, o, k1, n1, s1, a1, l1, c1, T1, rfl, hbn, e0, e1, e2, e3, hT1, ht1⟩ := ht.kid c hlt
          have hbr := hb.trans hkr.below
          have hnr : n₀ ≤ wr.heap.size := Nat.le_trans hn₀ hkr.below.size
          have q0 := (hbr.cell (p := ⟨b, o + c * 4, none⟩) hbn).trans e0
          have q1 := (hbr.cell (p := ⟨b, o + c * 4 + 1, none⟩) hbn).trans e1
          have q2 := (hbr.cell (p := ⟨b, o + c * 4 + 2, none⟩) hbn).trans e2
          have q3 := (hbr.cell (p := ⟨b, o + c * 4 + 3, none⟩) hbn).trans e3
          have hdi : (d : Int) ≤ 4611686018427387904 := by omega
          have hsz : ks.length ≤ 4611686018427387904 := by have := Tm.length_le_sizes ks; rw [Tm.size_mk] at hd0; omega
          have hLl : L.length = 1 + Tm.sizes (ks.take c) := by
            have := congrArg List.length hL
            rw [List.length_map, List.length_cons, Tm.partss_length (fun t _ d => t.parts_length d)] at this
            omega
          have hts := Tm.take_succ_sizes ks c T1 hT1
          have htl := Tm.sizes_take_le ks (c + 1)
          have hih : ∀ W3, Keeps n₀ wr W3 → J (pre ++ L) W3 → CallsIn F (n - 1) Try.prog 76 #[.agg #[.int .i64 k1, .int .i64 n1, .string s1, .slice a1 l1 c1], .int .i64 ((d : Int) + 1), .func (.yield l) #[] #[]] W3 fun e W' =>
              (e = .returned (.bool true) ∧ ∃ L', L'.map Part.key = (d, .mk k n' s ks) :: Tm.partss (d + 1) (ks.take (c + 1)) ∧ J (pre ++ L') W' ∧ Keeps n₀ W W') ∨ (e = .returned (.bool false) ∧ ∃ q, q.map Part.key <+: (Tm.mk k n' s ks).parts d ∧ Jx (pre ++ q) W') := fun W3 h3 hJ3 => by
            have := ih T1 (List.mem_of_getElem? hT1) _ (d + 1) (n - 1) (pre ++ L) W3 ht1 (hbr.trans h3.below) (Nat.le_trans hnr h3.below.size) hJ3 (by rw [Tm.size_mk] at hd0; omega) (by rw [Tm.size_mk] at hd1; omega) (by rw [Tm.size_mk] at hN; rw [List.length_append]; omega)
            refine this.mono ?_
            rintro e W' (⟨he, ⟨L', hL', hJ'⟩, hk'⟩ | ⟨he, q, hq, hx⟩)
            · exact .inl ⟨he, L ++ L', by rw [List.map_append, hL, hL', Tm.take_succ_partss _ _ _ _ hT1]; rfl, by rw [← List.append_assoc]; exact hJ', hkr.trans (h3.trans hk')⟩
            · refine .inr ⟨he, L ++ q, ?_, by rw [← List.append_assoc]; exact hx⟩
              rw [List.map_append, hL, Tm.parts_mk]
              obtain ⟨r, hr⟩ := hq
              have h2 := Tm.take_succ_partss (d + 1) ks c T1 hT1
              have h3 := Tm.partss_append (d + 1) (ks.take (c + 1)) (ks.drop (c + 1))
              rw [List.take_append_drop, h2, ← hr] at h3
              exact ⟨r ++ Tm.partss (d + 1) (ks.drop (c + 1)), by rw [h3]; simp⟩
          have HH := Lib.hid (And.intro hL (And.intro hLl (And.intro hts (And.intro htl (And.intro hdd (And.intro hY ih))))))
          clear hL hLl hts htl ih hY e0 e1 e2 e3 hJ0 hJ1 hy ht ht'
          gi_wp2_with ((try refine ⟨HH.out.2.2.2.2.1 _, ?_⟩); gi_at_call 76; refine (hih _ ((Keeps.refl _ _).alloc hnr _) (abides_alloc hJ hJr _)).mono ?_; rintro e W3 (⟨rfl, L3, hL3, hJ3, hk3⟩ | ⟨rfl, q, hq, hx3⟩))
          · go_roundw
            case rel => exact ⟨c + 1, L3, by simp, hlt, hL3, hJ3, hk3⟩
            case measure => simp [intOf]; omega
          · go_ret
            exact .inr ⟨rfl, q, hq, hx3⟩
        · have hce : c = ks.length := by omega
          subst hce
          gi_wp2
          go_ret
          exact .inl ⟨rfl, ⟨L, by rw [hL, List.take_length, Tm.parts_mk], hJr⟩, hkr⟩
    · go_ret
      exact .inr ⟨rfl, _, by rw [Tm.parts_mk]; exact ⟨Tm.partss (d + 1) ks, by simp [Part.key]⟩, hx2⟩

set_option maxRecDepth 100000 in
set_option maxHeartbeats 1000000 in
theorem parts1_in (F : Fence) (hd : F.depth = none) (n : Nat) (h1 : F.fn 75) (hf : F.fn 76) (hro : F.round = none) (n₀ : Nat) (w0 : World) (l B Bt : Nat) (T : Tm) (v : Value) (J Jx : List (Part n₀ w0) → World → Prop) (hJ : AbidesFrom B J)
    (hY : ∀ pre (x : Part n₀ w0) W, J pre W → pre.length < T.size → YieldAt F (n - 1) Try.prog l x.encs W fun e W' =>
      (e = .returned (.bool true) ∧ J (pre ++ [x]) W' ∧ Keeps n₀ W W') ∨ (e = .returned (.bool false) ∧ Jx (pre ++ [x]) W'))
    (W : World) (ht : IsTm n₀ w0 v T) (hb : Below n₀ w0 W) (hn₀ : n₀ ≤ W.heap.size) (hs : T.size ≤ 4000000000000000000) (hbox : W.heap[Bt]? = some (.cells v.cells 24 (0, 0))) (h0 : J [] W) :
    CallsIn F n Try.prog 75 #[.func (.yield l) #[] #[], .pointer (some ⟨Bt, 0, none⟩)] W fun e W' => (∃ v, e = .returned v) ∧
      ((∃ ys, ys.map Part.key = T.parts 1 ∧ J ys W') ∨ (∃ pre, pre.map Part.key <+: T.parts 1 ∧ Jx pre W')) := by
  have hdd : ∀ k : Nat, (F.depth.isSome = true → 1 ≤ k) := fun k h => by rw [hd] at h; cases h
  have hp := walk_in F hd hf hro n₀ w0 l T.size B J Jx hJ (fun m pre x W hj hl => YieldAt.anyDeep hd m (hY pre x W hj hl)) T v 1 (n - 1) [] W ht hb hn₀ h0 (by omega) hs (by simp)
  obtain ⟨k_, n_, s_, a, len, cap, ks_, rfl, rfl, rfl, hk, hn, hs, hc, hm, ha⟩ := ht.form
  have c0 : W.cell? ⟨Bt, 0, none⟩ = some (.int .i64 k_) := by simp [World.cell?, hbox, Value.cells]
  have c1 : W.cell? ⟨Bt, 1, none⟩ = some (.int .i64 n_) := by simp [World.cell?, hbox, Value.cells]
  have c2 : W.cell? ⟨Bt, 2, none⟩ = some (.string s_) := by simp [World.cell?, hbox, Value.cells]
  have c3 : W.cell? ⟨Bt, 3, none⟩ = some (.slice a ks_.length cap) := by simp [World.cell?, hbox, Value.cells]
  clear hbox hY ht
  refine callsIn_of_wp Try.func75 rfl h1 ?_ hro
  simp only [Try.ntmps75, List.size_toArray, List.length_cons, List.length_nil, Nat.reduceAdd, Nat.reduceSub, Array.replicate_succ, Array.replicate_zero, List.push_toArray, List.append_toArray, List.nil_append, List.cons_append]
  gi_wp2_with ((try refine ⟨hdd _, ?_⟩); gi_at_call 76; refine hp.mono ?_; clear hp; rintro e W1 (⟨rfl, ⟨L, hL, hJ1⟩, _⟩ | ⟨rfl, q, hq, hx⟩))
  · go_end0
    exact ⟨⟨_, rfl⟩, .inl ⟨_, hL, by simpa using hJ1⟩⟩
  · go_end0
    exact ⟨⟨_, rfl⟩, .inr ⟨q, hq, by simpa using hx⟩⟩

set_option maxHeartbeats 1000000 in
theorem parts_in (F : Fence) (n : Nat) (h : F.fn 64) (hro : F.round = none) (c0 c1 c2 c3 : Value) (w : World) :
    CallsIn F n Try.prog 64 #[.agg #[c0, c1, c2, c3]] w fun e w' => e = .returned (.func (.func 75) #[] #[.pointer (some ⟨w.heap.size, 0, none⟩)]) ∧ w' = w.alloc (.cells #[c0, c1, c2, c3] 24) := by
  refine callsIn_of_wp Try.func64 rfl h ?_ hro
  simp only [Try.ntmps64, List.size_toArray, List.length_cons, List.length_nil, Nat.reduceAdd, Nat.reduceSub, Array.replicate_succ, Array.replicate_zero, List.push_toArray, List.append_toArray, List.nil_append, List.cons_append]
  gi_wp2
  go_ret
  exact ⟨rfl, rfl⟩

/-- What term.parts hands back: all parts of the term, in their order; or the first ones of them. -/
theorem parts_stops (F : Fence) (hd : F.depth = none) (n : Nat) (h1 : F.fn 75) (hf : F.fn 76) (hro : F.round = none) (Bt n₀ : Nat) (T : Tm) (v : Value) (w w0 : World) (hn₀ : n₀ ≤ w.heap.size) (hb : Below n₀ w0 w)
    (hbox : w.heap[Bt]? = some (.cells v.cells 24 (0, 0))) (ht : IsTm n₀ w0 v T) (hs : T.size ≤ 4000000000000000000) :
    SeqStopsK F n Try.prog 75 #[.pointer (some ⟨Bt, 0, none⟩)] (fun x : Part n₀ w0 => #[Value.int .i64 (x.1.1 : Int), x.1.2.1]) (Keeps n₀) (fun ys => ys.map Part.key = T.parts 1) (fun pre => pre.map Part.key <+: T.parts 1) T.size w := fun l J Jx W hW hJ _ hY h0 =>
  parts1_in F hd n h1 hf hro n₀ w0 l W.heap.size Bt T v J Jx hJ hY W ht (hb.trans (hW.mono hn₀)) (Nat.le_trans hn₀ hW.size) hs ((hW.block Bt (Array.getElem?_eq_some_iff.1 hbox).1).trans hbox) h0

end Go.Proofs.Ytbdkakpbhijilaa
