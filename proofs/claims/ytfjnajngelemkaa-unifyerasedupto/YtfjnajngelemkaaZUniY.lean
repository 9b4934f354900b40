/-
  A store that lies behind another one, whose values are bound, and turns: the other one stays.
-/
import Derived.Test.YtfjnajngelemkaaZUniLn3
namespace Go.Proofs.Ytfjnajngelemkaa
open Go.RowKit Go.Shelf
open Classical
set_option linter.unusedVariables false
set_option linter.unusedSimpArgs false

/-- A row whose numbers are all 0. -/
def ZeroRow (W : World) (V : Value) : Prop := ∀ k, V.ownBlock = some k → ∀ j x, W.cell? ⟨k, j, none⟩ = some (.int .i64 x) → x = 0
theorem ZeroRow.same {W W' : World} {V : Value} (h : ZeroRow W V) (hk : ∀ k, V.ownBlock = some k → W'.heap[k]? = W.heap[k]?) : ZeroRow W' V := fun k e j x hc => by
  refine h k e j x ?_
  simp only [World.cell?, hk k e] at hc ⊢
  exact hc
theorem zeros_mem (n : Nat) : ∀ u ∈ Builtin.zeroCells (Value.agg #[.bool false, .int .i64 0, .int .i64 0, .string (ByteArray.mk #[]), .slice none 0 0]).cells n, ∀ x, u = .int .i64 x → x = 0 := by
  intro u hu x e
  have hu' : u ∈ flat5 (List.replicate n z5) := by rw [← zeros5]; exact Array.mem_toList_iff.2 hu
  subst e
  rw [← zeros5] at hu'
  simp only [Builtin.zeroCells, Array.toList_map, List.mem_map] at hu'
  obtain ⟨j, _, hj⟩ := hu'
  have hsz : (Value.agg #[.bool false, .int .i64 0, .int .i64 0, .string (ByteArray.mk #[]), .slice none 0 0]).cells.size = 5 := rfl
  rw [hsz] at hj
  have h5 : j % 5 = 0 ∨ j % 5 = 1 ∨ j % 5 = 2 ∨ j % 5 = 3 ∨ j % 5 = 4 := by omega
  rcases h5 with e | e | e | e | e <;> rw [e] at hj
  · cases (show Value.bool false = .int .i64 x from hj)
  · cases (show Value.int .i64 0 = .int .i64 x from hj); rfl
  · cases (show Value.int .i64 0 = .int .i64 x from hj); rfl
  · cases (show Value.string (ByteArray.mk #[]) = .int .i64 x from hj)
  · cases (show Value.slice none 0 0 = .int .i64 x from hj)
theorem zeros0 {a b : Array Value} (ha : ∀ u ∈ a, ∀ x, u = .int .i64 x → x = 0) (hb : ∀ u ∈ b, ∀ x, u = .int .i64 x → x = 0) : ∀ u ∈ a ++ b, ∀ x, u = .int .i64 x → x = 0 := fun u hu => by
  rcases Array.mem_append.1 hu with hu | hu
  · exact ha u hu
  · exact hb u hu
theorem zero_block {w : World} {a : Array Value} {t : TypeId} {n c : Nat} (h : ∀ u ∈ a, ∀ x, u = .int .i64 x → x = 0) : ZeroRow (w.drew.alloc (.cells a t)) (.slice (some ⟨w.heap.size, 0, none⟩) n c) := by
  intro k hk j x hc
  have hk : some w.heap.size = some k := hk
  cases hk
  have hx : (w.drew.alloc (.cells a t)).cell? ⟨w.heap.size, j, none⟩ = a[j]? := World.cell?_alloc_new w.drew a t j
  rw [hx] at hc
  exact h _ (Array.mem_of_getElem? hc) x rfl

set_option maxRecDepth 100000 in
set_option maxHeartbeats 1000000 in
theorem fresh0_at {n₀ : Nat} {w : World} {b : Nat} {V L : Value} {σ : St} (h : StAt (Oth w b V L) n₀ w b V L σ) (hn₀ : n₀ ≤ w.heap.size) (n : Nat) (hn : σ.vs.length + n ≤ 4096) (hV0 : V = .slice none 0 0) (hnp : 0 < n) :
    Calls Try.prog 38 #[.pointer (some ⟨b, 0, none⟩), .int .i64 (n : Int)] w fun e w' => e = .returned (.tuple #[.int .i64 (σ.vs.length : Int), .int .i64 0]) ∧ ∃ V', StAt (Oth w' b V' L) n₀ w' b V' L (σ.fresh n) ∧ Mut w b V L w' V' L ∧ ZeroRow w' V' := by
  obtain ⟨c0, c1⟩ := two_cells h.box
  obtain ⟨xs, hr, hok⟩ := h.rV
  obtain ⟨i0, hi, hz0, hz1, hz2⟩ := info_parts infoVar
  have hl := hok.len
  obtain ⟨v', w1, hrun, ho', hg, hat⟩ := run_append_zeros_own (P := Try.prog) w n₀ 87 3 87 110 i0 _ .i64 5 64 Try.underlying87 Try.underlying3 hi hz0 hz1 hz2 rfl (by decide)
    (by intro u hu; simp [Value.cells] at hu; rcases hu with rfl | rfl | rfl | rfl | rfl <;> rfl) V xs.length (flat5 xs) hr n (by rw [hl]; unfold maxLen; omega) (by rw [hl]; omega) hn₀
  rw [zeros5, ← flat5_append] at ho'
  have hlt := h.lt
  have hVb := hr.ne_box h.box
  have hb1 : w1.heap[b]? = some (.cells #[V, L] 89 (0, 0)) := (hg.block b hlt (fun e => hVb e.symm)).trans h.box
  obtain ⟨d0, d1⟩ := two_cells hb1
  have df : ∀ j, w1.frozen? ⟨b, j, none⟩ = false := fun j => by simp [World.frozen?, hb1]
  have hw : IntKind.i64.wrap (4096 - (σ.vs.length : Int)) = 4096 - (σ.vs.length : Int) := by rw [IntKind.wrap_i64]; omega
  have hnn : ¬ ((n : Int) > 4096 - (σ.vs.length : Int)) := by omega
  have hnd : decide ((n : Int) > 4096 - (σ.vs.length : Int)) = false := decide_eq_false hnn
  have hlk : σ.vs.length ≤ 4096 := by omega
  have hz0' : ZeroRow w1 v' := by
    have hr0 := Lib.run_append_nil_zeros (P := Try.prog) w 87 3 87 110 i0 _ .i64 .i64 Try.underlying87 Try.underlying3 hi hz0 n hnp (by omega) (by omega) (by rw [hz2]; omega)
    have hr1 := hrun
    rw [hV0] at hr1
    rw [hr1] at hr0
    injection hr0 with e1 e2
    subst e1 e2
    exact zero_block (zeros0 (zeros_mem n) (zeros_mem _))
  have post : Hid (∃ w2, w2 = w1.setCell ⟨b, 0, none⟩ v' ∧ StAt (Oth w2 b v' L) n₀ w2 b v' L (σ.fresh n) ∧ Mut w b V L w2 v' L ∧ ZeroRow w2 v') := by
    refine ⟨_, rfl, ?_⟩
    have hother : ∀ k, k ≠ b → (w1.setCell ⟨b, 0, none⟩ v').heap[k]? = w1.heap[k]? := fun k hk => Below.heap_setCell w1 ⟨b, 0, none⟩ v' k hk
    have hbox : (w1.setCell ⟨b, 0, none⟩ v').heap[b]? = some (.cells #[v', L] 89 (0, 0)) := set_block (o := 0) hb1 v'
    have hsz : (w1.setCell ⟨b, 0, none⟩ v').heap.size = w1.heap.size := by simp
    have hr1 : RowV w1 n₀ v' (xs ++ List.replicate n z5) := by
      unfold RowV; rw [List.length_append, List.length_replicate]; exact ho'
    have hv'b : v'.ownBlock ≠ some b := hr1.ne_box hb1
    have hr2 : RowV (w1.setCell ⟨b, 0, none⟩ v') n₀ v' (xs ++ List.replicate n z5) := hr1.later fun k hk => hother k (fun e => hv'b (by rw [hk, e]))
    have hLk : ∀ k, L.ownBlock = some k → w1.heap[k]? = w.heap[k]? := fun k hk => hg.block k (h.rL.lt k hk).2 (fun e => rows_ne hr h.rL k e.symm hk)
    have hLb := h.rL.ne_box h.box
    have hL2 : RowL (w1.setCell ⟨b, 0, none⟩ v') n₀ L σ.tr := h.rL.later fun k hk => (hother k (fun e => hLb (by rw [hk, e]))).trans (hLk k hk)
    have keep : ∀ k, Oth w b V L k → (w1.setCell ⟨b, 0, none⟩ v').heap[k]? = w.heap[k]? ∧ Oth (w1.setCell ⟨b, 0, none⟩ v') b v' L k := fun k hk => by
      refine ⟨(hother k hk.2.1).trans (hg.block k hk.1 (fun e => hk.2.2.1 e.symm)), by rw [hsz]; exact Nat.lt_of_lt_of_le hk.1 hg.size, hk.2.1, fun e => ?_, hk.2.2.2⟩
      rcases hat with hat | hat
      · exact hk.2.2.1 (hat ▸ e)
      · rw [hat] at e; injection e with e; have := hk.1; omega
    refine ⟨⟨hbox, h.lo, fun k hk => hk, ⟨_, hr2, (hok.fresh n).carry (fun k hk => (keep k hk).1) fun k hk => (keep k hk).2⟩, hL2, h.ok.fresh n hn⟩, ⟨hg.os, hg.tape, hg.output, by rw [hsz]; exact hg.size, keep⟩, hz0'.same fun k hk => hother k (fun e => hv'b (by rw [hk, e]))⟩
  have hv'f : ∃ a' l' c', v' = .slice a' l' c' := by
    obtain ⟨_, ⟨h2, _⟩ | ⟨g, cap, cur, e, _⟩⟩ := ho'
    · exact ⟨none, 0, 0, h2⟩
    · exact ⟨_, _, _, e⟩
  obtain ⟨a', l', c', rfl⟩ := hv'f
  obtain ⟨a, c, rfl⟩ := hr.form
  rw [hl] at c0 hrun d0
  clear h hr hok ho' hg hat hb1 hVb hl hz0' hV0 hnp
  generalize σ.vs.length = m at *
  go_enter Try.func38, Try.ntmps38
  go_wp2_with (at_builtin; refine Lib.wpList_append_run _ rfl _ _ _ _ rfl _ _ rfl rfl _ _ hrun ?_)
  obtain ⟨w2, hw2, hS, hM, hZ⟩ := post.out
  rw [← hw2]
  refine bodyPost_ret (v := .tuple #[.int .i64 (m : Int), .int .i64 0]) (by simp [results, Try.f38, go_sem]) rfl ?_
  exact ⟨rfl, _, hS, hM, hZ⟩

set_option maxRecDepth 100000 in
/-- torcherelaw11.vars, and what its row holds. -/
theorem vars0_at (w : World) (n₀ : Nat) (hn : n₀ ≤ w.heap.size) : Calls Try.prog 15 #[] w fun e w' => e = .returned (.pointer (some ⟨w.heap.size, 0, none⟩)) ∧ ∃ V, StAt (Oth w' w.heap.size V (.slice none 0 0)) n₀ w' w.heap.size V (.slice none 0 0) σ12 ∧ Below w.heap.size w w' ∧ ZeroRow w' V := by
  have hnew := new_at10 w w.heap.size (Nat.le_refl _)
  go_enter Try.func15, Try.ntmps15
  go_wp2_with fail
  refine hnew.mono ?_
  rintro e w1 ⟨rfl, hB1, hlt1, hS1⟩
  have H1 := Lib.hid (And.intro hB1 hS1)
  clear hB1 hS1 hlt1 hnew
  go_wp2_with fail
  refine (fresh0_at H1.out.2 H1.out.1.size 12 (by decide) rfl (by decide)).mono ?_
  rintro e w2 ⟨rfl, V2, hS2, hM2, hZ2⟩
  have H2 := Lib.hid (And.intro hS2 (And.intro (H1.out.1.trans (Mut.below H1.out.2 hM2 H1.out.1.size)) hZ2))
  clear hS2 hM2 hZ2 H1
  go_wp2_with fail
  go_ret
  exact ⟨rfl, V2, H2.out.1.base hn, H2.out.2.1, H2.out.2.2⟩

theorem gv_kind0 {N : Nat} {T : Tm} (h : GV N T) : T.kind ≠ 0 := by
  cases h with
  | var n => exact (by decide : (1 : Int) ≠ 0)
  | int n => exact (by decide : (2 : Int) ≠ 0)
  | fn s ks h => exact (by decide : (3 : Int) ≠ 0)
  | box l t _ _ _ => exact (by decide : (4 : Int) ≠ 0)
/-- Where all numbers are 0 no good term lies. -/
theorem tm_avoid0 {N : Nat} {p : Nat → Prop} {W : World} {v : Value} {T : Tm} {r : Nat} (hno : ∀ j x, W.cell? ⟨r, j, none⟩ = some (.int .i64 x) → x = 0) (h : TmIn p W v T) : GV N T → TmIn (fun c => p c ∧ c ≠ r) W v T := by
  induction h with
  | @mk k n s a cap ks hk hn hs hc hm ha vs K N' S hv hkid ih =>
    intro hT
    have hks : ∀ t ∈ ks, GV N t := by
      cases hT with
      | var n => intro t ht; cases ht
      | int n => intro t ht; cases ht
      | fn s ks h => exact h
      | box l t _ h _ => intro u hu; rw [List.mem_singleton.1 hu]; exact h
    refine .mk hk hn hs hc hm ha vs K N' S (fun i hi => ?_) fun i hi => ih i hi (hks _ (List.getElem_mem hi))
    obtain ⟨⟨b, o, e, hb, c0, c1, c2, c3⟩⟩ := hv i hi
    refine ⟨⟨b, o, e, ⟨hb, fun e' => ?_⟩, c0, c1, c2, c3⟩⟩
    subst e'
    have h0 := hno _ _ c0
    have hg := gv_kind0 (hks _ (List.getElem_mem hi))
    obtain ⟨k', n', s', a', l', c', ks', e1, e2, _⟩ := (hkid i hi).form
    rw [e2] at hg
    injection e1 with e1
    injection e1 with e1
    injection e1 with e1 _
    injection e1 with _ e1
    exact hg (e1.symm.trans h0)
/-- A store stays, while another one turns whose row holds zeros alone, and whose trail is empty. -/
theorem LW.over {w2 W W' : World} {b bt lb : Nat} {V L Vt Vt' Lt' : Value} {σ τ : St} (h : LW w2 W b V L lb σ) (hg : σ.Gv 9) (ht : StAt (Oth W bt Vt (.slice none 0 0)) w2.heap.size W bt Vt (.slice none 0 0) τ) (hz : ZeroRow W Vt) (ha : Apart W bt Vt (.slice none 0 0) b V L) (hlo : Oth W bt Vt (.slice none 0 0) lb) (hm : Mut W bt Vt (.slice none 0 0) W' Vt' Lt') : LW w2 W' b V L lb σ := by
  obtain ⟨xs, h1, h2⟩ := h.st.rV
  obtain ⟨a1, c1, e1⟩ : ∃ a c, Vt = .slice a τ.vs.length c := by
    obtain ⟨ys, r1, r2⟩ := ht.rV
    obtain ⟨a, c, e⟩ := r1.form
    exact ⟨a, c, by rw [← r2.len]; exact e⟩
  have hnb : ∀ j x, W.cell? ⟨bt, j, none⟩ ≠ some (.int .i64 x) := by
    have hbox := ht.box
    rw [e1] at hbox
    exact no_ints hbox
  have av : ∀ {v : Value} {T : Tm}, GV 9 T → TmIn (Oth W b V L) W v T → TmIn (fun c => Oth W b V L c ∧ Oth W bt Vt (.slice none 0 0) c) W v T := fun {v T} hT hv => by
    have hb := tm_avoid hnb hv
    by_cases hk : ∃ r, Vt.ownBlock = some r
    · obtain ⟨r, hr⟩ := hk
      exact (tm_avoid0 (hz r hr) hb hT).carry (fun _ _ => rfl) fun c hc => ⟨hc.1.1, hc.1.1.1, hc.1.2, fun e => hc.2 (by rw [hr] at e; cases e; rfl), fun e => by cases e⟩
    · exact hb.carry (fun _ _ => rfl) fun c hc => ⟨hc.1, hc.1.1, hc.2, fun e => hk ⟨_, e⟩, fun e => by cases e⟩
  have up : ∀ c, Oth W b V L c → Oth W' b V L c := fun c hc => ⟨Nat.lt_of_lt_of_le hc.1 hm.size, hc.2⟩
  refine ⟨⟨(hm.keep b ha.box).1.trans h.st.box, h.st.lo, fun k hk => hk, ⟨xs, h1.later fun k hk => (hm.keep k (ha.rV k hk)).1, ⟨h2.len, fun i x o hx ho => ⟨(h2.at_ i x o hx ho).1, fun U hU => ?_⟩⟩⟩, h.st.rL.later fun k hk => (hm.keep k (ha.rL k hk)).1, h.st.ok⟩, h.bl.trans (Mut.below ht hm h.bl.size), h.ch.same (hm.keep lb hlo).1 hm.size, up lb h.lo⟩
  subst hU
  have hx' := (h2.at_ i x (some U) hx ho).2 U rfl
  exact (av (hg i U ho) hx').carry (fun c hc => (hm.keep c hc.2).1) fun c hc => up c hc.1
end Go.Proofs.Ytfjnajngelemkaa
