/-
  copyt.Norm, Variant.
-/
import Derived.Test.YtlnggaepmclbkaaZCopA
import Derived.Test.YtlnggaepmclbkaaZStoSn2
import Derived.Test.YtlnggaepmclbkaaZStoQn4
import Derived.Deep.RegionHeld3
namespace Go.Proofs.Ytlnggaepmclbkaa
open Go.RowKit Go.Shelf
set_option linter.unusedVariables false
set_option linter.unusedSimpArgs false

/-- A new term and a number. -/
def NewTm2 (w : World) (T : Tm) (x : Int) (e : Ending) (w' : World) : Prop :=
  ∃ k n s a l c, e = .returned (.tuple #[.agg #[.int .i64 k, .int .i64 n, .string s, .slice a l c], .int .i64 x]) ∧ TmIn (fun b => w.heap.size ≤ b ∧ b < w'.heap.size) w' (.agg #[.int .i64 k, .int .i64 n, .string s, .slice a l c]) T ∧ Below w.heap.size w w'

theorem IntsAt.grownM {w w' : World} {v : Value} {l : List Int} {m : Nat} (h : IntsAt w v l) (hm : ∃ es ck, w.heap[m]? = some (.map es ck)) (hg : w.grownBy w' (some m)) : IntsAt w' v l := by
  obtain ⟨a, cap, e, h1, h2, h3, h4⟩ := h
  refine ⟨a, cap, e, h1, h2, h3, fun i hi => ?_⟩
  obtain ⟨b, o, e2, hb, hc⟩ := h4 i hi
  have hne : some b ≠ some m := fun e3 => by
    obtain rfl : b = m := by injection e3
    obtain ⟨es, ck, hm⟩ := hm
    simp [World.cell?, hm] at hc
  exact ⟨b, o, e2, Nat.lt_of_lt_of_le hb hg.size, hg.cell hc hne⟩

theorem idx_ok {l : List Int} (hl : l.length ≤ 1000000000000) (x : Int) : i64ok (idx l x) := by
  have h := idx_range l x
  unfold i64ok
  by_cases e : l = []
  · rw [h.2.2 e]; omega
  · have := h.2.1 e; omega

set_option maxRecDepth 100000 in
set_option maxHeartbeats 8000000 in
theorem cnorm_at (v : Value) (T : Tm) (w : World) (hv : Has w v T) (hs : T.size ≤ 1000000000) : Calls Try.prog 11 #[v] w (NewTm2 w T.norm (T.vars.length : Int)) := by
  obtain ⟨k, n, s, a, len, cap, ks, rfl, e, -⟩ := hv.form
  have hVl := vars_len_le T
  have hVok := vars_ok hv
  have hVn := vars_nodup T
  have hmm := @run_makeMap Try.prog
  have hz := zeroTerm
  obtain ⟨w2, hw2⟩ : ∃ w2, w2 = ((w.alloc (.cells #[.int .i64 k, .int .i64 n, .string s, .slice a len cap] 24)).alloc (.cells #[.int .i64 0, .int .i64 0, .string (ByteArray.mk #[]), .slice none 0 0] 24)).alloc (.map #[] 0) := ⟨_, rfl⟩
  have hB2 : Below w.heap.size w w2 := by rw [hw2]; exact (((Below.refl _ w).alloc (Nat.le_refl _) _).alloc (by simp) _).alloc (by simp; omega) _
  have hsz2 : w2.heap.size = w.heap.size + 1 + 1 + 1 := by rw [hw2]; simp
  have hx1 : w2.heap[w.heap.size]? = some (.cells #[.int .i64 k, .int .i64 n, .string s, .slice a len cap] 24 (0, 0)) := by rw [hw2]; exact ((Below.heap_alloc _ _ _ (by simp; omega)).trans (Below.heap_alloc _ _ _ (by simp))).trans (World.alloc_heap_new _ _)
  have hx2 : w2.heap[w.heap.size + 1]? = some (.cells #[.int .i64 0, .int .i64 0, .string (ByteArray.mk #[]), .slice none 0 0] 24 (0, 0)) := by rw [hw2]; refine (Below.heap_alloc _ _ _ (by simp)).trans ?_; simpa using World.alloc_heap_new (w.alloc (.cells #[.int .i64 k, .int .i64 n, .string s, .slice a len cap] 24)) (.cells #[.int .i64 0, .int .i64 0, .string (ByteArray.mk #[]), .slice none 0 0] 24)
  have hM2 : MapAt w2 (w.heap.size + 1 + 1) 0 (.map []) := by
    have h := World.ownsMap_made ((w.alloc (.cells #[.int .i64 k, .int .i64 n, .string s, .slice a len cap] 24)).alloc (.cells #[.int .i64 0, .int .i64 0, .string (ByteArray.mk #[]), .slice none 0 0] 24)) Try.prog 2 (plainElem (H := Unit) Try.prog 2)
    simp only [World.size_alloc] at h
    rw [hw2]; exact h
  have hT2 := Has.below hv hB2
  have hvars := vars_at _ T w2 hT2 (by omega)
  have HH := Lib.hid (And.intro hB2 (And.intro hsz2 (And.intro hx1 (And.intro hx2 (And.intro hM2 hT2)))))
  have HW := Lib.hid hw2
  obtain ⟨t0, t1, t2, t3⟩ := tbox_cells hx1
  clear hB2 hsz2 hx2 hM2 hT2 hw2 e hx1
  go_enter Try.func11, Try.ntmps11
  go_wp2_with (rw [← HW.out]; go_at_call 15; (with_reducible refine hvars.mono ?_); clear hvars; rintro e w3 ⟨r, rfl, ⟨ai, ci, rfl, h1, h2, h3, h4⟩, hb3⟩)
  have hI3 : IntsAt w3 (.slice ai T.vars.length ci) T.vars := ⟨ai, ci, rfl, h1, h2, h3, h4⟩
  have HI := Lib.hid hI3
  have H3 := Lib.hid hb3
  clear h1 h2 h3 h4 hb3 hI3
  go_loopw [11] (fun i wr => ∃ c : Nat, i = .int .i64 c ∧ c ≤ T.vars.length ∧ ∃ D, MapAt wr (w.heap.size + 1 + 1) c D ∧ IdxMap D (T.vars.take c) ∧ w3.grownBy wr (some (w.heap.size + 1 + 1))) (fun i _ => T.vars.length - (intOf i).toNat)
  case atStart => exact ⟨0, rfl, Nat.zero_le _, _, HH.out.2.2.2.2.1.below H3.out, IdxMap.nil, World.grownBy.refl _ _⟩
  case round =>
    obtain ⟨c, rfl, hcl, D, hM, hD, hg⟩ := hrel
    have hM3 : MapAt w3 (w.heap.size + 1 + 1) 0 (.map []) := HH.out.2.2.2.2.1.below H3.out
    have hB3 : Below w.heap.size w w3 := HH.out.1.trans (H3.out.mono HH.out.1.size)
    have hBr : Below w.heap.size w wr := hB3.grown hg hB3.size (fun k' e => by injection e with e; omega)
    have hIr : IntsAt wr (.slice ai T.vars.length ci) T.vars := HI.out.grownM (map_obj hM3) hg
    by_cases hlt : c < T.vars.length
    · obtain ⟨ai', ci', e', -, -, -, h4⟩ := hIr
      obtain ⟨b, o, e2, hb, hc⟩ := h4 c hlt
      injection e' with e1 e3 e4
      subst e1 e4 e2
      have hx := hVok _ (List.getElem_mem hlt)
      have hkey := key64 hx
      have hnn : (Lit.int .i64 (c : Nat)).wf = true := WalkArith.wf_i64 (by omega)
      have htk : T.vars.take (c + 1) = T.vars.take c ++ [T.vars[c]] := by rw [List.take_add_one, List.getElem?_eq_getElem hlt]; rfl
      have hni : T.vars[c] ∉ T.vars.take c := by
        have h := (List.take_sublist (c + 1) T.vars).nodup hVn
        rw [htk] at h
        exact fun h2 => (List.nodup_append.1 h).2.2 _ h2 _ (by simp) rfl
      have hlc : (T.vars.take c).length = c := by rw [List.length_take]; omega
      have hsn := hD.snoc hni
      rw [hlc, ← htk] at hsn
      have HR := Lib.hid (And.intro hsn hg)
      clear hsn hg hBr hB3 hM3 hD htk hni hlc hVok hVn h4 hv
      generalize T.vars[c] = x at *
      go_wp2_with (at_mapUpdate; refine wpList_mapUpdate_own _ rfl _ _ _ 59 rfl 2 2 keyed64' Try.underlying59 _ (w.heap.size + 1 + 1) c _ rfl hM (by unfold maxLen; omega) _ _ _ rfl rfl hkey _ [] (plainElem_int Try.underlying2 hnn) ?_; intro W4 hown4 hg4)
      go_roundw
      case rel => exact ⟨c + 1, by simp, hlt, _, hown4, HR.out.1, HR.out.2.trans hg4⟩
      case measure => simp [intOf]; omega
    · have hce : c = T.vars.length := by omega
      subst hce
      rw [List.take_length] at hD
      have hne : ∀ b, b < w.heap.size + 1 + 1 → wr.heap[b]? = w2.heap[b]? := fun b hb =>
        (hg.block b (by have := H3.out.size; have := HH.out.2.1; omega) (fun e => by injection e with e; omega)).trans (H3.out.block b (by have := HH.out.2.1; omega))
      have hxr := (hne w.heap.size (by omega)).trans HH.out.2.2.1
      have hyr := (hne (w.heap.size + 1) (by omega)).trans HH.out.2.2.2.1
      obtain ⟨x0, x1, x2, x3⟩ := tbox_cells hxr
      have hren := renamed_at (idx T.vars) (idx_ok (by omega)) _ _ D hD.at' T _ wr (Has.below hv hBr) hM hs
      have HE := Lib.hid (And.intro hyr (And.intro hBr hM))
      have hsz := hD.size
      have hMb : ∀ w', Below wr.heap.size wr w' → MapAt w' (w.heap.size + 1 + 1) T.vars.length D := fun w' h => hM.below h
      have HL : w.heap.size + 1 < wr.heap.size := by have := hM.lt; omega
      clear hyr hBr hM hxr hne hIr hM3 hB3 hD hg hv hVn hVok
      go_wp2_with (first
        | (go_at_call 32; (with_reducible refine hren.mono ?_); clear hren; rintro e w4 ⟨r, rfl, hr, hb4⟩; obtain ⟨k4, n4, s4, a4, l4, c4, ks4, rfl, -⟩ := hr.form; have hM4 := hMb _ hb4; have y2 := (hb4.block _ HL).trans HE.out.1; obtain ⟨z0, z1, z2, z3⟩ := tbox_cells y2; have zf : ∀ j, w4.frozen? ⟨w.heap.size + 1, j, none⟩ = false := (fun j => by simp [World.frozen?, y2]); have HZ := Lib.hid (And.intro hr (And.intro hb4 y2)); clear hr hb4 y2)
        | (at_len; refine wpList_len_own _ rfl _ 59 rfl 2 2 Try.underlying59 _ (w.heap.size + 1 + 1) T.vars.length D rfl hM4 ?_; rw [hsz]))
      obtain ⟨hr, hb4, y2⟩ := HZ.out
      have hB4 := HE.out.2.1.trans (hb4.mono HE.out.2.1.size)
      obtain ⟨w6, hw6, hb6, hT6, hB6, hs6⟩ := boxed_new (q := fun b => w.heap.size ≤ b ∧ b < w4.heap.size) y2 hr (fun b hb => by have := hb.1; omega) (fun b hb => ⟨by have := hb.1; omega, hb.2⟩) hB4 (by omega)
      rw [← hw6]
      obtain ⟨f0, f1, f2, f3⟩ := tbox_cells hb6
      refine bodyPost_ret (v := .tuple #[.agg #[.int .i64 k4, .int .i64 n4, .string s4, .slice a4 l4 c4], .int .i64 (T.vars.length : Int)]) (by simp [results, Try.f11, go_sem, f0, f1, f2, f3]) rfl ?_
      exact ⟨_, _, _, _, _, _, rfl, by rw [hs6]; exact hT6, hB6⟩
end Go.Proofs.Ytlnggaepmclbkaa

namespace Go.Proofs.Ytlnggaepmclbkaa
open Go.RowKit Go.Shelf
set_option linter.unusedVariables false
set_option linter.unusedSimpArgs false

set_option maxRecDepth 100000 in
set_option maxHeartbeats 1000000 in
theorem fresh_p {p : Nat → Prop} {n₀ : Nat} {w : World} {b : Nat} {V L : Value} {σ : St} (h : StAt p n₀ w b V L σ) (hn₀ : n₀ ≤ w.heap.size) (n : Nat) (hn : σ.vs.length + n ≤ 4096) :
    Calls Try.prog 19 #[.pointer (some ⟨b, 0, none⟩), .int .i64 (n : Int)] w fun e w' => e = .returned (.tuple #[.int .i64 (σ.vs.length : Int), .int .i64 0]) ∧ ∃ V', StAt p n₀ w' b V' L (σ.fresh n) ∧ Mut w b V L w' V' L := by
  obtain ⟨c0, c1⟩ := two_cells h.box
  obtain ⟨xs, hr, hok⟩ := h.rV
  obtain ⟨i0, hi, hz0, hz1, hz2⟩ := info_parts infoVar
  have hl := hok.len
  obtain ⟨v', w1, hrun, ho', hg, hat⟩ := run_append_zeros_own (P := Try.prog) w n₀ 68 3 68 72 i0 _ .i64 5 64 Try.underlying68 Try.underlying3 hi hz0 hz1 hz2 rfl (by decide)
    (by intro u hu; simp [Value.cells] at hu; rcases hu with rfl | rfl | rfl | rfl | rfl <;> rfl) V xs.length (flat5 xs) hr n (by rw [hl]; unfold maxLen; omega) (by rw [hl]; omega) hn₀
  rw [zeros5, ← flat5_append] at ho'
  have hlt := h.lt
  have hVb := hr.ne_box h.box
  have hb1 : w1.heap[b]? = some (.cells #[V, L] 70 (0, 0)) := (hg.block b hlt (fun e => hVb e.symm)).trans h.box
  obtain ⟨d0, d1⟩ := two_cells hb1
  have df : ∀ j, w1.frozen? ⟨b, j, none⟩ = false := fun j => by simp [World.frozen?, hb1]
  have hw : IntKind.i64.wrap (4096 - (σ.vs.length : Int)) = 4096 - (σ.vs.length : Int) := by rw [IntKind.wrap_i64]; omega
  have hnn : ¬ ((n : Int) > 4096 - (σ.vs.length : Int)) := by omega
  have hnd : decide ((n : Int) > 4096 - (σ.vs.length : Int)) = false := decide_eq_false hnn
  have hlk : σ.vs.length ≤ 4096 := by omega
  have post : Hid (∃ w2, w2 = w1.setCell ⟨b, 0, none⟩ v' ∧ StAt p n₀ w2 b v' L (σ.fresh n) ∧ Mut w b V L w2 v' L) := by
    refine ⟨_, rfl, ?_⟩
    have hother : ∀ k, k ≠ b → (w1.setCell ⟨b, 0, none⟩ v').heap[k]? = w1.heap[k]? := fun k hk => Below.heap_setCell w1 ⟨b, 0, none⟩ v' k hk
    have hbox : (w1.setCell ⟨b, 0, none⟩ v').heap[b]? = some (.cells #[v', L] 70 (0, 0)) := set_block (o := 0) hb1 v'
    have hsz : (w1.setCell ⟨b, 0, none⟩ v').heap.size = w1.heap.size := by simp
    have hr1 : RowV w1 n₀ v' (xs ++ List.replicate n z5) := by
      unfold RowV; rw [List.length_append, List.length_replicate]; exact ho'
    have hv'b : v'.ownBlock ≠ some b := hr1.ne_box hb1
    have hr2 : RowV (w1.setCell ⟨b, 0, none⟩ v') n₀ v' (xs ++ List.replicate n z5) := hr1.later fun k hk => hother k (fun e => hv'b (by rw [hk, e]))
    have hLk : ∀ k, L.ownBlock = some k → w1.heap[k]? = w.heap[k]? := fun k hk => hg.block k (h.rL.lt k hk).2 (fun e => rows_ne hr h.rL k e.symm hk)
    have hLb := h.rL.ne_box h.box
    have hL2 : RowL (w1.setCell ⟨b, 0, none⟩ v') n₀ L σ.tr := h.rL.later fun k hk => (hother k (fun e => hLb (by rw [hk, e]))).trans (hLk k hk)
    have keep : ∀ k, Oth w b V L k → (w1.setCell ⟨b, 0, none⟩ v').heap[k]? = w.heap[k]? ∧ Oth (w1.setCell ⟨b, 0, none⟩ v') b v' L k := fun k hk => by
      refine ⟨(hother k hk.2.1).trans (hg.block k hk.1 (fun e => hk.2.2.1 e.symm)), by rw [hsz]; exact Nat.lt_of_lt_of_le hk.1 hg.size, hk.2.1, fun e => ?_, hk.2.2.2⟩
      rcases hat with hat | hat
      · exact hk.2.2.1 (hat ▸ e)
      · rw [hat] at e; injection e with e; have := hk.1; omega
    refine ⟨⟨hbox, h.lo, fun k hk => (keep k (h.sub k hk)).2, ⟨_, hr2, (hok.fresh n).carry (fun k hk => (keep k (h.sub k hk)).1) fun k hk => hk⟩, hL2, h.ok.fresh n hn⟩, ⟨hg.os, hg.tape, hg.output, by rw [hsz]; exact hg.size, keep⟩⟩
  have hv'f : ∃ a' l' c', v' = .slice a' l' c' := by
    obtain ⟨_, ⟨h2, _⟩ | ⟨g, cap, cur, e, _⟩⟩ := ho'
    · exact ⟨none, 0, 0, h2⟩
    · exact ⟨_, _, _, e⟩
  obtain ⟨a', l', c', rfl⟩ := hv'f
  obtain ⟨a, c, rfl⟩ := hr.form
  rw [hl] at c0 hrun d0
  clear h hr hok ho' hg hat hb1 hVb hl
  generalize σ.vs.length = m at *
  go_enter Try.func19, Try.ntmps19
  go_wp2_with (at_builtin; refine Lib.wpList_append_run _ rfl _ _ _ _ rfl _ _ rfl rfl _ _ hrun ?_)
  obtain ⟨w2, hw2, hS, hM⟩ := post.out
  rw [← hw2]
  refine bodyPost_ret (v := .tuple #[.int .i64 (m : Int), .int .i64 0]) (by simp [results, Try.f19, go_sem]) rfl ?_
  exact ⟨rfl, _, hS, hM⟩

theorem Oth.but {W W' : World} {b r : Nat} {V L : Value} (hB : ButN r W W') {c : Nat} (h : Oth W b V L c) : Oth W' b V L c := ⟨Nat.lt_of_lt_of_le h.1 hB.size, h.2⟩
theorem StAt.butp {p : Nat → Prop} {n₀ : Nat} {W W' : World} {b r : Nat} {V L : Value} {σ : St} (h : StAt p n₀ W b V L σ) (hr : Oth W b V L r) (hp : ¬ p r) (hB : ButN r W W') : StAt p n₀ W' b V L σ := by
  obtain ⟨xs, h1, h2⟩ := h.rV
  have hb : ∀ k, V.ownBlock = some k → W'.heap[k]? = W.heap[k]? := fun k hk => hB.same k (h1.lt k hk).2 (fun e => hr.2.2.1 (e ▸ hk))
  exact ⟨(hB.same b h.lt (fun e => hr.2.1 e.symm)).trans h.box, h.lo, fun k hk => (h.sub k hk).but hB, ⟨xs, h1.later hb, h2.carry (fun k hk => hB.same k (h.sub k hk).1 (fun e => hp (e ▸ hk))) fun k hk => hk⟩, h.rL.later fun k hk => hB.same k (h.rL.lt k hk).2 (fun e => hr.2.2.2 (e ▸ hk)), h.ok⟩
theorem Mut.butp {w W W' : World} {b r : Nat} {V L V' L' : Value} (m : Mut w b V L W V' L') (hr : w.heap.size ≤ r) (hB : ButN r W W') : Mut w b V L W' V' L' :=
  ⟨hB.os.trans m.os, hB.tape.trans m.tape, hB.output.trans m.output, Nat.le_trans m.size hB.size, fun k hk => by
    have h1 := m.keep k hk
    have := hk.1
    exact ⟨(hB.same k h1.2.1 (by omega)).trans h1.1, Nat.lt_of_lt_of_le h1.2.1 hB.size, h1.2.2⟩⟩
/-- A term's box written whole. -/
theorem box_four {W : World} {B : Nat} {c0 c1 c2 c3 : Value} {t : TypeId} (y : W.heap[B]? = some (.cells #[c0, c1, c2, c3] t (0, 0))) (v0 v1 v2 v3 : Value) :
    ∃ W5, W5 = (((W.setCell ⟨B, 0, none⟩ v0).setCell ⟨B, 1, none⟩ v1).setCell ⟨B, 2, none⟩ v2).setCell ⟨B, 3, none⟩ v3 ∧ W5.heap[B]? = some (.cells #[v0, v1, v2, v3] t (0, 0)) ∧ ButN B W W5 ∧ (∀ k, k ≠ B → W5.heap[k]? = W.heap[k]?) ∧ W5.heap.size = W.heap.size := by
  have ho : ∀ k, k ≠ B → ((((W.setCell ⟨B, 0, none⟩ v0).setCell ⟨B, 1, none⟩ v1).setCell ⟨B, 2, none⟩ v2).setCell ⟨B, 3, none⟩ v3).heap[k]? = W.heap[k]? := fun k hk => by
    rw [Below.heap_setCell _ _ _ _ (by simpa using hk), Below.heap_setCell _ _ _ _ (by simpa using hk), Below.heap_setCell _ _ _ _ (by simpa using hk), Below.heap_setCell _ _ _ _ (by simpa using hk)]
  exact ⟨_, rfl, four_block y v0 v1 v2 v3, ⟨rfl, rfl, rfl, by simp, fun k _ hk => ho k hk⟩, ho, by simp⟩
end Go.Proofs.Ytlnggaepmclbkaa

namespace Go.Proofs.Ytlnggaepmclbkaa
open Go.RowKit Go.Shelf
set_option linter.unusedVariables false
set_option linter.unusedSimpArgs false
open Classical

set_option maxRecDepth 100000 in
set_option maxHeartbeats 8000000 in
theorem cvariant_at (u v : Value) (A B : Tm) (w : World) (hu : Has w u A) (hv : Has w v B) (ha : A.size ≤ 1000000000) (hb : B.size ≤ 1000000000) : Calls Try.prog 14 #[u, v] w (Gets w (.bool (decide (A.norm = B.norm)))) := by
  obtain ⟨k1, n1, s1, a1, l1, c1, ks1, rfl, e1, -⟩ := hu.form
  obtain ⟨k2, n2, s2, a2, l2, c2, ks2, rfl, e2, -⟩ := hv.form
  obtain ⟨w2, hw2⟩ : ∃ w2, w2 = (w.alloc (.cells #[.int .i64 k1, .int .i64 n1, .string s1, .slice a1 l1 c1] 24)).alloc (.cells #[.int .i64 k2, .int .i64 n2, .string s2, .slice a2 l2 c2] 24) := ⟨_, rfl⟩
  have hB2 : Below w.heap.size w w2 := by rw [hw2]; exact ((Below.refl _ w).alloc (Nat.le_refl _) _).alloc (by simp) _
  have hx1 : w2.heap[w.heap.size]? = some (.cells #[.int .i64 k1, .int .i64 n1, .string s1, .slice a1 l1 c1] 24 (0, 0)) := by rw [hw2]; exact (Below.heap_alloc _ _ _ (by simp)).trans (World.alloc_heap_new _ _)
  have hx2 : w2.heap[w.heap.size + 1]? = some (.cells #[.int .i64 k2, .int .i64 n2, .string s2, .slice a2 l2 c2] 24 (0, 0)) := by rw [hw2]; simpa using World.alloc_heap_new (w.alloc (.cells #[.int .i64 k1, .int .i64 n1, .string s1, .slice a1 l1 c1] 24)) (.cells #[.int .i64 k2, .int .i64 n2, .string s2, .slice a2 l2 c2] 24)
  obtain ⟨t0, t1, t2, t3⟩ := tbox_cells hx1
  have hcall := cnorm_at _ A w2 (Has.below hu hB2) ha
  have HW := Lib.hid hw2
  have H2 := Lib.hid (And.intro hB2 (And.intro hx2 (Has.below hv hB2)))
  clear hu hv hw2 hB2 hx1 hx2 e1 e2
  go_enter Try.func14, Try.ntmps14
  go_upto_region 1 with fail
  rw [← HW.out]
  go_wp2_with fail
  refine hcall.mono ?_
  clear hcall
  rintro e w3 ⟨k3, n3, s3, a3, l3, c3, rfl, hT3, hB3⟩
  obtain ⟨w4, hw4⟩ : ∃ w4, w4 = w3.alloc (.cells #[.int .i64 k3, .int .i64 n3, .string s3, .slice a3 l3 c3] 24) := ⟨_, rfl⟩
  have hB34 : Below w3.heap.size w3 w4 := by rw [hw4]; exact (Below.refl _ w3).alloc (Nat.le_refl _) _
  have hB24 := hB3.trans (hB34.mono hB3.size)
  have hx4 : w4.heap[w3.heap.size]? = some (.cells #[.int .i64 k3, .int .i64 n3, .string s3, .slice a3 l3 c3] 24 (0, 0)) := by rw [hw4]; exact World.alloc_heap_new _ _
  have hT4 : Has w4 (.agg #[.int .i64 k3, .int .i64 n3, .string s3, .slice a3 l3 c3]) A.norm := hT3.carry (fun b hb => hB34.block b hb.2) fun b hb => Nat.lt_of_lt_of_le hb.2 hB34.size
  have hy4 := tbox_below H2.out.2.1 hB24
  obtain ⟨y0, y1, y2, y3⟩ := tbox_cells hy4
  have hcall := cnorm_at _ B w4 (Has.below H2.out.2.2 hB24) hb
  have HW4 := Lib.hid hw4
  have H4 := Lib.hid (And.intro (H2.out.1.trans (hB24.mono H2.out.1.size)) (And.intro hx4 hT4))
  clear t0 t1 t2 t3 H2 hB3 hT3 hw4 hB34 hB24 hx4 hT4 hy4
  go_upto_region 2 with fail
  rw [← HW4.out]
  generalize w3.heap.size = B3 at *
  clear HW4
  go_wp2_with fail
  refine hcall.mono ?_
  clear hcall
  rintro e w5 ⟨k5, n5, s5, a5, l5, c5, rfl, hT5, hB5⟩
  obtain ⟨w6, hw6⟩ : ∃ w6, w6 = w5.alloc (.cells #[.int .i64 k5, .int .i64 n5, .string s5, .slice a5 l5 c5] 24) := ⟨_, rfl⟩
  have hB56 : Below w5.heap.size w5 w6 := by rw [hw6]; exact (Below.refl _ w5).alloc (Nat.le_refl _) _
  have hB46 := hB5.trans (hB56.mono hB5.size)
  have hx6 : w6.heap[w5.heap.size]? = some (.cells #[.int .i64 k5, .int .i64 n5, .string s5, .slice a5 l5 c5] 24 (0, 0)) := by rw [hw6]; exact World.alloc_heap_new _ _
  have hT6 : Has w6 (.agg #[.int .i64 k5, .int .i64 n5, .string s5, .slice a5 l5 c5]) B.norm := hT5.carry (fun b hb => hB56.block b hb.2) fun b hb => Nat.lt_of_lt_of_le hb.2 hB56.size
  obtain ⟨z0, z1, z2, z3⟩ := tbox_cells hx6
  obtain ⟨x0, x1, x2, x3⟩ := tbox_cells (tbox_below H4.out.2.1 hB46)
  have hcall := same_at A.norm B.norm _ _ w6 (Has.below H4.out.2.2 hB46) hT6 (by rw [norm_size]; omega) (by rw [norm_size]; omega)
  have HW6 := Lib.hid hw6
  have H6 := Lib.hid (H4.out.1.trans (hB46.mono H4.out.1.size))
  clear y0 y1 y2 y3 H4 hB5 hT5 hw6 hB56 hB46 hx6 hT6
  go_upto_region 3 with fail
  rw [← HW6.out]
  generalize w5.heap.size = B5 at *
  clear HW6
  go_wp2_with fail
  refine hcall.mono ?_
  clear hcall
  rintro e w7 ⟨rfl, hB7⟩
  have H7 := Lib.hid (H6.out.trans (hB7.mono H6.out.size))
  clear hB7 H6
  go_wp2_with fail
  go_ret
  exact ⟨rfl, H7.out⟩

/-- What a call leaves that turns a store: a new term, and no error. -/
def MutTm (p : Nat → Prop) (n₀ : Nat) (w : World) (b : Nat) (V L : Value) (σ' : St) (T : Tm) (e : Ending) (w' : World) : Prop :=
  ∃ k n s a l c, e = .returned (.tuple #[.agg #[.int .i64 k, .int .i64 n, .string s, .slice a l c], .int .i64 0]) ∧ ∃ V', StAt p n₀ w' b V' L σ' ∧ Mut w b V L w' V' L ∧ TmIn (fun c => w.heap.size ≤ c ∧ Oth w' b V' L c) w' (.agg #[.int .i64 k, .int .i64 n, .string s, .slice a l c]) T

set_option maxRecDepth 100000 in
set_option maxHeartbeats 8000000 in
theorem cfresh_at {p : Nat → Prop} {n₀ : Nat} {w : World} {b : Nat} {V L : Value} {σ : St} (h : StAt p n₀ w b V L σ) (hn₀ : n₀ ≤ w.heap.size) (v : Value) (T : Tm) (hv : TmIn (Oth w b V L) w v T) (hs : T.size ≤ 1000000000) (m : Nat) (hm : σ.vs.length + m ≤ 4096) :
    Calls Try.prog 24 #[.pointer (some ⟨b, 0, none⟩), v, .int .i64 (m : Int)] w (MutTm p n₀ w b V L (σ.fresh m) (T.shift (σ.vs.length : Int))) := by
  obtain ⟨k, n, s, a, len, cap, ks, rfl, e, -⟩ := hv.form
  obtain ⟨w2, hw2⟩ : ∃ w2, w2 = (w.alloc (.cells #[.int .i64 k, .int .i64 n, .string s, .slice a len cap] 24)).alloc (.cells #[.int .i64 0, .int .i64 0, .string (ByteArray.mk #[]), .slice none 0 0] 24) := ⟨_, rfl⟩
  have hB2 : Below w.heap.size w w2 := by rw [hw2]; exact ((Below.refl _ w).alloc (Nat.le_refl _) _).alloc (by simp) _
  have hsz2 : w2.heap.size = w.heap.size + 1 + 1 := by rw [hw2]; simp
  have hx1 : w2.heap[w.heap.size]? = some (.cells #[.int .i64 k, .int .i64 n, .string s, .slice a len cap] 24 (0, 0)) := by rw [hw2]; exact (Below.heap_alloc _ _ _ (by simp)).trans (World.alloc_heap_new _ _)
  have hx2 : w2.heap[w.heap.size + 1]? = some (.cells #[.int .i64 0, .int .i64 0, .string (ByteArray.mk #[]), .slice none 0 0] 24 (0, 0)) := by rw [hw2]; simpa using World.alloc_heap_new (w.alloc (.cells #[.int .i64 k, .int .i64 n, .string s, .slice a len cap] 24)) (.cells #[.int .i64 0, .int .i64 0, .string (ByteArray.mk #[]), .slice none 0 0] 24)
  have hpn : ¬ p (w.heap.size + 1) := fun hp => by have := (h.sub _ hp).1; omega
  have h2 := h.below hB2
  have hT2 := oth_below hB2 hv
  have ho1 : Oth w2 b V L w.heap.size := h.fresh ⟨Nat.le_refl _, by omega⟩
  have ho2 : Oth w2 b V L (w.heap.size + 1) := h.fresh ⟨by omega, by omega⟩
  have hcall := fresh_p h2 (Nat.le_trans hn₀ hB2.size) m hm
  have HW := Lib.hid hw2
  have H2 := Lib.hid (And.intro hB2 (And.intro hx1 (And.intro hx2 (And.intro hT2 (And.intro ho1 (And.intro ho2 (And.intro hsz2 hpn)))))))
  have hz := zeroTerm
  clear hw2 hB2 hsz2 hx1 hx2 h2 hT2 ho1 ho2 hv e h hpn
  go_enter Try.func24, Try.ntmps24
  go_wp2_with (rw [← HW.out]; go_at_call 19; (with_reducible refine hcall.mono ?_); clear hcall; rintro e w3 ⟨rfl, V', hS3, hM3⟩; have y1 := (hM3.keep _ H2.out.2.2.2.2.1).1.trans H2.out.2.1; obtain ⟨x0, x1, x2, x3⟩ := tbox_cells y1; have H3 := Lib.hid (And.intro hS3 (And.intro hM3 y1)); clear hS3 hM3 y1)
  refine (shift_at (σ.vs.length : Int) T _ w3 (oth_has (H3.out.2.1.term H2.out.2.2.2.1)) (by omega)).mono ?_
  rintro e w4 ⟨r, rfl, hr, hb4⟩
  obtain ⟨k4, n4, s4, a4, l4, c4, ks4, rfl, -⟩ := hr.form
  have hM4 := H3.out.2.1.trans (Mut.of_below (b := b) (V := V') (L := L) hb4)
  have y2 := (hM4.keep _ H2.out.2.2.2.2.2.1).1.trans H2.out.2.2.1
  have ho2 := (hM4.keep _ H2.out.2.2.2.2.2.1).2
  obtain ⟨z0, z1, z2, z3⟩ := tbox_cells y2
  have zf : ∀ j, w4.frozen? ⟨w.heap.size + 1, j, none⟩ = false := fun j => by simp [World.frozen?, y2]
  have hlt3 : w.heap.size + 1 < w3.heap.size := by have := H3.out.2.1.size; have := H2.out.2.2.2.2.2.2.1; omega
  have HZ := Lib.hid (And.intro hr (And.intro hM4 (And.intro y2 (And.intro ho2 hb4))))
  clear hr hb4 hM4 y2 ho2 x0 x1 x2 x3
  go_wp2_with fail
  obtain ⟨hr, hM4, y2, ho2, hb4⟩ := HZ.out
  obtain ⟨w6, hw6, hb6, hB6, ho6, hs6⟩ := box_four y2 (.int .i64 k4) (.int .i64 n4) (.string s4) (.slice a4 l4 c4)
  rw [← hw6]
  obtain ⟨f0, f1, f2, f3⟩ := tbox_cells hb6
  refine bodyPost_ret (v := .tuple #[.agg #[.int .i64 k4, .int .i64 n4, .string s4, .slice a4 l4 c4], .int .i64 0]) (by simp [results, Try.f24, go_sem, f0, f1, f2, f3]) rfl ?_
  have hS4 := H3.out.1.below hb4
  exact ⟨_, _, _, _, _, _, rfl, V', hS4.butp ho2 H2.out.2.2.2.2.2.2.2 hB6, ((Mut.of_below H2.out.1).trans hM4).butp (by omega) hB6, hr.carry (fun c hc => ho6 c (by have := hc.1; omega)) fun c hc => ⟨by have := hc.1; omega, (H3.out.1.fresh hc).but hB6⟩⟩

/-- What a call leaves that only reads: no term, and this error. -/
def BadTm (w : World) (x : Int) (e : Ending) (w' : World) : Prop := e = .returned (.tuple #[.agg #[.int .i64 0, .int .i64 0, .string (ByteArray.mk #[]), .slice none 0 0], .int .i64 x]) ∧ Below w.heap.size w w'

set_option maxRecDepth 100000 in
set_option maxHeartbeats 8000000 in
theorem ccopy_bad {p : Nat → Prop} {n₀ : Nat} {w : World} {b : Nat} {V L : Value} {σ : St} (h : StAt p n₀ w b V L σ) (v : Value) (T : Tm) (hv : Has w v T) (x : Int) (hf : σ.fill 60 1000 T = .bad x) :
    Calls Try.prog 22 #[.pointer (some ⟨b, 0, none⟩), v] w (BadTm w x) := by
  obtain ⟨k, n, s, a, len, cap, ks, rfl, e, -⟩ := hv.form
  obtain ⟨w2, hw2⟩ : ∃ w2, w2 = (w.alloc (.cells #[.int .i64 k, .int .i64 n, .string s, .slice a len cap] 24)).alloc (.cells #[.int .i64 0, .int .i64 0, .string (ByteArray.mk #[]), .slice none 0 0] 24) := ⟨_, rfl⟩
  have hB2 : Below w.heap.size w w2 := by rw [hw2]; exact ((Below.refl _ w).alloc (Nat.le_refl _) _).alloc (by simp) _
  have hx1 : w2.heap[w.heap.size]? = some (.cells #[.int .i64 k, .int .i64 n, .string s, .slice a len cap] 24 (0, 0)) := by rw [hw2]; exact (Below.heap_alloc _ _ _ (by simp)).trans (World.alloc_heap_new _ _)
  have hx2 : w2.heap[w.heap.size + 1]? = some (.cells #[.int .i64 0, .int .i64 0, .string (ByteArray.mk #[]), .slice none 0 0] 24 (0, 0)) := by rw [hw2]; simpa using World.alloc_heap_new (w.alloc (.cells #[.int .i64 k, .int .i64 n, .string s, .slice a len cap] 24)) (.cells #[.int .i64 0, .int .i64 0, .string (ByteArray.mk #[]), .slice none 0 0] 24)
  have hcall := full_any ((h.below hB2).weak (fun k hk => ((h.below hB2).sub k hk)) fun k hk => hk) _ T (Has.below hv hB2)
  have hsz2 : w2.heap.size = w.heap.size + 1 + 1 := by rw [hw2]; simp
  rw [hf] at hcall
  have hx0 : x ≠ 0 := by rcases fill_bads σ 60 1000 T x hf with h | h <;> omega
  have hx0b : (x != 0) = true := by simpa using hx0
  have hcall' : Calls Try.prog 21 #[.pointer (some ⟨b, 0, none⟩), .agg #[.int .i64 k, .int .i64 n, .string s, .slice a len cap]] w2 fun e w3 => ∃ k n s a l c, e = .returned (.tuple #[.agg #[.int .i64 k, .int .i64 n, .string s, .slice a l c], .int .i64 x]) ∧ Hid (Below w2.heap.size w2 w3) := hcall.mono fun e w3 hh => by
    obtain ⟨k, n, s, a, l, c, he, -, hB⟩ := hh
    exact ⟨k, n, s, a, l, c, he, hB⟩
  have HW := Lib.hid hw2
  have H2 := Lib.hid (And.intro hB2 (And.intro hx2 hsz2))
  have hz := zeroTerm
  obtain ⟨t0, t1, t2, t3⟩ := tbox_cells hx1
  clear hw2 hB2 hx1 hx2 hcall hv e h hf hx0 hsz2
  go_enter Try.func22, Try.ntmps22
  go_upto_region 3 with fail
  rw [← HW.out]
  go_upto_region 4 with (go_at_call 21; (with_reducible refine hcall'.mono ?_); clear hcall'; rintro e w3 ⟨k3, n3, s3, a3, l3, c3, rfl, HB3⟩)
  have y2 := (HB3.out.block (w.heap.size + 1) (by have := H2.out.2.2; omega)).trans H2.out.2.1
  have hy4 : (w3.alloc (.cells #[.int .i64 k3, .int .i64 n3, .string s3, .slice a3 l3 c3] 24)).heap[w.heap.size + 1]? = some (.cells #[.int .i64 0, .int .i64 0, .string (ByteArray.mk #[]), .slice none 0 0] 24 (0, 0)) := (Below.heap_alloc _ _ _ (Array.getElem?_eq_some_iff.1 y2).1).trans y2
  have hB4 := (H2.out.1.trans (HB3.out.mono H2.out.1.size)).alloc (Nat.le_trans H2.out.1.size HB3.out.size) (.cells #[.int .i64 k3, .int .i64 n3, .string s3, .slice a3 l3 c3] 24)
  generalize hw4 : w3.alloc (.cells #[.int .i64 k3, .int .i64 n3, .string s3, .slice a3 l3 c3] 24) = w4 at *
  generalize w3.heap.size = B4 at *
  clear hw4 HB3 y2 t0 t1 t2 t3
  obtain ⟨z0, z1, z2, z3⟩ := tbox_cells hy4
  have zf : ∀ j, w4.frozen? ⟨w.heap.size + 1, j, none⟩ = false := fun j => by simp [World.frozen?, hy4]
  have HY := Lib.hid (And.intro hy4 hB4)
  clear hy4 hB4
  go_wp2_with fail
  obtain ⟨hy4, hB4⟩ := HY.out
  obtain ⟨w6, hw6, hb6, hB6, ho6, hs6⟩ := box_four hy4 (.int .i64 0) (.int .i64 0) (.string (ByteArray.mk #[])) (.slice none 0 0)
  rw [← hw6]
  obtain ⟨f0, f1, f2, f3⟩ := tbox_cells hb6
  refine bodyPost_ret (v := .tuple #[.agg #[.int .i64 0, .int .i64 0, .string (ByteArray.mk #[]), .slice none 0 0], .int .i64 x]) (by simp [results, Try.f22, go_sem, f0, f1, f2, f3]) rfl ?_
  exact ⟨rfl, hB6.os.trans hB4.os, hB6.tape.trans hB4.tape, hB6.output.trans hB4.output, Nat.le_trans hB4.size hB6.size, fun c hc => (ho6 c (by omega)).trans (hB4.block c hc)⟩

set_option maxRecDepth 100000 in
set_option maxHeartbeats 8000000 in
theorem ccopy_at {p : Nat → Prop} {n₀ : Nat} {w : World} {b : Nat} {V L : Value} {σ : St} (h : StAt p n₀ w b V L σ) (hn₀ : n₀ ≤ w.heap.size) (v : Value) (T : Tm) (hv : Has w v T) (U : Tm) (lf : Nat) (hf : σ.fill 60 1000 T = .ok U lf) (hU : U.size ≤ 1000) (hm : σ.vs.length + U.vars.length ≤ 4096) :
    Calls Try.prog 22 #[.pointer (some ⟨b, 0, none⟩), v] w (MutTm p n₀ w b V L (σ.fresh U.vars.length) (U.norm.shift (σ.vs.length : Int))) := by
  obtain ⟨k, n, s, a, len, cap, ks, rfl, e, -⟩ := hv.form
  obtain ⟨w2, hw2⟩ : ∃ w2, w2 = (w.alloc (.cells #[.int .i64 k, .int .i64 n, .string s, .slice a len cap] 24)).alloc (.cells #[.int .i64 0, .int .i64 0, .string (ByteArray.mk #[]), .slice none 0 0] 24) := ⟨_, rfl⟩
  have hB2 : Below w.heap.size w w2 := by rw [hw2]; exact ((Below.refl _ w).alloc (Nat.le_refl _) _).alloc (by simp) _
  have hx1 : w2.heap[w.heap.size]? = some (.cells #[.int .i64 k, .int .i64 n, .string s, .slice a len cap] 24 (0, 0)) := by rw [hw2]; exact (Below.heap_alloc _ _ _ (by simp)).trans (World.alloc_heap_new _ _)
  have hx2 : w2.heap[w.heap.size + 1]? = some (.cells #[.int .i64 0, .int .i64 0, .string (ByteArray.mk #[]), .slice none 0 0] 24 (0, 0)) := by rw [hw2]; simpa using World.alloc_heap_new (w.alloc (.cells #[.int .i64 k, .int .i64 n, .string s, .slice a len cap] 24)) (.cells #[.int .i64 0, .int .i64 0, .string (ByteArray.mk #[]), .slice none 0 0] 24)
  have h2 := h.below hB2
  have hpn : ¬ p (w.heap.size + 1) := fun hp => by have := (h.sub _ hp).1; omega
  have hsz2 : w2.heap.size = w.heap.size + 1 + 1 := by rw [hw2]; simp
  have ho2 : Oth w2 b V L (w.heap.size + 1) := h.fresh ⟨by omega, by omega⟩
  have hcall := full_any (h2.weak (fun k hk => h2.sub k hk) fun k hk => hk) _ T (Has.below hv hB2)
  rw [hf] at hcall
  have hcall' : Calls Try.prog 21 #[.pointer (some ⟨b, 0, none⟩), .agg #[.int .i64 k, .int .i64 n, .string s, .slice a len cap]] w2 fun e w3 => ∃ k n s a l c, e = .returned (.tuple #[.agg #[.int .i64 k, .int .i64 n, .string s, .slice a l c], .int .i64 0]) ∧ Hid (Has w3 (.agg #[.int .i64 k, .int .i64 n, .string s, .slice a l c]) U ∧ Below w2.heap.size w2 w3) := hcall.mono fun e w3 hh => by
    obtain ⟨k, n, s, a, l, c, he, hT, hB⟩ := hh
    exact ⟨k, n, s, a, l, c, he, hT.carry (fun _ _ => rfl) fun c hc => hc.2, hB⟩
  have HW := Lib.hid hw2
  have H2 := Lib.hid (And.intro hB2 (And.intro hx2 (And.intro h2 (And.intro hpn (And.intro ho2 hsz2)))))
  have hz := zeroTerm
  obtain ⟨t0, t1, t2, t3⟩ := tbox_cells hx1
  clear hw2 hB2 hx1 hx2 hcall hv e h hf hsz2 h2 hpn ho2
  go_enter Try.func22, Try.ntmps22
  go_upto_region 3 with fail
  rw [← HW.out]
  go_upto_region 4 with (go_at_call 21; (with_reducible refine hcall'.mono ?_); clear hcall'; rintro e w3 ⟨k3, n3, s3, a3, l3, c3, rfl, HB3⟩)
  obtain ⟨w4, hw4⟩ : ∃ w4, w4 = w3.alloc (.cells #[.int .i64 k3, .int .i64 n3, .string s3, .slice a3 l3 c3] 24) := ⟨_, rfl⟩
  have hB34 : Below w3.heap.size w3 w4 := by rw [hw4]; exact (Below.refl _ w3).alloc (Nat.le_refl _) _
  have hx4 : w4.heap[w3.heap.size]? = some (.cells #[.int .i64 k3, .int .i64 n3, .string s3, .slice a3 l3 c3] 24 (0, 0)) := by rw [hw4]; exact World.alloc_heap_new _ _
  have hB24 := HB3.out.2.trans (hB34.mono HB3.out.2.size)
  have hT4 : Has w4 (.agg #[.int .i64 k3, .int .i64 n3, .string s3, .slice a3 l3 c3]) U := Has.below HB3.out.1 hB34
  have hcall := cnorm_at _ U w4 hT4 (by omega)
  have H4 := Lib.hid hB24
  obtain ⟨y0, y1, y2, y3⟩ := tbox_cells hx4
  rw [← hw4]
  clear hB34 hx4 hB24 hT4 HB3 t0 t1 t2 t3 hw4
  generalize w3.heap.size = B3 at *
  go_upto_region 7 with (go_at_call 11; (with_reducible refine hcall.mono ?_); clear hcall; rintro e w5 ⟨k5, n5, s5, a5, l5, c5, rfl, hT5, hB5⟩)
  obtain ⟨w6, hw6⟩ : ∃ w6, w6 = w5.alloc (.cells #[.int .i64 k5, .int .i64 n5, .string s5, .slice a5 l5 c5] 24) := ⟨_, rfl⟩
  have hB56 : Below w5.heap.size w5 w6 := by rw [hw6]; exact (Below.refl _ w5).alloc (Nat.le_refl _) _
  have hx6 : w6.heap[w5.heap.size]? = some (.cells #[.int .i64 k5, .int .i64 n5, .string s5, .slice a5 l5 c5] 24 (0, 0)) := by rw [hw6]; exact World.alloc_heap_new _ _
  have hB26 := (H4.out.trans (hB5.mono H4.out.size)).trans (hB56.mono (Nat.le_trans H4.out.size hB5.size))
  have h6 := H2.out.2.2.1.below hB26
  have hT6 : TmIn (Oth w6 b V L) w6 (.agg #[.int .i64 k5, .int .i64 n5, .string s5, .slice a5 l5 c5]) U.norm := hT5.carry (fun c hc => hB56.block c hc.2) fun c hc => H2.out.2.2.1.fresh ⟨Nat.le_trans H4.out.size hc.1, Nat.lt_of_lt_of_le hc.2 hB56.size⟩
  have hBw6 := H2.out.1.trans (hB26.mono H2.out.1.size)
  have hcall := cfresh_at h6 (Nat.le_trans hn₀ hBw6.size) _ U.norm hT6 (by rw [norm_size]; omega) U.vars.length hm
  have H6 := Lib.hid (And.intro (hBw6) (And.intro ((hB26.block (w.heap.size + 1) (by have := H2.out.2.2.2.2.2; omega)).trans H2.out.2.1) (H2.out.2.2.2.2.1.below hB26)))
  obtain ⟨x0, x1, x2, x3⟩ := tbox_cells hx6
  rw [← hw6]
  clear hB56 hx6 hB26 h6 hT6 hBw6 hT5 hB5 y0 y1 y2 y3 hw6
  generalize w5.heap.size = B5 at *
  go_wp2_with fail
  refine hcall.mono ?_
  clear hcall
  rintro e w7 ⟨k7, n7, s7, a7, l7, c7, rfl, V', hS7, hM7, hT7⟩
  have y2 := (hM7.keep _ H6.out.2.2).1.trans H6.out.2.1
  have ho2 := (hM7.keep _ H6.out.2.2).2
  obtain ⟨z0, z1, z2, z3⟩ := tbox_cells y2
  have zf : ∀ j, w7.frozen? ⟨w.heap.size + 1, j, none⟩ = false := fun j => by simp [World.frozen?, y2]
  have HZ := Lib.hid (And.intro hS7 (And.intro hM7 (And.intro y2 (And.intro ho2 hT7))))
  clear hS7 hM7 y2 ho2 hT7 x0 x1 x2 x3
  go_wp2_with fail
  obtain ⟨hS7, hM7, y2, ho2, hT7⟩ := HZ.out
  have hl6 : w.heap.size + 1 < w6.heap.size := (Array.getElem?_eq_some_iff.1 H6.out.2.1).1
  obtain ⟨w8, hw8, hb8, hB8, ho8, hs8⟩ := box_four y2 (.int .i64 k7) (.int .i64 n7) (.string s7) (.slice a7 l7 c7)
  rw [← hw8]
  obtain ⟨f0, f1, f2, f3⟩ := tbox_cells hb8
  refine bodyPost_ret (v := .tuple #[.agg #[.int .i64 k7, .int .i64 n7, .string s7, .slice a7 l7 c7], .int .i64 0]) (by simp [results, Try.f22, go_sem, f0, f1, f2, f3]) rfl ?_
  exact ⟨_, _, _, _, _, _, rfl, V', hS7.butp ho2 H2.out.2.2.2.1 hB8, ((Mut.of_below H6.out.1).trans hM7).butp (by omega) hB8, hT7.carry (fun c hc => ho8 c (by have := hc.1; omega)) fun c hc => ⟨by have := hc.1; omega, hc.2.but hB8⟩⟩
end Go.Proofs.Ytlnggaepmclbkaa

namespace Go.Proofs.Ytlnggaepmclbkaa
open Go.RowKit Go.Shelf
set_option linter.unusedVariables false

theorem deeps_app : ∀ xs ys : List Tm, Tm.deeps (xs ++ ys) = max (Tm.deeps xs) (Tm.deeps ys)
  | [], ys => by simp [Tm.deeps_nil]
  | x :: xs, ys => by rw [List.cons_append, Tm.deeps_cons, Tm.deeps_cons, deeps_app xs ys]; omega
theorem take_succ_deeps' (ks : List Tm) (i : Nat) (t : Tm) (h : ks[i]? = some t) : Tm.deeps (ks.take (i + 1)) = max (Tm.deeps (ks.take i)) t.deep := by
  rw [List.take_add_one, h, deeps_app]; simp [Tm.deeps_cons, Tm.deeps_nil]

/-- append, run, at numbers. -/
theorem run_append_ints {w : World} (ty : TypeId) (base : Nat) (v u : Value) (l r : List Int) (hown : OwnInts w base v l) (hr : IntsAt w u r) (hl : l.length + r.length ≤ 1000000000000) (hbase : base ≤ w.heap.size) :
    ∃ v' w', (Builtin.append_ #[34, 34] ty #[v, u]).run Try.prog w = .ok v' w' ∧ OwnInts w' base v' (l ++ r) ∧ w.grownBy w' v.ownBlock ∧ (v'.ownBlock = v.ownBlock ∨ v'.ownBlock = some w.heap.size) := by
  obtain ⟨i0, hi, hz0, hz1, hz2⟩ := info_parts infoInt
  obtain ⟨sa, c, rfl, h1, h2, h3, h4⟩ := hr
  cases sa with
  | none =>
    obtain rfl : r = [] := by
      cases r with
      | nil => rfl
      | cons p r => obtain ⟨_, _, e, _⟩ := h4 0 (by simp); cases e
    rw [h3 rfl]
    exact ⟨v, w, run_append_owned_none w base 34 ty 3 i0 1 Try.underlying34 hi v l.length (l.map (Value.int .i64)) hown, by rw [List.append_nil]; exact hown, ⟨rfl, rfl, rfl, Nat.le_refl _, fun _ _ _ => rfl⟩, Or.inl rfl⟩
  | some ad =>
    obtain ⟨v', w', hr, ho, hg, _, hat⟩ := run_append_own_at (P := Try.prog) w base 34 ty 3 i0 (.int .i64 0) 1 8 Try.underlying34 hi hz0 hz1 hz2 rfl (by decide) v l.length (l.map (Value.int .i64)) hown ad r.length c (r.map (Value.int .i64)) (by simp) (ints_cell h4) (by simp [Value.oneCell']) (by unfold maxLen; omega) (by omega) hbase
    exact ⟨v', w', hr, by unfold OwnInts; rw [List.length_append, List.map_append]; exact ho, hg, hat⟩
theorem step_append_ints {w : World} {ops : Array Oper} {o : Oper} {a : Act} {K : Act → World → Prop} {Q : Exit → Act → World → Prop} {E : Prop} (hgd : o.guard = none) (s x : Operand)
    (ho : o.op = .call { callee := .builtin .append, args := #[s, x], argTypes := #[34, 34] })
    (base : Nat) (v u : Value) (l r : List Int) (hs : a.eval s = v) (hx : a.eval x = u) (hown : OwnInts w base v l) (hsrc : IntsAt w u r) (hl : l.length + r.length ≤ 1000000000000) (hbase : base ≤ w.heap.size)
    (h : ∀ v' w', OwnInts w' base v' (l ++ r) → w.grownBy w' v.ownBlock → (v'.ownBlock = v.ownBlock ∨ v'.ownBlock = some w.heap.size) → K (a.put o.dst v') w') :
    if Region.wanted o (yielded ops a.tmps) = true then Oper.wp Try.prog o a w K Q else E := by
  have hw : Region.wanted o (yielded ops a.tmps) = true := by simp [Region.wanted, hgd]
  rw [if_pos hw]
  obtain ⟨v', w', hr, h2, h3, h4⟩ := run_append_ints o.type base v u l r hown hsrc hl hbase
  unfold Oper.wp execOp
  simp only [ho, resolve, invoke, builtin, Sem.run_bind, Sem.run_pure, Result.andThen_ok, List.map_toArray, List.map_cons, List.map_nil, hs, hx, hr]
  exact h v' w' h2 h3 h4

end Go.Proofs.Ytlnggaepmclbkaa
