/-
  unify.open.
-/
import Derived.Test.YtfjnajngelemkaaZUniBn2
namespace Go.Proofs.Ytfjnajngelemkaa
open Go.RowKit Go.Shelf
open Classical
set_option linter.unusedVariables false
set_option linter.unusedSimpArgs false

theorem TsIn.one {p q : Nat → Prop} {W : World} {b o : Nat} {len cap : Nat} {ks : List Tm} (h : TsIn p W (.slice (some ⟨b, o, none⟩) len cap) ks) (c : Nat) (hc : c < ks.length) (hq : ∀ x, p x → q x) : TsIn q W (.slice (some ⟨b, o + c * 4, none⟩) 1 1) [ks[c]] := by
  obtain ⟨a_, cap_, e, -, -, -, hx⟩ := h
  injection e with e1 e2 e3
  obtain ⟨b', o', k', n', s', a', l', c', rfl, hb, c0, c1, c2, c3, ht⟩ := hx c hc
  simp only [Option.some.injEq, Addr.mk.injEq, and_true] at e1
  obtain ⟨rfl, rfl⟩ := e1
  refine ⟨_, _, rfl, by simp, by unfold maxLen; omega, (fun h => by cases h), fun i hi => ?_⟩
  have hi' : i = 0 := by simp at hi; omega
  subst hi'
  exact ⟨b, o + c * 4, k', n', s', a', l', c', rfl, hq b hb, by simpa using c0, by simpa using c1, by simpa using c2, by simpa using c3, ht.carry (fun _ _ => rfl) hq⟩
def OpenP (p : Nat → Prop) (N : Nat) (T : Tm) (w : World) (e : Ending) (w' : World) : Prop :=
  ∃ k n s a l c, e = .returned (.tuple #[.agg #[.int .i64 k, .int .i64 n, .string s, .slice a l c], .int .i64 ((T.openC N).2 : Int)]) ∧ TmIn (fun c => p c ∨ (w.heap.size ≤ c ∧ c < w'.heap.size)) w' (.agg #[.int .i64 k, .int .i64 n, .string s, .slice a l c]) (T.openC N).1 ∧ Below w.heap.size w w'
theorem gv_wraps4 {N : Nat} {T : Tm} (h : GV N T) (h4 : T.kind = 4) : ∃ (l : Nat) (t : Tm), T = .mk 4 (l : Int) e0 [t] := by
  cases h with
  | var n => exact absurd h4 k14
  | int n => exact absurd h4 k24
  | fn s ks h => exact absurd h4 k34
  | box l t _ _ _ => exact ⟨l, t, rfl⟩
theorem ckids_len (T : Tm) : T.ckids.length < T.size := by
  induction T using Tm.ind with
  | h k n s ks ih =>
    by_cases h : k = 4 ∧ ks.length = 1
    · obtain ⟨t, rfl, rfl⟩ := wraps_form (n := n) (s := s) h
      have := ih t (by simp)
      rw [ckids_wraps, Tm.size_mk, Tm.sizes_cons]; omega
    · rw [ckids_else h, Tm.size_mk]
      have := Tm.length_le_sizes ks; omega

theorem ButN.setAt {B : Nat} {w w1 : World} (h : ButN B w w1) (o : Nat) (v : Value) : ButN B w (w1.setCell ⟨B, o, none⟩ v) :=
  ⟨h.os, h.tape, h.output, by simpa using h.size, fun k hk hne => (Below.heap_setCell w1 ⟨B, o, none⟩ v k hne).trans (h.same k hk hne)⟩
theorem row_later {w w' : World} {base k n : Nat} {t : TypeId} {v : Value} {cs : List Value} (h : w.ownsRow base t k v n cs) (hk : ∀ b, v.ownBlock = some b → w'.heap[b]? = w.heap[b]?) : w'.ownsRow base t k v n cs := by
  obtain ⟨h1, ⟨h2, h0⟩ | ⟨g, cap, cur, rfl, hg, hh, r⟩⟩ := h
  · exact ⟨h1, .inl ⟨h2, h0⟩⟩
  · exact ⟨h1, .inr ⟨g, cap, cur, rfl, hg, (hk g rfl).trans hh, r⟩⟩
theorem row_form {w : World} {base k n : Nat} {t : TypeId} {v : Value} {cs : List Value} (h : w.ownsRow base t k v n cs) : ∃ a c, v = .slice a n c := by
  obtain ⟨h1, ⟨h2, h0⟩ | ⟨g, cap, cur, rfl, _⟩⟩ := h
  · exact ⟨none, 0, by rw [h0]; exact h2⟩
  · exact ⟨_, _, rfl⟩
/-- The terms of an own row, wherever they lie. -/
theorem row_ts {w : World} {base : Nat} {v : Value} {qs : List Quad} {ks : List Tm} {q : Nat → Prop} (h1 : w.ownsRow base 24 4 v qs.length (flatQ qs)) (h2 : QsOk q w qs ks) (hq : ∀ k, v.ownBlock = some k → q k) : TsIn q w v ks := by
  rw [h2.1] at h1
  obtain ⟨_, ⟨rfl, h0⟩ | ⟨g, cap, cur, rfl, hg, hh, hc1, hc2, hc3, hc4⟩⟩ := h1
  · obtain rfl : ks = [] := List.eq_nil_of_length_eq_zero h0
    exact noTs _ _
  · refine ⟨some ⟨g, 0, none⟩, cap, rfl, hc1, hc2, (fun h => by cases h), fun i hi => ?_⟩
    have hql : i < qs.length := by rw [h2.1]; exact hi
    obtain ⟨⟨a, l, c, e⟩, hT⟩ := h2.2 i qs[i] ks[i] (List.getElem?_eq_getElem hql) (List.getElem?_eq_getElem hi)
    obtain ⟨g0, g1, g2, g3⟩ := flatQ_get qs i qs[i] (List.getElem?_eq_getElem hql)
    have cell : ∀ j, j < ks.length * 4 → w.cell? ⟨g, j, none⟩ = (flatQ qs)[j]? := fun j hj => by
      rw [← hc4, List.getElem?_take_of_lt hj]
      simp [World.cell?, hh]
    refine ⟨g, 0, qs[i].1, qs[i].2.1, qs[i].2.2.1, a, l, c, rfl, hq g rfl, ?_, ?_, ?_, ?_, ?_⟩
    · rw [Nat.zero_add, cell _ (by omega)]; exact g0
    · rw [Nat.zero_add, cell _ (by omega)]; exact g1
    · rw [Nat.zero_add, cell _ (by omega)]; exact g2
    · rw [Nat.zero_add, cell _ (by omega), g3, e]
    · unfold qval at hT
      rw [e] at hT
      exact hT
theorem one_quad (q : Quad) (h : q.2.2.2.oneCell' = true) : ∀ u ∈ flatQ [q], u.oneCell' = true := by
  intro u hu
  simp only [flatQ, List.mem_cons, List.not_mem_nil, or_false] at hu
  rcases hu with rfl | rfl | rfl | rfl
  · rfl
  · rfl
  · rfl
  · exact h
/-- append of one quadruple of cells that stands in a block of its own, at a step of a region that draws its order. -/
theorem step_append_quad {w : World} {ops : Array Oper} {o : Oper} {a : Act} {K : Act → World → Prop} {Q : Exit → Act → World → Prop} {E : Prop} (hgd : o.guard = none) (s x : Operand)
    (ho : o.op = .call { callee := .builtin .append, args := #[s, x], argTypes := #[22, 22] })
    (base : Nat) (v : Value) (qs : List Quad) (q : Quad) (B : Nat) (hs : a.eval s = v) (hx : a.eval x = .slice (some ⟨B, 0, none⟩) 1 1) (hown : w.ownsRow base 24 4 v qs.length (flatQ qs))
    (hB : w.heap[B]? = some (.cells #[.int .i64 q.1, .int .i64 q.2.1, .string q.2.2.1, q.2.2.2] 24 (0, 0))) (h1c : q.2.2.2.oneCell' = true) (hl : qs.length + 1 ≤ 1000000000000) (hbase : base ≤ w.heap.size)
    (h : ∀ v' w', w'.ownsRow base 24 4 v' (qs ++ [q]).length (flatQ (qs ++ [q])) → w.grownBy w' v.ownBlock → (v'.ownBlock = v.ownBlock ∨ v'.ownBlock = some w.heap.size) → K (a.put o.dst v') w') :
    if Region.wanted o (yielded ops a.tmps) = true then Oper.wp Try.prog o a w K Q else E := by
  have hw : Region.wanted o (yielded ops a.tmps) = true := by simp [Region.wanted, hgd]
  rw [if_pos hw]
  obtain ⟨i0, hi, hz0, hz1, hz2⟩ := info_parts infoTerm
  have hcell : ∀ j u, (flatQ [q])[j]? = some u → w.cell? ((⟨B, 0, none⟩ : Addr).add j) = some u := fun j u hu => by
    rw [addr4]
    match j, hu with
    | 0, hu => simp [flatQ] at hu; subst hu; simp [World.cell?, hB]
    | 1, hu => simp [flatQ] at hu; subst hu; simp [World.cell?, hB]
    | 2, hu => simp [flatQ] at hu; subst hu; simp [World.cell?, hB]
    | 3, hu => simp [flatQ] at hu; subst hu; simp [World.cell?, hB]
    | j + 4, hu => simp [flatQ] at hu
  obtain ⟨v', w', hr, ho2, hg, _, hat⟩ := run_append_own_at (P := Try.prog) w base 22 o.type 24 i0 _ 4 56 Try.underlying22 hi hz0 hz1 hz2 rfl (by decide) v qs.length (flatQ qs) hown ⟨B, 0, none⟩ 1 1 (flatQ [q]) rfl hcell (one_quad q h1c) (by unfold maxLen; omega) (by omega) hbase
  unfold Oper.wp execOp
  simp only [ho, resolve, invoke, builtin, Sem.run_bind, Sem.run_pure, Result.andThen_ok, List.map_toArray, List.map_cons, List.map_nil, hs, hx, hr]
  refine h v' w' ?_ hg hat
  rw [List.length_append, flatQ_append]
  exact ho2
theorem tm_core {N : Nat} {p : Nat → Prop} {W : World} {v : Value} {T : Tm} (h : TmIn p W v T) : ∀ a, i64ok (T.strip Nat.max (lvC N) a).1.kind ∧ i64ok (T.strip Nat.max (lvC N) a).1.num ∧ (T.strip Nat.max (lvC N) a).1.name.size ≤ maxLen := by
  induction h with
  | @mk k n s a cap ks hk hn hs hc hm ha vs K N' S hv hkid ih =>
    intro x
    by_cases hw : k = 4 ∧ ks.length = 1
    · obtain ⟨t, rfl, rfl⟩ := wraps_form (n := n) (s := s) hw
      rw [Tm.strip_wraps]
      exact ih 0 (by simp) _
    · rw [Tm.strip_else hw]
      exact ⟨hk, hn, hs⟩
/-- The cells of the kids, sealed anew, so far. -/
def sealQ (lev : Int) (b o : Nat) : Nat → List Quad
  | 0 => []
  | c + 1 => sealQ lev b o c ++ [(4, lev, ByteArray.mk #[], .slice (some ⟨b, o + c * 4, none⟩) 1 1)]
theorem sealQ_len (lev : Int) (b o : Nat) : ∀ c, (sealQ lev b o c).length = c
  | 0 => rfl
  | c + 1 => by rw [sealQ, List.length_append, sealQ_len lev b o c]; rfl
theorem sealQ_ok {q : Nat → Prop} {W : World} {b o : Nat} {len cap : Nat} {ks : List Tm} (lev : Nat) (hlev : lev ≤ 16) (h : TsIn q W (.slice (some ⟨b, o, none⟩) len cap) ks) : ∀ c, c ≤ ks.length → QsOk q W (sealQ (lev : Int) b o c) ((ks.take c).map fun t => putT t (lev : Int))
  | 0, _ => ⟨rfl, fun i q t h => by simp [sealQ] at h⟩
  | c + 1, hc => by
    have hk : ks[c]? = some ks[c] := List.getElem?_eq_getElem (by omega)
    rw [sealQ, List.take_add_one, hk, List.map_append]
    refine (sealQ_ok lev hlev h c (by omega)).append ⟨rfl, fun i q' t h1 h2 => ?_⟩
    match i, h1, h2 with
    | 0, h1, h2 =>
      simp at h1 h2
      subst h1 h2
      refine ⟨⟨_, _, _, rfl⟩, ?_⟩
      have h3 := TsIn.one h c (by omega) (fun x hx => hx)
      exact TsIn.term (k := 4) (n := (lev : Int)) (s := ByteArray.mk #[]) h3 ⟨by decide, by decide⟩ ⟨by omega, by omega⟩ (Nat.zero_le _)
    | i + 1, h1, h2 => simp at h1

set_option maxRecDepth 100000 in
set_option maxHeartbeats 8000000 in
theorem uopen_at {p : Nat → Prop} (N : Nat) (v : Value) (T : Tm) (w : World) (b : Nat) (hL : ChainAt w b N) (hp : ∀ c, p c → c < w.heap.size) (hv : TmIn p w v T) (hg : GV N T) (h1 : T.kind ≠ 1) (hs : T.size ≤ 1000000000) :
    Calls Try.prog 78 #[.pointer (some ⟨b, 0, none⟩), v] w (OpenP p N T w) := by
  obtain ⟨k, n, s, a, len, cap, ks, rfl, e, hlen, -⟩ := hv.form
  have ekT : T.kind = k := by rw [e]; rfl
  clear e hlen
  obtain ⟨w2, hw2⟩ : ∃ w2, w2 = (w.alloc (.cells #[.int .i64 k, .int .i64 n, .string s, .slice a len cap] 24)).alloc (.cells #[.int .i64 0, .int .i64 0, .string (ByteArray.mk #[]), .slice none 0 0] 24) := ⟨_, rfl⟩
  have hb2 : Below w.heap.size w w2 := by rw [hw2]; exact ((Below.refl _ w).alloc (Nat.le_refl _) _).alloc (by simp) _
  have hx1 : w2.heap[w.heap.size]? = some (.cells #[.int .i64 k, .int .i64 n, .string s, .slice a len cap] 24 (0, 0)) := by rw [hw2]; exact (Below.heap_alloc _ _ _ (by simp)).trans (World.alloc_heap_new _ _)
  have hx2 : w2.heap[w.heap.size + 1]? = some (.cells #[.int .i64 0, .int .i64 0, .string (ByteArray.mk #[]), .slice none 0 0] 24 (0, 0)) := by rw [hw2]; simpa using World.alloc_heap_new (w.alloc (.cells #[.int .i64 k, .int .i64 n, .string s, .slice a len cap] 24)) (.cells #[.int .i64 0, .int .i64 0, .string (ByteArray.mk #[]), .slice none 0 0] 24)
  have hsz2 : w2.heap.size = w.heap.size + 2 := by rw [hw2]; simp
  obtain ⟨x0, x1, x2, x3⟩ := tbox_cells hx1
  have hz := zeroTerm
  have HW := Lib.hid hw2
  clear hw2
  have hv2 : TmIn p w2 (.agg #[.int .i64 k, .int .i64 n, .string s, .slice a len cap]) T := hv.carry (fun c hc => hb2.block c (hp c hc)) (fun _ hc => hc)
  by_cases h4 : k = 4
  case neg =>
    have hk4 : (k != 4) = true := by simpa using h4
    have hnw : T.wrapsT = false := by
      cases hh : T.wrapsT with
      | true => exact absurd (ekT ▸ hg.wraps.1 hh) h4
      | false => rfl
    have HS : ∀ w', But w2 (w.heap.size + 1) w' → (w'.cell? ⟨w.heap.size, 0, none⟩ = some (.int .i64 k) ∧ w'.cell? ⟨w.heap.size, 1, none⟩ = some (.int .i64 n) ∧ w'.cell? ⟨w.heap.size, 2, none⟩ = some (.string s) ∧ w'.cell? ⟨w.heap.size, 3, none⟩ = some (.slice a len cap) ∧ But w2 (w.heap.size + 1) w') := fun w' h =>
      ⟨h.cell x0 (by omega) (by omega), h.cell x1 (by omega) (by omega), h.cell x2 (by omega) (by omega), h.cell x3 (by omega) (by omega), h⟩
    have hdr : Below w2.heap.size w2 w2.drew := (Below.refl _ _).drew
    have hcall : ∀ w6, But w2 (w.heap.size + 1) w6 → Below w2.heap.size w2 w6 → Calls Try.prog 19 #[.pointer (some ⟨b, 0, none⟩)] w6 fun e w7 => e = .returned (.int .i64 0) ∧ w7.cell? ⟨w.heap.size + 1, 0, none⟩ = some (.int .i64 0) ∧ w7.cell? ⟨w.heap.size + 1, 1, none⟩ = some (.int .i64 0) ∧ w7.cell? ⟨w.heap.size + 1, 2, none⟩ = some (.string (ByteArray.mk #[])) ∧ w7.cell? ⟨w.heap.size + 1, 3, none⟩ = some (.slice none 0 0) ∧ (∀ j, w7.frozen? ⟨w.heap.size + 1, j, none⟩ = false) ∧
        Hid (w7.heap[w.heap.size + 1]? = some (.cells #[.int .i64 0, .int .i64 0, .string (ByteArray.mk #[]), .slice none 0 0] 24 (0, 0)) ∧ Below w2.heap.size w2 w7) ∧ But w2 (w.heap.size + 1) w7 := fun w6 hbut h26 =>
      (ch_bottom ((hL.below hb2).below h26)).mono fun e w7 h7 => by
        obtain ⟨rfl, hb7⟩ := h7.below
        have hb27 := h26.trans (hb7.mono h26.size)
        have y2 := tbox_below hx2 hb27
        obtain ⟨z0, z1, z2, z3⟩ := tbox_cells y2
        exact ⟨rfl, z0, z1, z2, z3, (fun j => by simp [World.frozen?, y2]), ⟨y2, hb27⟩, But.of hb27⟩
    have HH := Lib.hid (And.intro hb2 (And.intro hsz2 (And.intro (show ∀ c, p c → c < w.heap.size from hp) (And.intro hv2 (openC_neg (N := N) hnw)))))
    clear hb2 hx1 hx2 hsz2 hv hv2 hL x0 x1 x2 x3 hp hg hs hnw
    obtain ⟨x0, -⟩ := HS w2 (But.of (Below.refl _ _))
    clear h4 ekT h1
    go_enter Try.func78, Try.ntmps78
    go_upto_region 1 with fail
    rw [← HW.out]
    go_upto_region 2 with fail
    clear x0
    go_region_held3 (fun w' => w'.cell? ⟨w.heap.size, 0, none⟩ = some (.int .i64 k) ∧ w'.cell? ⟨w.heap.size, 1, none⟩ = some (.int .i64 n) ∧ w'.cell? ⟨w.heap.size, 2, none⟩ = some (.string s) ∧ w'.cell? ⟨w.heap.size, 3, none⟩ = some (.slice a len cap) ∧ But w2 (w.heap.size + 1) w')
      (first
        | exact HS _ (But.of hdr)
        | exact HS _ hbut
        | exact HS _ ((((hbut.set 0 _).set 1 _).set 2 _).set 3 _))
      (first
        | (go_at_call 19; (with_reducible refine (hcall _ (But.of hdr) hdr).mono ?_); rintro e w7 ⟨rfl, z0, z1, z2, z3, zf, HY, hbut⟩))
    all_goals
      go_wp2_with fail
      obtain ⟨hb2, hsz2, hp, hv2, hO⟩ := HH.out
      obtain ⟨y2, hB27⟩ := HY.out
      have hB7 : Below w.heap.size w w7 := hb2.trans (hB27.mono hb2.size)
      obtain ⟨w8, hw8, hb8, hT8, hB8, hs8⟩ := boxed_new (w := w) (q := p) y2 (hv2.carry (q := p) (fun c hc => hB27.block c (by have := hp c hc; omega)) (fun _ hc => hc)) (fun c hc => by have := hp c hc; omega) (fun _ hc => hc) hB7 (Nat.le_succ _)
      rw [← hw8]
      obtain ⟨f0, f1, f2, f3⟩ := tbox_cells hb8
      refine bodyPost_ret (v := .tuple #[.agg #[.int .i64 k, .int .i64 n, .string s, .slice a len cap], .int .i64 0]) (by simp [results, Try.f78, go_sem, f0, f1, f2, f3]) rfl ?_
      refine ⟨_, _, _, _, _, _, by rw [hO]; rfl, ?_, hB8⟩
      rw [hO]
      exact hT8.carry (fun _ _ => rfl) (fun _ hc => .inl hc)
  subst h4
  have hwt : T.wrapsT = true := hg.wraps.2 ekT
  have hk : ∀ a, (T.strip Nat.max (lvC N) a).1.kind ≠ 4 := fun a => by
    rcases strip_gv hg h1 a with ⟨m, e⟩ | ⟨s', ks', e, _⟩ <;> rw [e]
    · exact k24
    · exact k34
  have hbs := bare_strip (L := 0) (N := N) T hk 0
  have hbw : T.bare.wrapsT = true := by
    obtain ⟨l, t, rfl⟩ := gv_wraps4 hg ekT
    rw [bare_wraps]; rfl
  have hO := openC_pos (N := N) hwt
  have hck := strip_ckids (N := N) T 0
  have hlv := strip_lt (N := N) hL.pos T 0 hL.pos
  have hN16 := hL.le
  have hcl := ckids_len T
  have hbz := bare_size T
  have hnm := tm_core (N := N) hv 0
  have hsp := split_at T _ w2 (fun c hc => Nat.lt_of_lt_of_le (hp c hc) hb2.size) hv2
  obtain ⟨⟨kC, nC, sC, ksC⟩, hC⟩ : ∃ C, (T.strip Nat.max (lvC N) 0).1 = C := ⟨_, rfl⟩
  obtain ⟨lev, hlev⟩ : ∃ l, (T.strip Nat.max (lvC N) 0).2 = l := ⟨_, rfl⟩
  rw [hC] at hbs hO hck hnm
  rw [hlev] at hbs hO hlv
  have hbs : T.bare.strip Nat.max (lvC N) 0 = (.mk kC nC sC [], lev) := hbs
  have hnm : i64ok kC ∧ i64ok nC ∧ sC.size ≤ maxLen := hnm
  have hck : ksC = T.ckids := hck
  have HG := Lib.hid (And.intro hb2 (And.intro hsz2 (And.intro hx2 (And.intro hp (And.intro hL (And.intro hO (And.intro hck (And.intro hbs (And.intro hbw (And.intro hbz hnm))))))))))
  have HI := Lib.hid (And.intro hlv (And.intro hN16 (And.intro hcl hs)))
  clear hb2 hsz2 hx1 hx2 hp hL hO hck hlv hN16 hcl hbz hbs hbw hnm hC hlev hk hwt hv hv2 hg h1 ekT hs
  go_enter Try.func78, Try.ntmps78
  go_upto_region 1 with fail
  rw [← HW.out]
  go_upto_region 4 with (go_at_call 87; refine hsp.mono ?_; clear hsp; rintro e w5 ⟨k5, n5, s5, a5, l5, c5, va, lv, cv, rfl, hT5, hK5, hB5⟩)
  have hB05 : Below w.heap.size w w5 := HG.out.1.trans (hB5.mono HG.out.1.size)
  obtain ⟨w6, hw6⟩ : ∃ w6, w6 = w5.alloc (.cells #[.int .i64 k5, .int .i64 n5, .string s5, .slice a5 l5 c5] 24) := ⟨_, rfl⟩
  have hB56 : Below w5.heap.size w5 w6 := by rw [hw6]; exact (Below.refl _ _).alloc (Nat.le_refl _) _
  have hx6 : w6.heap[w5.heap.size]? = some (.cells #[.int .i64 k5, .int .i64 n5, .string s5, .slice a5 l5 c5] 24 (0, 0)) := by rw [hw6]; exact World.alloc_heap_new _ _
  obtain ⟨q0, q1, q2, q3⟩ := tbox_cells hx6
  have hB06 : Below w.heap.size w w6 := hB05.trans (hB56.mono hB05.size)
  have hopen : Calls Try.prog 88 #[.pointer (some ⟨b, 0, none⟩), .agg #[.int .i64 k5, .int .i64 n5, .string s5, .slice a5 l5 c5]] w6 fun e w' => e = .returned (.tuple #[.agg #[.int .i64 kC, .int .i64 nC, .string sC, .slice none 0 0], .int .i64 (lev : Int)]) ∧ Below w6.heap.size w6 w' := by
    obtain ⟨_, _, _, _, hL, _, _, hbs, hbw, hbz, _⟩ := HG.out
    have h7 := open_bare_at (.agg #[.int .i64 k5, .int .i64 n5, .string s5, .slice a5 l5 c5]) T.bare w6 b N (hL.below hB06) (hT5.carry (fun c hc => hB56.block c hc.2) (fun c hc => Nat.lt_of_lt_of_le hc.2 hB56.size)) (by have := HI.out.2.2.2; omega) hbw (by rw [hbs]; rfl)
    rw [hbs] at h7
    exact h7
  have hK6 : TsIn p w6 (.slice va lv cv) T.ckids := hK5.carry (fun c hc => hB56.block c (Nat.lt_of_lt_of_le (HG.out.2.2.2.1 c hc) hB05.size)) (fun _ h => h)
  have hs25 : w.heap.size + 2 ≤ w6.heap.size := by have := hB5.size; have := HG.out.2.1; have := hB56.size; omega
  have hB26 : Below w2.heap.size w2 w6 := hB5.trans (hB56.mono hB5.size)
  have HK := Lib.hid (And.intro hB06 (And.intro hK6 (And.intro hw6 (And.intro hs25 hB26))))
  obtain ⟨a_, cap_, e, hlc, hcm, han, hx⟩ := hK5
  injection e with e1 e2 e3
  subst e1 e3
  obtain ⟨m, hm⟩ : ∃ m, m = T.ckids.length := ⟨_, rfl⟩
  rw [← hm] at e2 hlc
  subst e2
  obtain ⟨kb, ko, hva⟩ : ∃ kb ko, 0 < lv → va = some ⟨kb, ko, none⟩ := by
    by_cases h0 : 0 < lv
    · obtain ⟨b', o', k', n', s', a', l', c', e, _⟩ := hx 0 (by omega)
      exact ⟨b', o', fun _ => e⟩
    · exact ⟨0, 0, fun h => absurd h h0⟩
  have hlm : lv ≤ 1000000000 := by have := HI.out.2.2.1; have := HI.out.2.2.2; omega
  have hcm' : (cv : Int) ≤ 9223372036854775807 := by unfold maxLen at hcm; omega
  have HM := Lib.hid hm
  clear hB26 hB05 hT5 hB5 hB56 hx6 hw6 hB06 hK6 hs25 hx hm han hcm
  rw [← HK.out.2.2.1]
  go_upto_region 5 with (go_at_call 88; refine hopen.mono ?_; clear hopen; rintro e w7 ⟨rfl, hB7⟩)
  obtain ⟨w8, hw8⟩ : ∃ w8, w8 = w7.alloc (.cells #[.int .i64 kC, .int .i64 nC, .string sC, .slice none 0 0] 24) := ⟨_, rfl⟩
  have hB78 : Below w7.heap.size w7 w8 := by rw [hw8]; exact (Below.refl _ _).alloc (Nat.le_refl _) _
  have hx8 : w8.heap[w7.heap.size]? = some (.cells #[.int .i64 kC, .int .i64 nC, .string sC, .slice none 0 0] 24 (0, 0)) := by rw [hw8]; exact World.alloc_heap_new _ _
  have hs8 : w8.heap.size = w7.heap.size + 1 := by rw [hw8]; simp
  have hB07 : Below w.heap.size w w7 := HK.out.1.trans (hB7.mono HK.out.1.size)
  have hs27 : w.heap.size + 2 ≤ w7.heap.size := Nat.le_trans HK.out.2.2.2.1 hB7.size
  have hB27 : Below w2.heap.size w2 w7 := HK.out.2.2.2.2.trans (hB7.mono HK.out.2.2.2.2.size)
  have HX2 := Lib.hid hB27
  have HX := Lib.hid (And.intro hB07 (And.intro hB78 (And.intro hx8 (And.intro hs8 (And.intro hw8 hs27)))))
  rw [← hw8]
  clear hB27 q0 q1 q2 q3 hB7 hB78 hx8 hs8 hw8 hB07 hs27
  go_upto_region 6 with fail
  go_loopw [30] (fun i wr => ∃ c : Nat, i = .int .i64 c ∧ c ≤ lv ∧ ∃ v, wr.heap[w7.heap.size]? = some (.cells #[.int .i64 kC, .int .i64 nC, .string sC, v] 24 (0, 0)) ∧ wr.ownsRow (w7.heap.size + 1) 24 4 v (sealQ (lev : Int) kb ko c).length (flatQ (sealQ (lev : Int) kb ko c)) ∧ ButN w7.heap.size w8 wr) (fun i _ => lv - (intOf i).toNat)
  case atStart => exact ⟨0, rfl, Nat.zero_le _, _, HX.out.2.2.1, World.ownsRow_nil _ _ _ _, ButN.refl _ _⟩
  case round =>
    obtain ⟨c, rfl, hcl, rv, hbox, hrow, hbut⟩ := hrel
    obtain ⟨ra, rc, hrf⟩ := row_form hrow
    rw [sealQ_len] at hrf
    subst hrf
    have hsw : w7.heap.size + 1 ≤ wr.heap.size := by have := hbut.size; have := HX.out.2.2.2.1; omega
    obtain ⟨g0, g1, g2, g3⟩ := tbox_cells hbox
    have gf : ∀ j, wr.frozen? ⟨w7.heap.size, j, none⟩ = false := fun j => by simp [World.frozen?, hbox]
    by_cases hlt : c < lv
    · have hva' := hva (by omega)
      subst hva'
      have HR := Lib.hid (And.intro hbox (And.intro hrow (And.intro hbut (And.intro hsw hcl))))
      have HS : ∀ w', Below (w7.heap.size + 1) wr w' → w'.cell? ⟨w7.heap.size, 3, none⟩ = some (.slice ra c rc) := fun w' hb => (hb.cell (p := ⟨w7.heap.size, 3, none⟩) (Nat.lt_succ_self _)).trans g3
      have hw1 : IntKind.i64.wrap ((c : Int) + 1) = (c : Int) + 1 := by rw [IntKind.wrap_i64]; omega
      have hi1 : (c : Int) + 1 ≤ (cv : Int) := by omega
      have hi0 : (c : Int) ≤ (c : Int) + 1 := by omega
      have hi2 : (0 : Int) ≤ (c : Int) + 1 := by omega
      have hi3 : (c : Int) ≤ (cv : Int) := by omega
      clear hbox hrow hbut g0 g1 g2 g3 gf hcl
      go_upto_region 8 with fail
      refine wp_region_last (S := (fun w' => w'.cell? ⟨w7.heap.size, 3, none⟩ = some (.slice ra c rc))) 14 (by kernel_rfl) (by kernel_rfl) (HS _ (Below.refl _ _).drew) (fun hHeld => ?_)
      have hdr : Below wr.heap.size wr wr.drew := (Below.refl _ _).drew
      refine wpAnyH_take (i := 0) (v := ?_) rfl (by kernel_rfl) (by kernel_rfl) (by kernel_rfl) (fun _ _ _ h => h) (Or.inl ⟨by kernel_rfl, ?_⟩) hHeld ?_
      rotate_left
      · intro w0 hSw
        (try dsimp only at hSw)
        go_simp
        try (with_reducible rfl)
      try simp only [Act.put, List.setIfInBounds_toArray, List.set_cons_zero, List.set_cons_succ]
      refine wpAnyH_take (i := 1) (v := ?_) rfl (by kernel_rfl) (by kernel_rfl) (by kernel_rfl) (fun _ _ _ h => h) (Or.inl ⟨by kernel_rfl, ?_⟩) hHeld ?_
      rotate_left
      · intro w0 hSw
        (try dsimp only at hSw)
        go_simp
        try (with_reducible rfl)
      try simp only [Act.put, List.setIfInBounds_toArray, List.set_cons_zero, List.set_cons_succ]
      refine wpAnyH_take (i := 2) (v := ?_) rfl (by kernel_rfl) (by kernel_rfl) (by kernel_rfl) (fun _ _ _ h => h) (Or.inl ⟨by kernel_rfl, ?_⟩) hHeld ?_
      rotate_left
      · intro w0 hSw
        (try dsimp only at hSw)
        go_simp
        try (with_reducible rfl)
      try simp only [Act.put, List.setIfInBounds_toArray, List.set_cons_zero, List.set_cons_succ]
      refine wpAnyH_take (i := 3) (v := ?_) rfl (by kernel_rfl) (by kernel_rfl) (by kernel_rfl) (fun _ _ _ h => h) (Or.inl ⟨by kernel_rfl, ?_⟩) hHeld ?_
      rotate_left
      · intro w0 hSw
        (try dsimp only at hSw)
        go_simp
        try (with_reducible rfl)
      try simp only [Act.put, List.setIfInBounds_toArray, List.set_cons_zero, List.set_cons_succ]
      refine wpAnyH_take (i := 4) (v := ?_) rfl (by kernel_rfl) (by kernel_rfl) (by kernel_rfl) (fun _ _ _ h => h) (Or.inl ⟨by kernel_rfl, ?_⟩) hHeld ?_
      rotate_left
      · intro w0 hSw
        (try dsimp only at hSw)
        go_simp
        try (with_reducible rfl)
      try simp only [Act.put, List.setIfInBounds_toArray, List.set_cons_zero, List.set_cons_succ]
      refine wpAnyH_take (i := 5) (v := ?_) rfl (by kernel_rfl) (by kernel_rfl) (by kernel_rfl) (fun _ _ _ h => h) (Or.inl ⟨by kernel_rfl, ?_⟩) hHeld ?_
      rotate_left
      · intro w0 hSw
        (try dsimp only at hSw)
        go_simp
        try (with_reducible rfl)
      try simp only [Act.put, List.setIfInBounds_toArray, List.set_cons_zero, List.set_cons_succ]
      refine wpAnyH_take (i := 6) (v := ?_) rfl (by kernel_rfl) (by kernel_rfl) (by kernel_rfl) (fun _ _ _ h => h) (Or.inl ⟨by kernel_rfl, ?_⟩) hHeld ?_
      rotate_left
      · intro w0 hSw
        (try dsimp only at hSw)
        go_simp
        try (with_reducible rfl)
      try simp only [Act.put, List.setIfInBounds_toArray, List.set_cons_zero, List.set_cons_succ]
      refine wpAnyH_take (i := 7) (v := ?_) rfl (by kernel_rfl) (by kernel_rfl) (by kernel_rfl) (fun _ _ _ h => h) (Or.inl ⟨by kernel_rfl, ?_⟩) hHeld ?_
      rotate_left
      · intro w0 hSw
        (try dsimp only at hSw)
        go_simp
        try (with_reducible rfl)
      try simp only [Act.put, List.setIfInBounds_toArray, List.set_cons_zero, List.set_cons_succ]
      refine wpAnyH_take (i := 8) (v := ?_) rfl (by kernel_rfl) (by kernel_rfl) (by kernel_rfl) (fun _ _ _ h => h) (Or.inl ⟨by kernel_rfl, ?_⟩) hHeld ?_
      rotate_left
      · intro w0 hSw
        (try dsimp only at hSw)
        go_simp
        try (with_reducible rfl)
      try simp only [Act.put, List.setIfInBounds_toArray, List.set_cons_zero, List.set_cons_succ]
      have hE0 := hdr
      generalize wr.drew = wD at hHeld hdr hE0 ⊢
      refine wpAnyH_ready (rs := [9]) (by kernel_rfl) (by simp) ?_
      refine AllReadyH.cons rfl (fun K hK => ?_) AllReadyH.nil
      go_simp
      refine hK.out _ _ (HS _ (hE0.mono hsw)) (fun hh1 => ?_)
      clear hK K
      try simp only [Act.put, List.setIfInBounds_toArray, List.set_cons_zero, List.set_cons_succ]
      refine wpAnyH_take (i := 10) (v := ?_) rfl (by kernel_rfl) (by kernel_rfl) (by kernel_rfl) (fun _ _ _ h => h) (Or.inl ⟨by kernel_rfl, ?_⟩) hh1 ?_
      rotate_left
      · intro w0 hSw
        (try dsimp only at hSw)
        go_simp
        try (with_reducible rfl)
      try simp only [Act.put, List.setIfInBounds_toArray, List.set_cons_zero, List.set_cons_succ]
      refine wpAnyH_ready (rs := [11]) (by kernel_rfl) (by simp) ?_
      refine AllReadyH.cons rfl (fun K hK => ?_) AllReadyH.nil
      go_simp
      obtain ⟨W1, hW1⟩ : ∃ W, W = World.alloc wD (.cells #[.int .i64 4, .int .i64 (lev : Int), .string (ByteArray.mk #[]), .slice (some ⟨kb, ko + c * 4, none⟩) 1 1] 24) := ⟨_, rfl⟩
      have hA1 : Below wD.heap.size wD W1 := by rw [hW1]; exact (Below.refl _ _).alloc (Nat.le_refl _) _
      have hN1 : W1.heap[wD.heap.size]? = some (.cells #[.int .i64 4, .int .i64 (lev : Int), .string (ByteArray.mk #[]), .slice (some ⟨kb, ko + c * 4, none⟩) 1 1] 24 (0, 0)) := by rw [hW1]; exact World.alloc_heap_new _ _
      have hE1 : Below wr.heap.size wr W1 := hE0.trans (hA1.mono hE0.size)
      rw [← hW1]
      clear hW1
      refine hK.out _ _ (HS _ (hE1.mono hsw)) (fun hh2 => ?_)
      clear hK K
      try simp only [Act.put, List.setIfInBounds_toArray, List.set_cons_zero, List.set_cons_succ]
      have hrow1 : W1.ownsRow (w7.heap.size + 1) 24 4 (.slice ra c rc) (sealQ (lev : Int) kb ko c).length (flatQ (sealQ (lev : Int) kb ko c)) := row_later HR.out.2.1 fun b' hb' => hE1.block b' (World.ownsRow.lt HR.out.2.1 b' hb').2
      have hz1 : (sealQ (lev : Int) kb ko c).length + 1 ≤ 1000000000000 := by rw [sealQ_len]; omega
      refine wpAnyH_ready (rs := [12]) (by kernel_rfl) (by simp) ?_
      refine AllReadyH.cons rfl (fun K hK => ?_) AllReadyH.nil
      refine step_append_quad rfl (.tmp 34) (.tmp 44) rfl (w7.heap.size + 1) (.slice ra c rc) (sealQ (lev : Int) kb ko c) (4, (lev : Int), ByteArray.mk #[], .slice (some ⟨kb, ko + c * 4, none⟩) 1 1) wD.heap.size rfl rfl hrow1 hN1 rfl hz1 (Nat.le_trans hsw hE1.size) ?_
      intro v2 W2 hrow2 hg2 hat2
      have hlt1 := World.ownsRow.lt hrow1
      have hE2 : Below (w7.heap.size + 1) wr W2 := (hE1.mono hsw).grown hg2 (Nat.le_trans hsw hE1.size) (fun k' e' => (hlt1 k' e').1)
      have hE2b : ∀ b', b' < W1.heap.size → (Value.slice ra c rc).ownBlock ≠ some b' → W2.heap[b']? = W1.heap[b']? := fun b' hb' hne => hg2.block b' hb' (fun e => hne e.symm)
      obtain ⟨ra2, rc2, e2⟩ := row_form hrow2
      subst e2
      have hE2s : wr.heap.size ≤ W2.heap.size := Nat.le_trans hE1.size hg2.size
      rw [List.length_append, sealQ_len]
      refine hK.out _ _ (HS _ hE2) (fun hh3 => ?_)
      clear hK K
      try simp only [Act.put, List.setIfInBounds_toArray, List.set_cons_zero, List.set_cons_succ]
      refine wpAnyH_take (i := 13) (v := ?_) rfl (by kernel_rfl) (by kernel_rfl) (by kernel_rfl) (fun _ _ _ h => h) (Or.inl ⟨by kernel_rfl, ?_⟩) hh3 ?_
      rotate_left
      · intro w0 hSw
        (try dsimp only at hSw)
        go_simp
        try (with_reducible rfl)
      try simp only [Act.put, List.setIfInBounds_toArray, List.set_cons_zero, List.set_cons_succ]
      refine wpAnyH_done (by kernel_rfl) ?_ _
      refine last_of_list rfl ?_
      obtain ⟨hbox, hrow, hbut, hsw', hcl⟩ := HR.out
      have hbx2 : W2.heap[w7.heap.size]? = some (.cells #[.int .i64 kC, .int .i64 nC, .string sC, .slice ra c rc] 24 (0, 0)) := (hE2.block w7.heap.size (Nat.lt_succ_self _)).trans hbox
      obtain ⟨m0, m1, m2, m3⟩ := tbox_cells hbx2
      have mf : ∀ j, W2.frozen? ⟨w7.heap.size, j, none⟩ = false := fun j => by simp [World.frozen?, hbx2]
      have hz2 : Hid (∃ v, (W2.setCell ⟨w7.heap.size, 3, none⟩ (.slice ra2 (c + [((4 : Int), (lev : Int), ByteArray.mk #[], Value.slice (some ⟨kb, ko + c * 4, none⟩) 1 1)].length) rc2)).heap[w7.heap.size]? = some (.cells #[.int .i64 kC, .int .i64 nC, .string sC, v] 24 (0, 0)) ∧ (W2.setCell ⟨w7.heap.size, 3, none⟩ (.slice ra2 (c + [((4 : Int), (lev : Int), ByteArray.mk #[], Value.slice (some ⟨kb, ko + c * 4, none⟩) 1 1)].length) rc2)).ownsRow (w7.heap.size + 1) 24 4 v (sealQ (lev : Int) kb ko (c + 1)).length (flatQ (sealQ (lev : Int) kb ko (c + 1))) ∧ ButN w7.heap.size w8 (W2.setCell ⟨w7.heap.size, 3, none⟩ (.slice ra2 (c + [((4 : Int), (lev : Int), ByteArray.mk #[], Value.slice (some ⟨kb, ko + c * 4, none⟩) 1 1)].length) rc2))) := by
        refine ⟨_, set_block (o := 3) hbx2 _, ?_, ?_⟩
        · rw [List.length_append, sealQ_len] at hrow2
          rw [sealQ, List.length_append, sealQ_len]
          refine row_later hrow2 fun b' hb' => Below.heap_setCell _ _ _ _ ?_
          have := (World.ownsRow.lt hrow2 b' hb').1
          simp; omega
        · refine ButN.setAt ?_ 3 _
          exact ⟨hE2.os.trans hbut.os, hE2.tape.trans hbut.tape, hE2.output.trans hbut.output, Nat.le_trans hbut.size hE2s, fun k' hk' hne => (hE2.block k' (by have := HX.out.2.2.2.1; omega)).trans (hbut.same k' hk' hne)⟩
      clear hbx2 hrow2 hrow1 hE2 hE1 hE0 hdr hbox hrow hbut hN1 hA1 hg2 hat2 hlt1 hE2b m0 m1 m2 hz1
      go_wp2_with fail
      obtain ⟨vz, z1, z2, z3⟩ := hz2.out
      exact ⟨⟨c + 1, by simp, hlt, vz, z1, z2, z3⟩, by simp [intOf]; omega⟩
    · have hce : c = lv := by omega
      subst hce
      obtain ⟨hB07, hB78, hx8, hs8, hw8, hs27⟩ := HX.out
      have hB8 : Below w.heap.size w w8 := hB07.trans (hB78.mono hB07.size)
      have hBr : Below w.heap.size w wr := ⟨hbut.os.trans hB8.os, hbut.tape.trans hB8.tape, hbut.output.trans hB8.output, Nat.le_trans hB8.size hbut.size, fun k' hk' => (hbut.same k' (by omega) (by omega)).trans (hB8.block k' hk')⟩
      have hy2 : wr.heap[w.heap.size + 1]? = some (.cells #[.int .i64 0, .int .i64 0, .string (ByteArray.mk #[]), .slice none 0 0] 24 (0, 0)) :=
        (hbut.same _ (by omega) (by omega)).trans ((hB78.block _ (by omega)).trans (by
          exact (HX2.out.block _ (by have := HG.out.2.1; omega)).trans HG.out.2.2.1))
      have hKr : TsIn p wr (.slice va c cv) T.ckids := HK.out.2.1.carry (fun x hx => (hBr.block x (HG.out.2.2.2.1 x hx)).trans (HK.out.1.block x (HG.out.2.2.2.1 x hx)).symm) (fun _ h => h)
      have hTs : TsIn (fun x => p x ∨ (w.heap.size + 2 ≤ x ∧ x < wr.heap.size)) wr (.slice ra c rc) (T.ckids.map fun t => putT t (lev : Int)) := by
        by_cases h0 : 0 < c
        · have hva' := hva h0
          subst hva'
          have h9 := sealQ_ok lev (by have := HI.out.1; have := HI.out.2.1; omega) hKr c (by rw [← HM.out]; exact Nat.le_refl _)
          rw [List.take_of_length_le (by rw [← HM.out]; exact Nat.le_refl _)] at h9
          exact row_ts hrow (h9.carry (fun _ _ => rfl) (fun _ h => .inl h)) (fun k' hk' => .inr ⟨by have := (World.ownsRow.lt hrow k' hk').1; omega, (World.ownsRow.lt hrow k' hk').2⟩)
        · have hc0 : c = 0 := by omega
          subst hc0
          have : T.ckids = [] := List.eq_nil_of_length_eq_zero HM.out.symm
          rw [this]
          exact row_ts (qs := []) hrow ⟨rfl, fun i q t h => by simp at h⟩ (fun k' hk' => .inr ⟨by have := (World.ownsRow.lt hrow k' hk').1; omega, (World.ownsRow.lt hrow k' hk').2⟩)
      obtain ⟨w9, hw9, hb9, hT9, hB9, hs9⟩ := boxed_new (w := w) (p := fun x => p x ∨ (w.heap.size + 2 ≤ x ∧ x < wr.heap.size)) (q := fun x => p x ∨ (w.heap.size + 2 ≤ x ∧ x < wr.heap.size)) hy2 (hTs.term (k := kC) (n := nC) (s := sC) HG.out.2.2.2.2.2.2.2.2.2.2.1 HG.out.2.2.2.2.2.2.2.2.2.2.2.1 HG.out.2.2.2.2.2.2.2.2.2.2.2.2) (fun x hx => hx.elim (fun hx => by have := HG.out.2.2.2.1 x hx; omega) (fun hx => by omega)) (fun _ h => h) hBr (Nat.le_succ _)
      obtain ⟨y0, y1, y2, y3⟩ := tbox_cells hy2
      have yf : ∀ j, wr.frozen? ⟨w.heap.size + 1, j, none⟩ = false := fun j => by simp [World.frozen?, hy2]
      have HF := Lib.hid (And.intro hw9 (And.intro hb9 (And.intro hT9 (And.intro hB9 hs9))))
      have hlt' : ¬ ((c : Int) < (c : Int)) := by omega
      clear hw9 hb9 hT9 hB9 hs9 hTs hKr hy2 hBr hB8 hB07 hB78 hx8 hs8 hw8 hs27 hrow hbox hbut hsw hlt
      go_wp2_with fail
      rw [← HF.out.1]
      obtain ⟨f0, f1, f2, f3⟩ := tbox_cells HF.out.2.1
      refine bodyPost_ret (v := .tuple #[.agg #[.int .i64 kC, .int .i64 nC, .string sC, .slice ra c rc], .int .i64 (lev : Int)]) (by simp [results, Try.f78, go_sem, f0, f1, f2, f3]) rfl ?_
      obtain ⟨_, _, hT9, hB9, hs9⟩ := HF.out
      have hO := HG.out.2.2.2.2.2.1
      have hck := HG.out.2.2.2.2.2.2.1
      refine ⟨_, _, _, _, _, _, by rw [hO], ?_, hB9⟩
      rw [hO, show ((Tm.mk kC nC sC ksC).over' (lev : Int), lev).1 = .mk kC nC sC (ksC.map fun t => putT t (lev : Int)) from rfl, hck]
      exact hT9.carry (fun _ _ => rfl) (fun x hx => hx.imp id fun h => ⟨by omega, by rw [hs9]; exact h.2⟩)
end Go.Proofs.Ytfjnajngelemkaa
