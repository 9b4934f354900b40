/-
  arith's inspect: what a term is bound to, without the seals that it begins with.
-/
import Derived.Test.YtfjnajngelemkaaZArC
import Derived.Test.YtfjnajngelemkaaZStoNn3
import Derived.Deep.DeepCutAuto
import Derived.Deep.RegionWith
namespace Go.Proofs.Ytfjnajngelemkaa
open Go.RowKit Go.Shelf
open Classical
set_option linter.unusedVariables false
set_option linter.unusedSimpArgs false

/-- What an evaluation has at hand: a store and levels, in blocks below n₁; its own block behind. -/
structure EvSt (p : Nat → Prop) (n₀ n₁ : Nat) (w : World) (b lb N : Nat) (V L : Value) (σ : St) (rb : Nat) : Prop where
  st : StAt p n₀ w b V L σ
  ch : ChainAt w lb N
  sub : ∀ k, p k → k < n₁
  topb : b < n₁
  topl : lb < n₁
  topV : ∀ k, V.ownBlock = some k → k < n₁
  topL : ∀ k, L.ownBlock = some k → k < n₁
  le : n₁ ≤ rb
  lt : rb < w.heap.size
theorem EvSt.later {p : Nat → Prop} {n₀ n₁ : Nat} {w w' : World} {b lb N : Nat} {V L : Value} {σ : St} {rb : Nat} (h : EvSt p n₀ n₁ w b lb N V L σ rb) (k : ButN rb w w') : EvSt p n₀ n₁ w' b lb N V L σ rb :=
  ⟨h.st.belowN h.sub h.topb h.topV h.topL (k.below (by have := h.le; have := h.lt; omega) h.le), h.ch.same (k.same lb h.ch.lt (by have := h.le; have := h.topl; omega)) k.size, h.sub, h.topb, h.topl, h.topV, h.topL, h.le, Nat.lt_of_lt_of_le h.lt k.size⟩
/-- The block of an evaluation. -/
abbrev RunB (w : World) (b lb rb : Nat) (lv left : Nat) : Prop := w.heap[rb]? = some (.cells #[.pointer (some ⟨b, 0, none⟩), .pointer (some ⟨lb, 0, none⟩), .int .i64 (lv : Int), .int .i64 (2000 - (left : Int))] 102 (0, 0))
/-- A term beside that block. -/
abbrev Beside (w : World) (rb : Nat) (v : Value) (T : Tm) : Prop := TmIn (fun c => c < w.heap.size ∧ c ≠ rb) w v T
theorem Beside.later {w w' : World} {rb : Nat} {v : Value} {T : Tm} (h : Beside w rb v T) (k : ButN rb w w') : Beside w' rb v T := h.carry (fun c hc => k.same c hc.1 hc.2) fun c hc => ⟨Nat.lt_of_lt_of_le hc.1 k.size, hc.2⟩
theorem Beside.has {w : World} {rb : Nat} {v : Value} {T : Tm} (h : Beside w rb v T) : Has w v T := h.carry (fun _ _ => rfl) fun _ hc => hc.1
/-- What inspect answers. -/
def IPost (pT : Nat → Prop) (b lb rb N : Nat) (X : Tm) (lv left : Nat) (w : World) (e : Ending) (w' : World) : Prop :=
  ∃ k n s a l c, e = .returned (.agg #[.int .i64 k, .int .i64 n, .string s, .slice a l c]) ∧ TmIn (fun c => c < w'.heap.size ∧ c ≠ rb ∧ (pT c ∨ w.heap.size ≤ c)) w' (.agg #[.int .i64 k, .int .i64 n, .string s, .slice a l c]) (X.insp N).1 ∧ RunB w' b lb rb (max lv (X.insp N).2) left ∧ ButN rb w w'
theorem run_cells {W : World} {B : Nat} {c0 c1 c2 c3 : Value} {t : TypeId} (h : W.heap[B]? = some (.cells #[c0, c1, c2, c3] t (0, 0))) : W.cell? ⟨B, 0, none⟩ = some c0 ∧ W.cell? ⟨B, 1, none⟩ = some c1 ∧ W.cell? ⟨B, 2, none⟩ = some c2 ∧ W.cell? ⟨B, 3, none⟩ = some c3 ∧ ∀ j, W.frozen? ⟨B, j, none⟩ = false := by
  refine ⟨?_, ?_, ?_, ?_, fun j => ?_⟩ <;> simp [World.cell?, World.frozen?, h]
theorem ButN.four {rb : Nat} {w W : World} {B : Nat} {c0 c1 c2 c3 : Value} {t : TypeId} (h : ButN rb w W) (hB : w.heap.size ≤ B) (y : W.heap[B]? = some (.cells #[c0, c1, c2, c3] t (0, 0))) (v0 v1 v2 v3 : Value) :
    ∃ W5, W5 = (((W.setCell ⟨B, 0, none⟩ v0).setCell ⟨B, 1, none⟩ v1).setCell ⟨B, 2, none⟩ v2).setCell ⟨B, 3, none⟩ v3 ∧ W5.heap[B]? = some (.cells #[v0, v1, v2, v3] t (0, 0)) ∧ ButN rb w W5 ∧ (∀ k, k ≠ B → W5.heap[k]? = W.heap[k]?) ∧ W5.heap.size = W.heap.size := by
  refine ⟨_, rfl, four_block y v0 v1 v2 v3, (((h.setNew (a := ⟨B, 0, none⟩) hB v0).setNew (a := ⟨B, 1, none⟩) hB v1).setNew (a := ⟨B, 2, none⟩) hB v2).setNew (a := ⟨B, 3, none⟩) hB v3, fun k hk => ?_, by simp⟩
  rw [Below.heap_setCell _ _ _ _ (by simpa using hk), Below.heap_setCell _ _ _ _ (by simpa using hk), Below.heap_setCell _ _ _ _ (by simpa using hk), Below.heap_setCell _ _ _ _ (by simpa using hk)]

set_option maxRecDepth 100000 in
set_option maxHeartbeats 8000000 in
theorem inspect_at {p : Nat → Prop} {n₀ n₁ : Nat} {w : World} {b lb N : Nat} {V L : Value} {σ : St} {rb : Nat} (H : EvSt p n₀ n₁ w b lb N V L σ rb) {pT : Nat → Prop} (hpT : ∀ c, pT c → c < w.heap.size ∧ c ≠ rb) (v : Value) (T : Tm) (hv : TmIn pT w v T) (hs : T.size ≤ 2000000) (lv left : Nat) (hlv : lv < N) (hr : RunB w b lb rb lv left) :
    Calls Try.prog 82 #[.pointer (some ⟨rb, 0, none⟩), v] w (IPost pT b lb rb N (σ.fin T) lv left w) := by
  obtain ⟨k, n, s, a, len, cap, ks, rfl, e, -⟩ := hv.form
  have ekT : T.kind = k := by rw [e]; rfl
  clear e
  obtain ⟨w2, hw2⟩ : ∃ w2, w2 = (w.alloc (.cells #[.int .i64 k, .int .i64 n, .string s, .slice a len cap] 24)).alloc (.cells #[.int .i64 0, .int .i64 0, .string (ByteArray.mk #[]), .slice none 0 0] 24) := ⟨_, rfl⟩
  have hb2 : Below w.heap.size w w2 := by rw [hw2]; exact ((Below.refl _ w).alloc (Nat.le_refl _) _).alloc (by simp) _
  have hx1 : w2.heap[w.heap.size]? = some (.cells #[.int .i64 k, .int .i64 n, .string s, .slice a len cap] 24 (0, 0)) := by rw [hw2]; exact (Below.heap_alloc _ _ _ (by simp)).trans (World.alloc_heap_new _ _)
  have hx2 : w2.heap[w.heap.size + 1]? = some (.cells #[.int .i64 0, .int .i64 0, .string (ByteArray.mk #[]), .slice none 0 0] 24 (0, 0)) := by rw [hw2]; simpa using World.alloc_heap_new (w.alloc (.cells #[.int .i64 k, .int .i64 n, .string s, .slice a len cap] 24)) (.cells #[.int .i64 0, .int .i64 0, .string (ByteArray.mk #[]), .slice none 0 0] 24)
  have hsz2 : w2.heap.size = w.heap.size + 2 := by rw [hw2]; simp
  have hN2 : ButN rb w w2 := .of hb2
  have H2 := H.later hN2
  have hv2 : Beside w2 rb (.agg #[.int .i64 k, .int .i64 n, .string s, .slice a len cap]) T := Beside.later (hv.carry (fun _ _ => rfl) hpT) hN2
  have hlt := H.lt
  have hr2 : RunB w2 b lb rb lv left := (hb2.block rb hlt).trans hr
  have hz := zeroTerm
  obtain ⟨x0, x1, x2, x3⟩ := tbox_cells hx1
  have HW := Lib.hid hw2
  clear hw2
  by_cases h1 : k = 1
  · subst h1
    have hfs : (σ.fin T).size ≤ 1000000000000 := by have := fin_size H.st.ok T; omega
    have hfs' : (σ.fin T).size ≤ 1000000000 := by have := fin_size H.st.ok T; omega
    have hcall := walk_at (H2.st.below (Below.refl _ _).drew) (.agg #[.int .i64 1, .int .i64 n, .string s, .slice a len cap]) T (Has.below hv2.has (Below.refl _ _).drew) hfs
    obtain ⟨X, hXX⟩ : ∃ X, σ.fin T = X := ⟨_, rfl⟩
    rw [hXX] at hcall hfs' ⊢
    obtain ⟨c0, c1, c2, c3, cf⟩ := run_cells hr2
    have xf : ∀ j, w2.frozen? ⟨w.heap.size, j, none⟩ = false := fun j => by simp [World.frozen?, hx1]
    have HQ2 := Lib.hid (And.intro hx1 (And.intro hx2 (And.intro hsz2 (And.intro hb2 (And.intro hr2 (And.intro hlv (And.intro hfs' H)))))))
    clear hx1 hx2 hsz2 hb2 hr2 hlv hfs' H hr H2 hv2 hv hN2 hlt hXX hfs ekT hs
    go_enter Try.func82, Try.ntmps82
    go_upto_region 1 with fail
    rw [← HW.out]
    go_upto_region 2 with fail
    go_region_with (go_at_call 41; (with_reducible refine hcall.mono ?_); rintro e w5 ⟨r, rfl, hT5, hb5⟩; obtain ⟨kx, nx, sx, ax, lx, cx, ksx, rfl, eX, -⟩ := hT5.form; have hb5' := (Below.refl w2.heap.size w2).drew.trans hb5; obtain ⟨y0', y1', y2', y3'⟩ := tbox_cells (tbox_below HQ2.out.1 hb5'); have yf' : ∀ j, w5.frozen? ⟨w.heap.size, j, none⟩ = false := (fun j => by simp [World.frozen?, tbox_below HQ2.out.1 hb5']))
    all_goals
      obtain ⟨hx1, hx2, hsz2, hb2, hr2, hlv, hs, H⟩ := HQ2.out
      have hlt := H.lt
      have hs5 := hb5'.size
      have hd0 := (Below.refl 0 w2).drew.size
      obtain ⟨WX, hWX, hbx, hNX, hoX, hsX⟩ := ButN.four (ButN.of (hb2.trans (hb5'.mono hb2.size))) (Nat.le_refl _) (tbox_below hx1 hb5') (.int .i64 kx) (.int .i64 nx) (.string sx) (.slice ax lx cx)
      rw [← hWX]
      have hrX : RunB WX b lb rb lv left := (hoX rb (by omega)).trans ((hb5'.block rb (by omega)).trans hr2)
      have hyX : WX.heap[w.heap.size + 1]? = some (.cells #[.int .i64 0, .int .i64 0, .string (ByteArray.mk #[]), .slice none 0 0] 24 (0, 0)) := (hoX _ (by omega)).trans ((hb5'.block _ (by omega)).trans hx2)
      have hX : TmIn (fun c => c < WX.heap.size ∧ c ≠ rb ∧ c ≠ w.heap.size ∧ c ≠ w.heap.size + 1 ∧ (pT c ∨ w.heap.size ≤ c)) WX (.agg #[.int .i64 kx, .int .i64 nx, .string sx, .slice ax lx cx]) X := hT5.carry (fun c hc => hoX c (by have := hc.1; omega)) (fun c hc => by rw [hsX]; have := hc.1; exact ⟨hc.2, by omega, by omega, by omega, .inr (by omega)⟩)
      have HX := H.later hNX
      have ekX : X.kind = kx := by rw [eX]; rfl
      have hszX : w.heap.size + 2 ≤ WX.heap.size := by omega
      clear hx1 hx2 hsz2 hb2 hr2 hs5 hd0 hWX hoX hsX hb5' hb5 hT5 eX y0' y1' y2' y3' yf' HQ2 c0 c1 c2 c3 cf xf x0 x1 x2 x3 hcall
      go_upto_region 3 with fail
      by_cases h4 : kx = 4
      case neg =>
        have hk4 : (kx != 4) = true := by simpa using h4
        obtain ⟨w6, hw6, hb6, hB6, ho6, hs6⟩ := ButN.four hNX (Nat.le_succ _) hyX (.int .i64 kx) (.int .i64 nx) (.string sx) (.slice ax lx cx)
        have hX6 : TmIn (fun c => c < w6.heap.size ∧ c ≠ rb ∧ (pT c ∨ w.heap.size ≤ c)) w6 (.agg #[.int .i64 kx, .int .i64 nx, .string sx, .slice ax lx cx]) X := hX.carry (fun c hc => ho6 c hc.2.2.2.1) (fun c hc => ⟨by rw [hs6]; exact hc.1, hc.2.1, hc.2.2.2.2⟩)
        have hr6 : RunB w6 b lb rb lv left := (ho6 rb (by omega)).trans hrX
        have hin : X.insp N = (X, 0) := insp_neg (by rw [ekX]; exact h4)
        obtain ⟨y0, y1, y2, y3⟩ := tbox_cells hbx
        obtain ⟨z0, z1, z2, z3⟩ := tbox_cells hyX
        have zf : ∀ j, WX.frozen? ⟨w.heap.size + 1, j, none⟩ = false := fun j => by simp [World.frozen?, hyX]
        have HF := Lib.hid (And.intro hw6 (And.intro hb6 (And.intro hX6 (And.intro hr6 (And.intro hB6 hin)))))
        clear hw6 hb6 hX6 hr6 hB6 hin ho6 hs6 h4 hX hrX hNX hyX hbx HX ekX
        go_wp2_with fail
        rw [← HF.out.1]
        obtain ⟨f0, f1, f2, f3⟩ := tbox_cells HF.out.2.1
        refine bodyPost_ret (v := .agg #[.int .i64 kx, .int .i64 nx, .string sx, .slice ax lx cx]) (by simp [results, Try.f82, go_sem, f0, f1, f2, f3]) rfl ?_
        refine ⟨_, _, _, _, _, _, rfl, ?_, ?_, HF.out.2.2.2.2.1⟩
        · rw [HF.out.2.2.2.2.2]; exact HF.out.2.2.1
        · rw [HF.out.2.2.2.2.2, Nat.max_eq_left (Nat.zero_le _)]; exact HF.out.2.2.2.1
      subst h4
      obtain ⟨y0, y1, y2, y3⟩ := tbox_cells hbx
      have yf : ∀ j, WX.frozen? ⟨w.heap.size, j, none⟩ = false := fun j => by simp [World.frozen?, hbx]
      obtain ⟨c0, c1, c2, c3, cf⟩ := run_cells hrX
      have hopen := aopen_at (p := fun c => c < WX.heap.size ∧ c ≠ rb ∧ c ≠ w.heap.size ∧ c ≠ w.heap.size + 1 ∧ (pT c ∨ w.heap.size ≤ c)) N (.agg #[.int .i64 4, .int .i64 nx, .string sx, .slice ax lx cx]) X WX.drew lb (HX.ch.below (Below.refl _ _).drew) (fun c hc => Nat.lt_of_lt_of_le hc.1 (Below.refl 0 WX).drew.size) (hX.carry (fun c hc => (Below.refl WX.heap.size WX).drew.block c hc.1) (fun _ hc => hc)) ekX (by omega)
      have hin : X.insp N = (((X.strip Nat.max (lvC N) 0).1.over' (X.strip Nat.max (lvC N) 0).2), (X.strip Nat.max (lvC N) 0).2) := insp_pos ekX
      have hle := strip_lt (N := N) HX.ch.pos X 0 HX.ch.pos
      unfold InspP at hopen
      obtain ⟨C, hC⟩ : ∃ C, (X.strip Nat.max (lvC N) 0).1.over' (X.strip Nat.max (lvC N) 0).2 = C := ⟨_, rfl⟩
      rw [hC] at hin hopen
      obtain ⟨lev, hlev⟩ : ∃ l, (X.strip Nat.max (lvC N) 0).2 = l := ⟨_, rfl⟩
      rw [hlev] at hin hopen hle
      have HQ := Lib.hid (And.intro hbx (And.intro hX (And.intro hrX (And.intro hNX (And.intro hyX (And.intro hszX (And.intro hin (And.intro hle (And.intro hlv H)))))))))
      clear hbx hX hrX hNX hyX HX hlt hszX hin hle hC hlev hlv H
      go_upto_region 5 with fail
      go_region_with (go_at_call 92; (with_reducible refine hopen.mono ?_); rintro e w5 ⟨k5, n5, s5, a5, l5, c5, rfl, hT5, hb5⟩; have hb5' := (Below.refl WX.heap.size WX).drew.trans hb5; obtain ⟨y0', y1', y2', y3'⟩ := tbox_cells (tbox_below HQ.out.1 hb5'); have yf' : ∀ j, w5.frozen? ⟨w.heap.size, j, none⟩ = false := (fun j => by simp [World.frozen?, tbox_below HQ.out.1 hb5']))
      all_goals
        obtain ⟨hbx, hX, hrX, hNX, hyX, hszX, hin, hle, hlv, H⟩ := HQ.out
        have hlt := H.lt
        have hs5 := hb5'.size
        have hN5 : ButN rb w w5 := hNX.trans (.of hb5')
        obtain ⟨w6, hw6, hb6, hN6, ho6, hs6⟩ := ButN.four hN5 (Nat.le_refl _) (tbox_below hbx hb5') (.int .i64 k5) (.int .i64 n5) (.string s5) (.slice a5 l5 c5)
        rw [← hw6]
        have hr6 : RunB w6 b lb rb lv left := (ho6 rb (by omega)).trans ((hb5'.block rb (by omega)).trans hrX)
        have H6 := H.later hN6
        have hC6 : TmIn (fun c => c < w6.heap.size ∧ c ≠ rb ∧ c ≠ w.heap.size ∧ c ≠ w.heap.size + 1 ∧ (pT c ∨ w.heap.size ≤ c)) w6 (.agg #[.int .i64 k5, .int .i64 n5, .string s5, .slice a5 l5 c5]) C := hT5.carry (fun c hc => ho6 c (by rcases hc with hc | hc; exact hc.2.2.1; have := (Below.refl 0 WX).drew.size; omega)) (fun c hc => by rw [hs6]; rcases hc with hc | hc; exact ⟨by omega, hc.2⟩; have := (Below.refl 0 WX).drew.size; exact ⟨hc.2, by omega, by omega, by omega, .inr (by omega)⟩)
        have hy6 : w6.heap[w.heap.size + 1]? = some (.cells #[.int .i64 0, .int .i64 0, .string (ByteArray.mk #[]), .slice none 0 0] 24 (0, 0)) := (ho6 _ (by omega)).trans ((hb5'.block _ (by omega)).trans hyX)
        have hjoin := (ch_join (H6.ch.below (Below.refl _ _).drew) (x := lv) (y := lev) hlv hle).mono (R' := fun e w7 => e = .returned (.int .i64 (max lv lev : Nat)) ∧ (∀ j, w7.frozen? ⟨rb, j, none⟩ = false) ∧ (w7.cell? ⟨rb, 2, none⟩ = some (.int .i64 (lv : Int))) ∧ Hid (Below w6.heap.size w6 w7)) (fun e w7 h => by
          obtain ⟨h1, h2⟩ := h.below
          have h3 := (Below.refl w6.heap.size w6).drew.trans h2
          obtain ⟨q0, q1, q2, q3, qf⟩ := run_cells ((h3.block rb (by omega)).trans hr6)
          exact ⟨h1, qf, q2, h3⟩)
        obtain ⟨q0, q1, q2, q3, qf⟩ := run_cells hr6
        have HR := Lib.hid (And.intro hr6 (And.intro hC6 (And.intro hy6 (And.intro hb6 (And.intro hN6 (And.intro hin hlt))))))
        clear hbx hX hrX hNX hyX hszX hin hle hlv H hlt hs5 hN5 hw6 hb6 hN6 ho6 hs6 hr6 H6 hC6 hy6 hT5 hb5 hb5' y0' y1' y2' y3' yf' hopen y0 y1 y2 y3 yf c0 c1 c2 c3 cf
        go_upto_region 6 with fail
        go_region_with (go_at_call 61; (with_reducible refine hjoin.mono ?_); rintro e w7 ⟨rfl, qf', q2', hb7⟩)
        all_goals
          have hr8 := set_block (o := 2) ((hb7.out.block rb (by have := HR.out.2.2.2.2.1.size; have := HR.out.2.2.2.2.2.2; omega)).trans HR.out.1) (.int .i64 (max lv lev : Nat))
          have hr8 : RunB (w7.setCell ⟨rb, 2, none⟩ (.int .i64 (max lv lev : Nat))) b lb rb (max lv lev) left := hr8
          have hN8 : ButN rb w (w7.setCell ⟨rb, 2, none⟩ (.int .i64 (max lv lev : Nat))) := (HR.out.2.2.2.2.1.trans (.of hb7.out)).setAt 2 _
          have ho8 : ∀ k, k < w6.heap.size → k ≠ rb → (w7.setCell ⟨rb, 2, none⟩ (.int .i64 (max lv lev : Nat))).heap[k]? = w6.heap[k]? := fun k hk hne => (Below.heap_setCell w7 ⟨rb, 2, none⟩ _ k hne).trans (hb7.out.block k hk)
          have hs8 : w6.heap.size ≤ (w7.setCell ⟨rb, 2, none⟩ (.int .i64 (max lv lev : Nat))).heap.size := by simpa using hb7.out.size
          generalize w7.setCell ⟨rb, 2, none⟩ (.int .i64 (max lv lev : Nat)) = w8 at hr8 hN8 ho8 hs8 ⊢
          obtain ⟨hr6, hC6, hy6, hb6, hN6, hin, hlt⟩ := HR.out
          have hs6 := hN6.size
          have hl6 := (Array.getElem?_eq_some_iff.1 hy6).1
          have hb8 := (ho8 w.heap.size (by omega) (by omega)).trans hb6
          have hy8 := (ho8 (w.heap.size + 1) (by omega) (by omega)).trans hy6
          have hC8 : TmIn (fun c => c < w8.heap.size ∧ c ≠ rb ∧ c ≠ w.heap.size ∧ c ≠ w.heap.size + 1 ∧ (pT c ∨ w.heap.size ≤ c)) w8 (.agg #[.int .i64 k5, .int .i64 n5, .string s5, .slice a5 l5 c5]) C := hC6.carry (fun c hc => ho8 c hc.1 hc.2.1) (fun c hc => ⟨Nat.lt_of_lt_of_le hc.1 hs8, hc.2⟩)
          obtain ⟨w9, hw9, hb9, hN9, ho9, hs9⟩ := ButN.four hN8 (Nat.le_succ _) hy8 (.int .i64 k5) (.int .i64 n5) (.string s5) (.slice a5 l5 c5)
          have hC9 : TmIn (fun c => c < w9.heap.size ∧ c ≠ rb ∧ (pT c ∨ w.heap.size ≤ c)) w9 (.agg #[.int .i64 k5, .int .i64 n5, .string s5, .slice a5 l5 c5]) C := hC8.carry (fun c hc => ho9 c hc.2.2.2.1) (fun c hc => ⟨by rw [hs9]; exact hc.1, hc.2.1, hc.2.2.2.2⟩)
          have hr9 : RunB w9 b lb rb (max lv lev) left := (ho9 rb (by omega)).trans hr8
          obtain ⟨y0, y1, y2, y3⟩ := tbox_cells hb8
          obtain ⟨z0, z1, z2, z3⟩ := tbox_cells hy8
          have zf : ∀ j, w8.frozen? ⟨w.heap.size + 1, j, none⟩ = false := fun j => by simp [World.frozen?, hy8]
          have HF := Lib.hid (And.intro hw9 (And.intro hb9 (And.intro hC9 (And.intro hr9 (And.intro hN9 hin)))))
          clear hr8 hN8 ho8 hs8 hr6 hC6 hy6 hb6 hN6 hin hlt hs6 hl6 hb8 hy8 hC8 hw9 hb9 hC9 hr9 hN9 ho9 hs9 HR hb7 qf q0 q1 q2 q3 hjoin
          go_wp2_with fail
          rw [← HF.out.1]
          obtain ⟨f0, f1, f2, f3⟩ := tbox_cells HF.out.2.1
          refine bodyPost_ret (v := .agg #[.int .i64 k5, .int .i64 n5, .string s5, .slice a5 l5 c5]) (by simp [results, Try.f82, go_sem, f0, f1, f2, f3]) rfl ?_
          refine ⟨_, _, _, _, _, _, rfl, ?_, ?_, HF.out.2.2.2.2.1⟩
          · rw [HF.out.2.2.2.2.2]; exact HF.out.2.2.1
          · rw [HF.out.2.2.2.2.2]; exact HF.out.2.2.2.1
  · have hk1 : (k == 1) = false := by simpa using h1
    have hfin : σ.fin T = T := fin_non (by rw [ekT]; exact h1)
    rw [hfin]
    have hX : TmIn (fun c => c < w2.heap.size ∧ c ≠ rb ∧ c ≠ w.heap.size ∧ c ≠ w.heap.size + 1 ∧ (pT c ∨ w.heap.size ≤ c)) w2 (.agg #[.int .i64 k, .int .i64 n, .string s, .slice a len cap]) T := hv.carry (fun c hc => hN2.same c (hpT c hc).1 (hpT c hc).2) (fun c hc => by have := hpT c hc; exact ⟨by omega, this.2, by omega, by omega, .inl hc⟩)
    have hbx := hx1
    have hyX := hx2
    have hrX := hr2
    have hNX := hN2
    have HX := H2
    have ekX := ekT
    have hszX : w.heap.size + 2 ≤ w2.heap.size := by omega
    clear hx1 hx2 hr2 hN2 H2 ekT hv hv2 hr hb2 hfin hsz2
    obtain ⟨kx, hkx⟩ : ∃ kx, kx = k := ⟨_, rfl⟩
    obtain ⟨nx, hnx⟩ : ∃ nx, nx = n := ⟨_, rfl⟩
    obtain ⟨sx, hsx⟩ : ∃ sx, sx = s := ⟨_, rfl⟩
    subst hkx hnx hsx
    obtain ⟨ax, hax⟩ : ∃ ax, ax = a := ⟨_, rfl⟩
    obtain ⟨lx, hlx⟩ : ∃ lx, lx = len := ⟨_, rfl⟩
    obtain ⟨cx, hcx⟩ : ∃ cx, cx = cap := ⟨_, rfl⟩
    subst hax hlx hcx
    go_enter Try.func82, Try.ntmps82
    go_upto_region 1 with fail
    rw [← HW.out]
    go_upto_region 3 with fail
    clear x0 x1 x2 x3
    generalize T = X at *
    generalize w2 = WX at *
    by_cases h4 : kx = 4
    case neg =>
      have hk4 : (kx != 4) = true := by simpa using h4
      obtain ⟨w6, hw6, hb6, hB6, ho6, hs6⟩ := ButN.four hNX (Nat.le_succ _) hyX (.int .i64 kx) (.int .i64 nx) (.string sx) (.slice ax lx cx)
      have hX6 : TmIn (fun c => c < w6.heap.size ∧ c ≠ rb ∧ (pT c ∨ w.heap.size ≤ c)) w6 (.agg #[.int .i64 kx, .int .i64 nx, .string sx, .slice ax lx cx]) X := hX.carry (fun c hc => ho6 c hc.2.2.2.1) (fun c hc => ⟨by rw [hs6]; exact hc.1, hc.2.1, hc.2.2.2.2⟩)
      have hr6 : RunB w6 b lb rb lv left := (ho6 rb (by omega)).trans hrX
      have hin : X.insp N = (X, 0) := insp_neg (by rw [ekX]; exact h4)
      obtain ⟨y0, y1, y2, y3⟩ := tbox_cells hbx
      obtain ⟨z0, z1, z2, z3⟩ := tbox_cells hyX
      have zf : ∀ j, WX.frozen? ⟨w.heap.size + 1, j, none⟩ = false := fun j => by simp [World.frozen?, hyX]
      have HF := Lib.hid (And.intro hw6 (And.intro hb6 (And.intro hX6 (And.intro hr6 (And.intro hB6 hin)))))
      clear hw6 hb6 hX6 hr6 hB6 hin ho6 hs6 h4 hX hrX hNX hyX hbx HX ekX
      go_wp2_with fail
      rw [← HF.out.1]
      obtain ⟨f0, f1, f2, f3⟩ := tbox_cells HF.out.2.1
      refine bodyPost_ret (v := .agg #[.int .i64 kx, .int .i64 nx, .string sx, .slice ax lx cx]) (by simp [results, Try.f82, go_sem, f0, f1, f2, f3]) rfl ?_
      refine ⟨_, _, _, _, _, _, rfl, ?_, ?_, HF.out.2.2.2.2.1⟩
      · rw [HF.out.2.2.2.2.2]; exact HF.out.2.2.1
      · rw [HF.out.2.2.2.2.2, Nat.max_eq_left (Nat.zero_le _)]; exact HF.out.2.2.2.1
    subst h4
    obtain ⟨y0, y1, y2, y3⟩ := tbox_cells hbx
    have yf : ∀ j, WX.frozen? ⟨w.heap.size, j, none⟩ = false := fun j => by simp [World.frozen?, hbx]
    obtain ⟨c0, c1, c2, c3, cf⟩ := run_cells hrX
    have hopen := aopen_at (p := fun c => c < WX.heap.size ∧ c ≠ rb ∧ c ≠ w.heap.size ∧ c ≠ w.heap.size + 1 ∧ (pT c ∨ w.heap.size ≤ c)) N (.agg #[.int .i64 4, .int .i64 nx, .string sx, .slice ax lx cx]) X WX.drew lb (HX.ch.below (Below.refl _ _).drew) (fun c hc => Nat.lt_of_lt_of_le hc.1 (Below.refl 0 WX).drew.size) (hX.carry (fun c hc => (Below.refl WX.heap.size WX).drew.block c hc.1) (fun _ hc => hc)) ekX (by omega)
    have hin : X.insp N = (((X.strip Nat.max (lvC N) 0).1.over' (X.strip Nat.max (lvC N) 0).2), (X.strip Nat.max (lvC N) 0).2) := insp_pos ekX
    have hle := strip_lt (N := N) HX.ch.pos X 0 HX.ch.pos
    unfold InspP at hopen
    obtain ⟨C, hC⟩ : ∃ C, (X.strip Nat.max (lvC N) 0).1.over' (X.strip Nat.max (lvC N) 0).2 = C := ⟨_, rfl⟩
    rw [hC] at hin hopen
    obtain ⟨lev, hlev⟩ : ∃ l, (X.strip Nat.max (lvC N) 0).2 = l := ⟨_, rfl⟩
    rw [hlev] at hin hopen hle
    have HQ := Lib.hid (And.intro hbx (And.intro hX (And.intro hrX (And.intro hNX (And.intro hyX (And.intro hszX (And.intro hin (And.intro hle (And.intro hlv H)))))))))
    clear hbx hX hrX hNX hyX HX hlt hszX hin hle hC hlev hlv H
    go_upto_region 5 with fail
    go_region_with (go_at_call 92; (with_reducible refine hopen.mono ?_); rintro e w5 ⟨k5, n5, s5, a5, l5, c5, rfl, hT5, hb5⟩; have hb5' := (Below.refl WX.heap.size WX).drew.trans hb5; obtain ⟨y0', y1', y2', y3'⟩ := tbox_cells (tbox_below HQ.out.1 hb5'); have yf' : ∀ j, w5.frozen? ⟨w.heap.size, j, none⟩ = false := (fun j => by simp [World.frozen?, tbox_below HQ.out.1 hb5']))
    all_goals
      obtain ⟨hbx, hX, hrX, hNX, hyX, hszX, hin, hle, hlv, H⟩ := HQ.out
      have hlt := H.lt
      have hs5 := hb5'.size
      have hN5 : ButN rb w w5 := hNX.trans (.of hb5')
      obtain ⟨w6, hw6, hb6, hN6, ho6, hs6⟩ := ButN.four hN5 (Nat.le_refl _) (tbox_below hbx hb5') (.int .i64 k5) (.int .i64 n5) (.string s5) (.slice a5 l5 c5)
      rw [← hw6]
      have hr6 : RunB w6 b lb rb lv left := (ho6 rb (by omega)).trans ((hb5'.block rb (by omega)).trans hrX)
      have H6 := H.later hN6
      have hC6 : TmIn (fun c => c < w6.heap.size ∧ c ≠ rb ∧ c ≠ w.heap.size ∧ c ≠ w.heap.size + 1 ∧ (pT c ∨ w.heap.size ≤ c)) w6 (.agg #[.int .i64 k5, .int .i64 n5, .string s5, .slice a5 l5 c5]) C := hT5.carry (fun c hc => ho6 c (by rcases hc with hc | hc; exact hc.2.2.1; have := (Below.refl 0 WX).drew.size; omega)) (fun c hc => by rw [hs6]; rcases hc with hc | hc; exact ⟨by omega, hc.2⟩; have := (Below.refl 0 WX).drew.size; exact ⟨hc.2, by omega, by omega, by omega, .inr (by omega)⟩)
      have hy6 : w6.heap[w.heap.size + 1]? = some (.cells #[.int .i64 0, .int .i64 0, .string (ByteArray.mk #[]), .slice none 0 0] 24 (0, 0)) := (ho6 _ (by omega)).trans ((hb5'.block _ (by omega)).trans hyX)
      have hjoin := (ch_join (H6.ch.below (Below.refl _ _).drew) (x := lv) (y := lev) hlv hle).mono (R' := fun e w7 => e = .returned (.int .i64 (max lv lev : Nat)) ∧ (∀ j, w7.frozen? ⟨rb, j, none⟩ = false) ∧ (w7.cell? ⟨rb, 2, none⟩ = some (.int .i64 (lv : Int))) ∧ Hid (Below w6.heap.size w6 w7)) (fun e w7 h => by
        obtain ⟨h1, h2⟩ := h.below
        have h3 := (Below.refl w6.heap.size w6).drew.trans h2
        obtain ⟨q0, q1, q2, q3, qf⟩ := run_cells ((h3.block rb (by omega)).trans hr6)
        exact ⟨h1, qf, q2, h3⟩)
      obtain ⟨q0, q1, q2, q3, qf⟩ := run_cells hr6
      have HR := Lib.hid (And.intro hr6 (And.intro hC6 (And.intro hy6 (And.intro hb6 (And.intro hN6 (And.intro hin hlt))))))
      clear hbx hX hrX hNX hyX hszX hin hle hlv H hlt hs5 hN5 hw6 hb6 hN6 ho6 hs6 hr6 H6 hC6 hy6 hT5 hb5 hb5' y0' y1' y2' y3' yf' hopen y0 y1 y2 y3 yf c0 c1 c2 c3 cf
      go_upto_region 6 with fail
      go_region_with (go_at_call 61; (with_reducible refine hjoin.mono ?_); rintro e w7 ⟨rfl, qf', q2', hb7⟩)
      all_goals
        have hr8 := set_block (o := 2) ((hb7.out.block rb (by have := HR.out.2.2.2.2.1.size; have := HR.out.2.2.2.2.2.2; omega)).trans HR.out.1) (.int .i64 (max lv lev : Nat))
        have hr8 : RunB (w7.setCell ⟨rb, 2, none⟩ (.int .i64 (max lv lev : Nat))) b lb rb (max lv lev) left := hr8
        have hN8 : ButN rb w (w7.setCell ⟨rb, 2, none⟩ (.int .i64 (max lv lev : Nat))) := (HR.out.2.2.2.2.1.trans (.of hb7.out)).setAt 2 _
        have ho8 : ∀ k, k < w6.heap.size → k ≠ rb → (w7.setCell ⟨rb, 2, none⟩ (.int .i64 (max lv lev : Nat))).heap[k]? = w6.heap[k]? := fun k hk hne => (Below.heap_setCell w7 ⟨rb, 2, none⟩ _ k hne).trans (hb7.out.block k hk)
        have hs8 : w6.heap.size ≤ (w7.setCell ⟨rb, 2, none⟩ (.int .i64 (max lv lev : Nat))).heap.size := by simpa using hb7.out.size
        generalize w7.setCell ⟨rb, 2, none⟩ (.int .i64 (max lv lev : Nat)) = w8 at hr8 hN8 ho8 hs8 ⊢
        obtain ⟨hr6, hC6, hy6, hb6, hN6, hin, hlt⟩ := HR.out
        have hs6 := hN6.size
        have hl6 := (Array.getElem?_eq_some_iff.1 hy6).1
        have hb8 := (ho8 w.heap.size (by omega) (by omega)).trans hb6
        have hy8 := (ho8 (w.heap.size + 1) (by omega) (by omega)).trans hy6
        have hC8 : TmIn (fun c => c < w8.heap.size ∧ c ≠ rb ∧ c ≠ w.heap.size ∧ c ≠ w.heap.size + 1 ∧ (pT c ∨ w.heap.size ≤ c)) w8 (.agg #[.int .i64 k5, .int .i64 n5, .string s5, .slice a5 l5 c5]) C := hC6.carry (fun c hc => ho8 c hc.1 hc.2.1) (fun c hc => ⟨Nat.lt_of_lt_of_le hc.1 hs8, hc.2⟩)
        obtain ⟨w9, hw9, hb9, hN9, ho9, hs9⟩ := ButN.four hN8 (Nat.le_succ _) hy8 (.int .i64 k5) (.int .i64 n5) (.string s5) (.slice a5 l5 c5)
        have hC9 : TmIn (fun c => c < w9.heap.size ∧ c ≠ rb ∧ (pT c ∨ w.heap.size ≤ c)) w9 (.agg #[.int .i64 k5, .int .i64 n5, .string s5, .slice a5 l5 c5]) C := hC8.carry (fun c hc => ho9 c hc.2.2.2.1) (fun c hc => ⟨by rw [hs9]; exact hc.1, hc.2.1, hc.2.2.2.2⟩)
        have hr9 : RunB w9 b lb rb (max lv lev) left := (ho9 rb (by omega)).trans hr8
        obtain ⟨y0, y1, y2, y3⟩ := tbox_cells hb8
        obtain ⟨z0, z1, z2, z3⟩ := tbox_cells hy8
        have zf : ∀ j, w8.frozen? ⟨w.heap.size + 1, j, none⟩ = false := fun j => by simp [World.frozen?, hy8]
        have HF := Lib.hid (And.intro hw9 (And.intro hb9 (And.intro hC9 (And.intro hr9 (And.intro hN9 hin)))))
        clear hr8 hN8 ho8 hs8 hr6 hC6 hy6 hb6 hN6 hin hlt hs6 hl6 hb8 hy8 hC8 hw9 hb9 hC9 hr9 hN9 ho9 hs9 HR hb7 qf q0 q1 q2 q3 hjoin
        go_wp2_with fail
        rw [← HF.out.1]
        obtain ⟨f0, f1, f2, f3⟩ := tbox_cells HF.out.2.1
        refine bodyPost_ret (v := .agg #[.int .i64 k5, .int .i64 n5, .string s5, .slice a5 l5 c5]) (by simp [results, Try.f82, go_sem, f0, f1, f2, f3]) rfl ?_
        refine ⟨_, _, _, _, _, _, rfl, ?_, ?_, HF.out.2.2.2.2.1⟩
        · rw [HF.out.2.2.2.2.2]; exact HF.out.2.2.1
        · rw [HF.out.2.2.2.2.2]; exact HF.out.2.2.2.1
end Go.Proofs.Ytfjnajngelemkaa
