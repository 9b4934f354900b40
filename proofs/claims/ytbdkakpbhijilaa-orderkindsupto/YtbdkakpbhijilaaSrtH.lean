/-
  Entries: terms beside what they are erased; the stable sort of at most 19 of them; slices.SortStableFunc.
-/
import Derived.Test.YtbdkakpbhijilaaSrtG
import Derived.Test.YtbdkakpbhijilaaSrtM
import Derived.Test.YtbdkakpbhijilaaOLaw0
namespace Go.Proofs.Ytbdkakpbhijilaa
open Go.Shelf Go.RowKit Go.Lib Go.Sort
set_option linter.unusedVariables false

/-- What the stable sort does, of n elements. -/
def StableSays (P : Program) {α : Type} [Inhabited α] (k : Nat) (enc : α → List Value) (cf : α → α → Int) (tg : α → Nat) (g : Nat) (cb : Array Value) (w0 : World) (blk off cap n : Nat) : Prop :=
  ∀ (d : Array α) (w : World), SWb enc k w0 blk off d w → d.size = n → (∀ p q, p < q → q < n → tg d[p]! < tg d[q]!) →
    Calls P 63 #[.slice (some ⟨blk, off, none⟩) n cap, .int .i64 n, .func (.func g) #[] cb] w fun e w' => e = .returned (.tuple #[]) ∧ ∃ d', SWb enc k w0 blk off d' w' ∧ PermIn 0 n d d' ∧ SortedIn (ltT cf tg) 0 n d'

section
variable {P : Program} {α : Type} [Inhabited α]
set_option maxHeartbeats 4000000 in
set_option maxRecDepth 1000000 in
theorem stable_small (k : Nat) (L : LO P k) (enc : α → List Value) (cf : α → α → Int) (tg : α → Nat) (hT : Tot cf) (g : Nat) (cb : Array Value) (w0 : World) (blk off cap n : Nat) (h20 : n < 20)
    (eg : ∀ args w, (callFunc g args).run P w = .ok (.enter g args) w) (R : RowB enc k w0 blk) (C : CmpB P g cb enc k cf w0 blk off n) : StableSays P k enc cf tg g cb w0 blk off cap n := by
  intro d w S hn ht
  have mixed := L.mixed; have t0 := L.t0; have a0 := L.a0; have z0 := L.z0; have v0 := L.v0; have t3 := L.t3; have a3 := L.a3; have z3 := L.z3; have v3 := L.v3; have t4 := L.t4; have a4 := L.a4; have z4 := L.z4; have v4 := L.v4; have t57 := L.t57; have a57 := L.a57; have z57 := L.z57; have v57 := L.v57; have t61 := L.t61; have a61 := L.a61; have z61 := L.z61; have v61 := L.v61; have aE := L.aE; have zE := L.zE
  have e73 : ∀ args w, (callFunc 73 args).run P w = .ok (.enter 73 args) w := enters_of L.f73 (by kernel_rfl) rfl
  subst hn
  have hc := insertion_at (P := P) k L enc cf g cb w0 blk off cap 0 d.size d w eg R C S (Nat.zero_le _) (Nat.le_refl _) (by omega)
  have hi := inserted hT d 0 d.size (Nat.zero_le _) (Nat.le_refl _) fun p q _ h2 h3 => ht p q h2 h3
  have HI := Lib.hid hi
  have hlz : ¬ (20 : Int) ≤ (d.size : Int) := by omega
  have hlz2 : ¬ (20 : Int) < (d.size : Int) := by omega
  clear S C ht hi
  go_enter L.f63, Try.ntmps63
  go_wp2
  refine wp_loop_rounds 1 ?_
  rw [rounds_succ]
  go_wp2_with (go_at_fn 73; refine hc.mono ?_; clear hc; rintro e w1 ⟨rfl, S1⟩)
  refine wp_loop_rounds 1 ?_
  rw [rounds_succ]
  go_wp2
  go_end0
  exact ⟨rfl, _, S1, HI.out.1, HI.out.2⟩

set_option maxHeartbeats 4000000 in
set_option maxRecDepth 1000000 in
theorem sortStable_at (k : Nat) (L : LO P k) (enc : α → List Value) (cf : α → α → Int) (tg : α → Nat) (g : Nat) (cb : Array Value) (w0 : World) (blk off cap n : Nat) (hS : StableSays P k enc cf tg g cb w0 blk off cap n) (hsz : n < 4611686018427387904)
    (d : Array α) (w : World) (S : SWb enc k w0 blk off d w) (hn : d.size = n) (ht : ∀ p q, p < q → q < n → tg d[p]! < tg d[q]!) :
    Calls P 35 #[.slice (some ⟨blk, off, none⟩) n cap, .func (.func g) #[] cb] w fun e w' => e = .returned (.tuple #[]) ∧ ∃ d', SWb enc k w0 blk off d' w' ∧ PermIn 0 n d d' ∧ SortedIn (ltT cf tg) 0 n d' := by
  have mixed := L.mixed; have t0 := L.t0; have a0 := L.a0; have z0 := L.z0; have v0 := L.v0; have t3 := L.t3; have a3 := L.a3; have z3 := L.z3; have v3 := L.v3; have t57 := L.t57; have a57 := L.a57; have z57 := L.z57; have v57 := L.v57; have t61 := L.t61; have a61 := L.a61; have z61 := L.z61; have v61 := L.v61
  have e63 : ∀ args w, (callFunc 63 args).run P w = .ok (.enter 63 args) w := enters_of L.f63 (by kernel_rfl) rfl
  have hc := hS d w S hn ht
  clear hS S ht
  go_enter L.f35, Try.ntmps35
  go_wp2_with (go_at_fn 63; refine hc.mono ?_; clear hc; rintro e w1 ⟨rfl, d1, S1, h1, h2⟩)
  go_end0
  exact ⟨rfl, d1, S1, h1, h2⟩
end

/-- An entry in memory: its eight cells, the term that was given, what it is erased, how many stood ahead of it. -/
structure Ent (w0 : World) (blk : Nat) where
  x : Q8
  T : Tm
  tag : Nat
  hT : TmIn (fun b => b ≠ blk ∧ b < w0.heap.size) w0 x.p.val T
  hE : TmIn (fun b => b ≠ blk ∧ b < w0.heap.size) w0 x.r.val T.er
  hs : T.size ≤ 1000000000000
def zeroTm : Tm := .mk 0 0 (ByteArray.mk #[]) []
theorem zeroTm_er : zeroTm.er = zeroTm := by unfold zeroTm; rw [Tm.er_else (fun e => absurd e.1 (by decide))]; rfl
theorem zeroTm_in (p : Nat → Prop) (w : World) : TmIn p w (.agg #[.int .i64 0, .int .i64 0, .string (ByteArray.mk #[]), .slice none 0 0]) zeroTm :=
  (noTs p w).term ⟨by decide, by decide⟩ ⟨by decide, by decide⟩ (Nat.zero_le _)
instance (w0 : World) (blk : Nat) : Inhabited (Ent w0 blk) := ⟨⟨⟨⟨0, 0, ByteArray.mk #[], none, 0, 0⟩, ⟨0, 0, ByteArray.mk #[], none, 0, 0⟩⟩, zeroTm, 0, zeroTm_in _ _, by rw [zeroTm_er]; exact zeroTm_in _ _, by unfold zeroTm; rw [Tm.size_mk, Tm.sizes_nil]; omega⟩⟩
def Ent.enc {w0 : World} {blk : Nat} (e : Ent w0 blk) : List Value := e.x.cells
def Ent.cf {w0 : World} {blk : Nat} (e f : Ent w0 blk) : Int := e.T.er.cmp f.T.er
theorem Ent.tot {w0 : World} {blk : Nat} : Tot (Ent.cf (w0 := w0) (blk := blk)) where
  neg x y := Tm.cmp_neg _ _
  v x y z := Tm.cmp_v _ _ _
  rng x y := Tm.cmp_rng _ _
theorem Ent.row {w0 : World} {blk : Nat} (h : blk < w0.heap.size) : RowB (Ent.enc (w0 := w0) (blk := blk)) 8 w0 blk := ⟨fun x => x.x.cells_length, fun x => x.x.cells_one, h⟩
theorem Ent.at {w0 W : World} {blk off : Nat} {d : Array (Ent w0 blk)} (S : SWb Ent.enc 8 w0 blk off d W) {v : Value} {T : Tm} (h : TmIn (fun b => b ≠ blk ∧ b < w0.heap.size) w0 v T) : Has W v T :=
  h.carry (fun b hb => S.keep b hb.2 hb.1) (fun b hb => Nat.lt_of_lt_of_le hb.2 S.size)
theorem Ent.cmp_says {w0 : World} {blk off n : Nat} : CmpB Try.prog 36 #[] (Ent.enc (w0 := w0) (blk := blk)) 8 Ent.cf w0 blk off n := fun W dk S _ x y =>
  entries_at x.x y.x x.T.er y.T.er W (Ent.at S x.hE) (Ent.at S y.hE) (Nat.le_trans (Tm.er_size _) x.hs) (Nat.le_trans (Tm.er_size _) y.hs)
def Ent.ef {w0 : World} {blk : Nat} (e f : Ent w0 blk) : Bool := decide (e.T.er.cmp f.T.er = 0)
theorem Ent.eq_says {w0 : World} {blk off n : Nat} : EqB Try.prog 38 #[] (Ent.enc (w0 := w0) (blk := blk)) 8 Ent.ef w0 blk off n := fun W dk S _ x y =>
  eqEntries_at x.x y.x x.T.er y.T.er W (Ent.at S x.hE) (Ent.at S y.hE) (Nat.le_trans (Tm.er_size _) x.hs) (Nat.le_trans (Tm.er_size _) y.hs)
theorem zeroEntry (w : World) : (zeroValue 59).run Try.prog w = .ok (.agg #[.int .i64 0, .int .i64 0, .string (ByteArray.mk #[]), .slice none 0 0, .int .i64 0, .int .i64 0, .string (ByteArray.mk #[]), .slice none 0 0]) w := by kernel_rfl
end Go.Proofs.Ytbdkakpbhijilaa
