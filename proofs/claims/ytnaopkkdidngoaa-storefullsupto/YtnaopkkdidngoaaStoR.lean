/-
  What Full answers, in one form; what a law keeps while a store turns.
-/
import Derived.Test.YtnaopkkdidngoaaStoQ
namespace Go.Proofs.Ytnaopkkdidngoaa
open Go.RowKit Go.Shelf
set_option linter.unusedVariables false
set_option linter.unusedSimpArgs false

def FR.tm : FR → Tm | .bad _ => .mk 0 0 (ByteArray.mk #[]) [] | .ok u _ => u
def FR.err : FR → Int | .bad x => x | .ok _ _ => 0
theorem full_any {n₀ : Nat} {w : World} {b : Nat} {V L : Value} {σ : St} (h : StAt (Oth w b V L) n₀ w b V L σ) (v : Value) (T : Tm) (hv : Has w v T) :
    Calls Try.prog 14 #[.pointer (some ⟨b, 0, none⟩), v] w fun e w' => ∃ k n s a l c, e = .returned (.tuple #[.agg #[.int .i64 k, .int .i64 n, .string s, .slice a l c], .int .i64 (σ.fill 60 1000 T).err]) ∧
      TmIn (fun c => w.heap.size ≤ c ∧ c < w'.heap.size) w' (.agg #[.int .i64 k, .int .i64 n, .string s, .slice a l c]) (σ.fill 60 1000 T).tm ∧ Below w.heap.size w w' := by
  refine (full_at h v T hv).mono ?_
  rintro e w' ⟨hB, hm⟩
  cases hr : σ.fill 60 1000 T with
  | bad x =>
    rw [hr] at hm
    exact ⟨_, _, _, _, _, _, hm, (noTs _ _).term ⟨by decide, by decide⟩ ⟨by decide, by decide⟩ (Nat.zero_le _), hB⟩
  | ok u l =>
    rw [hr] at hm
    obtain ⟨k, n, s, a, l', c, he, hT⟩ := hm
    exact ⟨k, n, s, a, l', c, he, hT, hB⟩
theorem tm_size (σ : St) (T : Tm) : (σ.fill 60 1000 T).tm.size ≤ 1000 := by
  cases hr : σ.fill 60 1000 T with
  | bad x => show (Tm.mk 0 0 _ []).size ≤ _; rw [Tm.size_mk, Tm.sizes_nil]; omega
  | ok u l => have := fill_size σ 60 1000 T u l hr; show u.size ≤ _; omega

/-- A term in a box, that stays while the store turns. -/
structure Kp (w : World) (b : Nat) (V L : Value) (B : Nat) (k n : Int) (s : ByteArray) (a : Option Addr) (l c : Nat) (A : Tm) : Prop where
  box : w.heap[B]? = some (.cells #[.int .i64 k, .int .i64 n, .string s, .slice a l c] 25 (0, 0))
  oth : Oth w b V L B
  tm : TmIn (Oth w b V L) w (.agg #[.int .i64 k, .int .i64 n, .string s, .slice a l c]) A
theorem Kp.mut {w w' : World} {b : Nat} {V L V' L' : Value} {B : Nat} {k n : Int} {s : ByteArray} {a : Option Addr} {l c : Nat} {A : Tm} (h : Kp w b V L B k n s a l c A) (m : Mut w b V L w' V' L') : Kp w' b V' L' B k n s a l c A :=
  ⟨(m.keep B h.oth).1.trans h.box, (m.keep B h.oth).2, m.term h.tm⟩
theorem Kp.has {w : World} {b : Nat} {V L : Value} {B : Nat} {k n : Int} {s : ByteArray} {a : Option Addr} {l c : Nat} {A : Tm} (h : Kp w b V L B k n s a l c A) : Has w (.agg #[.int .i64 k, .int .i64 n, .string s, .slice a l c]) A := oth_has h.tm
theorem ts_mut {w w' : World} {b : Nat} {V L V' L' : Value} (m : Mut w b V L w' V' L') {v : Value} {ks : List Tm} (h : TsIn (Oth w b V L) w v ks) : TsIn (Oth w' b V' L') w' v ks :=
  h.carry (fun k hk => (m.keep k hk).1) fun k hk => (m.keep k hk).2
theorem DeedsAt.below {n₀ m : Nat} {w w' : World} {a : Option Addr} {len : Nat} (h : DeedsAt n₀ w a len) (k : Below m w w') (hm : n₀ ≤ m) : DeedsAt n₀ w' a len := fun i hi => by
  obtain ⟨b, o, N, k', n, s, a', l', c', T, e, hb, hN, c1, c2, c3, c4, c5, hT, hs⟩ := h i hi
  have hb' : b < m := Nat.lt_of_lt_of_le hb hm
  exact ⟨b, o, N, k', n, s, a', l', c', T, e, hb, hN, (k.cell (p := ⟨b, _, none⟩) hb').trans c1, (k.cell (p := ⟨b, _, none⟩) hb').trans c2, (k.cell (p := ⟨b, _, none⟩) hb').trans c3, (k.cell (p := ⟨b, _, none⟩) hb').trans c4, (k.cell (p := ⟨b, _, none⟩) hb').trans c5, IsTm.later (k.mono hm) (Nat.le_refl _) hT, hs⟩
abbrev vK (i : Nat) : Tm := .mk 1 (i : Int) (ByteArray.mk #[]) []
theorem vK_size (i : Nat) : (vK i).size = 1 := by rw [vK, Tm.size_mk, Tm.sizes_nil]
end Go.Proofs.Ytnaopkkdidngoaa
