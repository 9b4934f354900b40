/-
  Levels one below the next one, as latt.New makes them: what each call tells of them.
-/
import Derived.Test.YtbdkakpbhijilaaLat
import Derived.Laws.AppendOwnNone
import Derived.Deep.Heap
namespace Go.Proofs.Ytbdkakpbhijilaa
open Go.RowKit

/-- A lattice of N levels, each below the next one. -/
structure ChainAt (w : World) (b N : Nat) : Prop where
  lt : b < w.heap.size
  pos : 1 ≤ N
  le : N ≤ 16
  ex : ∃ U D, LatAt w b N U D ∧ (∀ x y, x < N → y < N → leqB N U x y = decide (x ≤ y)) ∧ (∀ x y : Nat, x < N → y < N → joinB N U x y = (max x y : Nat)) ∧ (∀ x y : Nat, x < N → y < N → joinB N D x y = (min x y : Nat)) ∧
    cover U (below N) = 0 ∧ cover D (below N) = ((N - 1 : Nat) : Int)

theorem ChainAt.below {w w' : World} {b N : Nat} (h : ChainAt w b N) (k : Below w.heap.size w w') : ChainAt w' b N := by
  obtain ⟨U, D, L, r⟩ := h.ex
  exact ⟨Nat.lt_of_lt_of_le h.lt k.size, h.pos, h.le, U, D, L.below k h.lt, r⟩
theorem ChainAt.same {w w' : World} {b N : Nat} (h : ChainAt w b N) (hb : w'.heap[b]? = w.heap[b]?) (hs : w.heap.size ≤ w'.heap.size) : ChainAt w' b N := by
  obtain ⟨U, D, L, r⟩ := h.ex
  refine ⟨Nat.lt_of_lt_of_le h.lt hs, h.pos, h.le, U, D, ?_, r⟩
  exact ⟨(World.cell?_of_block hb).trans L.len, fun a ha => (World.cell?_of_block hb).trans (L.up a ha), fun a ha => (World.cell?_of_block hb).trans (L.down a ha), fun o => (World.frozen?_of_block hb).trans (L.nf o)⟩

theorem below_drawn {w w' : World} {n : Nat} (h : w' = w.drewN n) : Below w.heap.size w w' := by rw [h]; exact below_draws (Below.refl _ _) _

/-- A call that only reads keeps all. -/
theorem Reads.below {w w' : World} {v : Value} {e : Ending} (h : Reads w v e w') : e = .returned v ∧ Below w.heap.size w w' := by
  obtain ⟨h1, m, h2⟩ := h
  exact ⟨h1, below_drawn h2⟩

theorem ch_len {w : World} {b N : Nat} (h : ChainAt w b N) : Calls Try.prog 66 #[.pointer (some ⟨b, 0, none⟩)] w (Reads w (.int .i64 N)) := by
  obtain ⟨U, D, L, _⟩ := h.ex
  exact len_at b N w L.len
theorem ch_join {w : World} {b N : Nat} (h : ChainAt w b N) {x y : Nat} (hx : x < N) (hy : y < N) : Calls Try.prog 52 #[.pointer (some ⟨b, 0, none⟩), .int .i64 x, .int .i64 y] w (Reads w (.int .i64 (max x y : Nat))) := by
  obtain ⟨U, D, L, _, hj, _⟩ := h.ex
  have := join_at b N x y U D w (by have := h.le; omega) L
  rwa [hj x y hx hy] at this
theorem ch_meet {w : World} {b N : Nat} (h : ChainAt w b N) {x y : Nat} (hx : x < N) (hy : y < N) : Calls Try.prog 67 #[.pointer (some ⟨b, 0, none⟩), .int .i64 x, .int .i64 y] w (Reads w (.int .i64 (min x y : Nat))) := by
  obtain ⟨U, D, L, _, _, hj, _⟩ := h.ex
  have := meet_at b N x y U D w (by have := h.le; omega) L
  rwa [hj x y hx hy] at this
theorem ch_leq {w : World} {b N : Nat} (h : ChainAt w b N) {x y : Nat} (hx : x < N) (hy : y < N) : Calls Try.prog 22 #[.pointer (some ⟨b, 0, none⟩), .int .i64 x, .int .i64 y] w (Reads w (.bool (decide (x ≤ y)))) := by
  obtain ⟨U, D, L, hq, _⟩ := h.ex
  have := leq_at b N x y U D w (by have := h.le; omega) L
  rwa [hq x y hx hy] at this
theorem ch_bottom {w : World} {b N : Nat} (h : ChainAt w b N) : Calls Try.prog 24 #[.pointer (some ⟨b, 0, none⟩)] w (Reads w (.int .i64 0)) := by
  obtain ⟨U, D, L, _, _, _, hb, _⟩ := h.ex
  exact bottom_is b N 0 U D w h.le L hb
theorem ch_top {w : World} {b N : Nat} (h : ChainAt w b N) : Calls Try.prog 68 #[.pointer (some ⟨b, 0, none⟩)] w (Reads w (.int .i64 ((N - 1 : Nat) : Int))) := by
  obtain ⟨U, D, L, _, _, _, _, hb⟩ := h.ex
  exact top_is b N _ U D w h.le L hb

end Go.Proofs.Ytbdkakpbhijilaa
