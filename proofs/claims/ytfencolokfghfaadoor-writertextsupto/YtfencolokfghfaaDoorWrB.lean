/-
  What is put on a page: the texts of a list, one behind the other.
-/
import Derived.Test.YtfencolokfghfaaDoorWrA
import Derived.Deep.LoopGhost
namespace Go.Proofs.YtfencolokfghfaaDoor
open Go.Shelf Go.RowKit
set_option linter.unusedVariables false

/-- Texts in memory, in a block of another's. -/
def StrsAt (b : Nat) (w : World) (a : Option Addr) (ss : List ByteArray) : Prop := ∃ g o, a = some ⟨g, o, none⟩ ∧ For b w g ∧ ∀ i s, ss[i]? = some s → w.cell? ⟨g, o + i, none⟩ = some (.string s)
theorem StrsAt.keep {b : Nat} {w w' : World} {a : Option Addr} {ss : List ByteArray} (h : StrsAt b w a ss) (k : KeepF b w w') : StrsAt b w' a ss := by
  obtain ⟨g, o, rfl, hf, hc⟩ := h
  exact ⟨g, o, rfl, (k.2 g hf).1, fun i s hs => (World.cell?_of_block (a := ⟨g, o + i, none⟩) (k.2 g hf).2).trans (hc i s hs)⟩
def catL (ss : List ByteArray) : List UInt8 := ss.flatMap fun s => s.data.toList
theorem byte_str (s : ByteArray) : Lib.strCells s = Lib.byteCells s.data.toList := rfl
theorem byte_app (l m : List UInt8) : Lib.byteCells (l ++ m) = Lib.byteCells l ++ Lib.byteCells m := by simp [Lib.byteCells]
set_option maxRecDepth 100000 in
set_option maxHeartbeats 2000000 in
theorem put_at (B b : Nat) (l : List UInt8) (ss : List ByteArray) (a : Option Addr) (cap : Nat) (w : World) (h : Pg B b (Lib.byteCells l) w) (hs : StrsAt b w a ss) (hl : l.length + (catL ss).length ≤ 1000000000000) (hn : ss.length ≤ 1000) (hc : ss.length ≤ cap) (hBw : B ≤ w.heap.size) :
    Calls Tryd.prog 20 #[.pointer (some ⟨b, 0, none⟩), .slice a ss.length cap] w fun e w' => e = .returned (.tuple #[]) ∧ Pg B b (Lib.byteCells (l ++ catL ss)) w' ∧ Below B w w' ∧ KeepF b w w' := by
  go_enter Tryd.func20, Tryd.ntmps20
  go_wp2_with fail
  go_loopg [8] ss.length (fun g z wr => ∃ k : Nat, z = .int .i64 k ∧ g + k = ss.length ∧ Pg B b (Lib.byteCells (l ++ catL (ss.take k))) wr ∧ Below B w wr ∧ KeepF b w wr)
  case atStart => exact ⟨0, rfl, by omega, by simpa [catL] using h, Below.refl _ _, KeepF.refl _ _⟩
  case round =>
    obtain ⟨k, rfl, hgk, hP, hb, hk⟩ := hrel
    cases gk with
    | zero =>
      have hkk : ¬ ((k : Int) < (ss.length : Int)) := by omega
      have hke : k = ss.length := by omega
      rw [hke, List.take_length] at hP
      go_wp2_with fail
      go_end0
      exact ⟨rfl, hP, hb, hk⟩
    | succ m =>
      have hlt : k < ss.length := by omega
      have hkk : ((k : Int) < (ss.length : Int)) := by omega
      obtain ⟨s, hsk⟩ : ∃ s, ss[k]? = some s := ⟨_, List.getElem?_eq_getElem hlt⟩
      obtain ⟨g, o, rfl, hf, hcell⟩ := hs.keep hk
      have hck := hcell k s hsk
      have htk : ss.take (k + 1) = ss.take k ++ [s] := by rw [List.take_add_one, hsk]; rfl
      have hcat : catL (ss.take (k + 1)) = catL (ss.take k) ++ s.data.toList := by rw [htk]; simp [catL]
      have hsub : (catL (ss.take k)).length + s.data.toList.length ≤ (catL ss).length := by
        have e : catL ss = catL (ss.take (k + 1)) ++ catL (ss.drop (k + 1)) := by
          unfold catL
          rw [← List.flatMap_append, List.take_append_drop]
        rw [e, hcat, List.length_append, List.length_append]; omega
      have hsz : s.size = s.data.toList.length := rfl
      have hws := wstr_at B b _ s wr hP (by simp only [Lib.byteCells, List.length_map, List.length_append]; omega) (by have := hk.1; omega)
      have HC := Lib.hid hcat
      clear hcell hf hcat htk hsub hsz hP hsk
      go_wp2_with (go_at_call 32; refine hws.mono ?_; rintro e W1 ⟨rfl, hP1, hb1, hk1⟩)
      go_roundg m
      case measure => omega
      case rel => exact ⟨k + 1, by simp, by omega, .inr (by rw [HC.out, ← List.append_assoc, byte_app]; exact hP1), hb.trans hb1, hk.trans hk1⟩
end Go.Proofs.YtfencolokfghfaaDoor
