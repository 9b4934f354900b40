/-
  The document's example, which stands at the head of all laws; the law's few.
-/
import Derived.Test.YtbdkakpbhijilaaRefA
namespace Go.Proofs.Ytbdkakpbhijilaa
open Go.RowKit Go.Shelf
set_option linter.unusedVariables false

theorem two_terms {w : World} {k1 n1 k2 n2 : Int} {s1 s2 : ByteArray} {a1 a2 : Option Addr} {l1 c1 l2 c2 : Nat} {T1 T2 : Tm} (h1 : Has w (.agg #[.int .i64 k1, .int .i64 n1, .string s1, .slice a1 l1 c1]) T1) (h2 : Has w (.agg #[.int .i64 k2, .int .i64 n2, .string s2, .slice a2 l2 c2]) T2) :
    HasTs (w.alloc (.cells #[.int .i64 k1, .int .i64 n1, .string s1, .slice a1 l1 c1, .int .i64 k2, .int .i64 n2, .string s2, .slice a2 l2 c2] 24)) (.slice (some ⟨w.heap.size, 0, none⟩) 2 2) [T1, T2] := by
  have hb : Below w.heap.size w (w.alloc (.cells #[.int .i64 k1, .int .i64 n1, .string s1, .slice a1 l1 c1, .int .i64 k2, .int .i64 n2, .string s2, .slice a2 l2 c2] 24)) := (Below.refl _ w).alloc (Nat.le_refl _) _
  refine ⟨some ⟨w.heap.size, 0, none⟩, 2, rfl, by simp, by unfold maxLen; omega, (fun h => by cases h), fun i hi => ?_⟩
  have hi' : i = 0 ∨ i = 1 := by simp at hi; omega
  rcases hi' with rfl | rfl
  · exact ⟨w.heap.size, 0, k1, n1, s1, a1, l1, c1, rfl, by simp, (World.cell?_alloc_new w _ _ _).trans rfl, (World.cell?_alloc_new w _ _ _).trans rfl, (World.cell?_alloc_new w _ _ _).trans rfl, (World.cell?_alloc_new w _ _ _).trans rfl, Has.below h1 hb⟩
  · exact ⟨w.heap.size, 0, k2, n2, s2, a2, l2, c2, rfl, by simp, (World.cell?_alloc_new w _ _ _).trans rfl, (World.cell?_alloc_new w _ _ _).trans rfl, (World.cell?_alloc_new w _ _ _).trans rfl, (World.cell?_alloc_new w _ _ _).trans rfl, Has.below h2 hb⟩

theorem one_term {w : World} {k1 n1 : Int} {s1 : ByteArray} {a1 : Option Addr} {l1 c1 : Nat} {T1 : Tm} (h1 : Has w (.agg #[.int .i64 k1, .int .i64 n1, .string s1, .slice a1 l1 c1]) T1) :
    HasTs (w.alloc (.cells #[.int .i64 k1, .int .i64 n1, .string s1, .slice a1 l1 c1] 24)) (.slice (some ⟨w.heap.size, 0, none⟩) 1 1) [T1] := by
  have hb : Below w.heap.size w (w.alloc (.cells #[.int .i64 k1, .int .i64 n1, .string s1, .slice a1 l1 c1] 24)) := (Below.refl _ w).alloc (Nat.le_refl _) _
  refine ⟨some ⟨w.heap.size, 0, none⟩, 1, rfl, by simp, by unfold maxLen; omega, (fun h => by cases h), fun i hi => ?_⟩
  have hi' : i = 0 := by simp at hi; omega
  subst hi'
  exact ⟨w.heap.size, 0, k1, n1, s1, a1, l1, c1, rfl, by simp, (World.cell?_alloc_new w _ _ _).trans rfl, (World.cell?_alloc_new w _ _ _).trans rfl, (World.cell?_alloc_new w _ _ _).trans rfl, (World.cell?_alloc_new w _ _ _).trans rfl, Has.below h1 hb⟩

def exG : Tm := .mk 3 0 (ByteArray.mk #[103]) [.mk 1 2 (ByteArray.mk #[]) [], .mk 1 4 (ByteArray.mk #[]) []]
def exF : Tm := .mk 3 0 (ByteArray.mk #[102]) [.mk 1 4 (ByteArray.mk #[]) [], exG]
theorem exF_size : exF.size = 5 := by decide
theorem exF_deep : exF.deep = 3 := by decide
theorem exF_vars : exF.vars = [4, 2] := by decide
theorem empty_toList : (ByteArray.mk #[]).toList = [] := by
  unfold ByteArray.toList
  rw [ByteArray.toList.loop]
  rfl
theorem exF_valid : exF.valid 1 = true := by
  have h1 : (ByteArray.mk #[102]).size = 1 := rfl
  have h2 : (ByteArray.mk #[103]).size = 1 := rfl
  simp [Tm.valid, validL, exF, exG, Tm.parts_mk, Tm.partss_cons, Tm.partss_nil, Tm.formed, Tm.kind, Tm.num, Tm.name, Tm.kids, h1, h2]
theorem exF_check : exF.check 1 = 0 := by
  rw [Tm.check, exF_size, exF_deep, exF_valid]; decide

theorem two_ints (w : World) (x y : Int) : IntsAt (w.alloc (.cells #[.int .i64 x, .int .i64 y] 3)) (.slice (some ⟨w.heap.size, 0, none⟩) 2 2) [x, y] := by
  refine ⟨some ⟨w.heap.size, 0, none⟩, 2, rfl, by simp, by unfold maxLen; omega, (fun h => by cases h), fun i hi => ?_⟩
  have hi' : i = 0 ∨ i = 1 := by simp at hi; omega
  rcases hi' with rfl | rfl
  · exact ⟨w.heap.size, 0, rfl, by simp, (World.cell?_alloc_new w _ _ _).trans rfl⟩
  · exact ⟨w.heap.size, 0, rfl, by simp, (World.cell?_alloc_new w _ _ _).trans rfl⟩
theorem one_int (w : World) (x : Int) : IntsAt (w.alloc (.cells #[.int .i64 x] 3)) (.slice (some ⟨w.heap.size, 0, none⟩) 1 1) [x] := by
  refine ⟨some ⟨w.heap.size, 0, none⟩, 1, rfl, by simp, by unfold maxLen; omega, (fun h => by cases h), fun i hi => ?_⟩
  have hi' : i = 0 := by simp at hi; omega
  subst hi'
  exact ⟨w.heap.size, 0, rfl, by simp, (World.cell?_alloc_new w _ _ _).trans rfl⟩

end Go.Proofs.Ytbdkakpbhijilaa
