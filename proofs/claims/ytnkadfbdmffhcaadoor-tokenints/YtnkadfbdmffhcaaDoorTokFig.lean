/-
  The walk of figures.
-/
import Derived.Test.YtnkadfbdmffhcaaDoorTokMI
import Derived.Test.YtnkadfbdmffhcaaDoorTokL
namespace Go.Proofs.YtnkadfbdmffhcaaDoor
open Go.RowKit Go.Lib
set_option linter.unusedVariables false

theorem one_text {W : World} {B : Nat} {c : UInt8} (h : W.cell? ⟨B, 0, none⟩ = some (.int .u8 (c.toNat : Int))) : (convert 46 9 (.slice (some ⟨B, 0, none⟩) 1 1)).run Tryd.prog W = .ok (.string (strV [c])) W := by
  refine run_convert_bytes_back W 46 9 5 ⟨B, 0, none⟩ 1 [c] Tryd.underlying46 Tryd.underlying5 Tryd.underlying9 (fun j hj => ?_)
  have : j = 0 := by simpa using hj
  subst this
  exact h

theorem strV_app (a b : List UInt8) : strV a ++ strV b = strV (a ++ b) := strV_of (by rw [app_list, strV_list, strV_list])
theorem cut_in {P G : Prop} (h : P) (k : P → G) : G := k h
theorem cell_of {w : World} {B : Nat} {v : Value} {t : TypeId} (h : w.heap[B]? = some (.cells #[v] t (0, 0))) : w.cell? ⟨B, 0, none⟩ = some v := by simp [World.cell?, h]
theorem blk_drew {w w5 : World} {o : Obj} (k : Below (w.alloc o).drew.heap.size (w.alloc o).drew w5) : w5.heap[w.heap.size]? = some o := (k.block w.heap.size (by show w.heap.size < (w.alloc o).heap.size; simp)).trans (alloc_new w o)
set_option maxRecDepth 100000 in
set_option maxHeartbeats 4000000 in
theorem figures_at (n : Nat) (h : n < 18446744073709551616) (w : World) : Calls Tryd.prog 19 #[.int .u64 n] w (Ans w (.string (strV (fig n)))) := by
  induction n using Nat.strongRecOn generalizing w with
  | ind n ih =>
    have hd := dig_nat n
    by_cases h10 : n < 10
    · have h10' : (n : Int) < 10 := by omega
      have hb : (w.alloc (.cells #[.int .u8 ((48 : Int) + n)] 5)).cell? ⟨w.heap.size, 0, none⟩ = some (.int .u8 ((dig n).toNat : Int)) := by
        rw [World.cell?_alloc_new, show ((dig n).toNat : Int) = 48 + n by omega]; rfl
      have ct := one_text hb
      have HF := Lib.hid (fig_small h10)
      have k1 : (48 : Int) + n ≤ 57 := by omega
      have k2 : (0 : Int) ≤ 48 + n := by omega
      clear hb hd ih h10
      go_enter Tryd.func19, Tryd.ntmps19
      go_wp2
      go_ret
      exact ⟨by rw [HF.out]; rfl, bel_al (Below.refl _ _) _⟩
    · have e5 : IntKind.u64.wrap ((n : Int) / 10) = ((n / 10 : Nat) : Int) := by rw [IntKind.wrap_u64]; omega
      have hr : ∀ W, Calls Tryd.prog 19 #[.int .u64 (IntKind.u64.wrap ((n : Int) / 10))] W (Ans W (.string (strV (fig (n / 10))))) := fun W => by rw [e5]; exact ih (n / 10) (by omega) (by omega) W
      clear e5
      have HF := Lib.hid (fig_big h10)
      have h10' : ¬ (n : Int) < 10 := by omega
      have d2 : (n : Int).tmod 10 = (n : Int) % 10 := by rw [Int.tmod_eq_emod_of_nonneg (by omega)]
      have d3 : IntKind.u64.wrap (48 + (n : Int) % 10) = 48 + (n : Int) % 10 := by rw [IntKind.wrap_u64]; omega
      have d4 : IntKind.u8.wrap (48 + (n : Int) % 10) = ((dig n).toNat : Int) := by rw [IntKind.wrap_u8, hd]; omega
      have ct : ∀ (W : World) (B : Nat), W.cell? ⟨B, 0, none⟩ = some (.int .u8 ((dig n).toNat : Int)) → (convert 46 9 (.slice (some ⟨B, 0, none⟩) 1 1)).run Tryd.prog W = .ok (.string (strV [dig n])) W := fun W B h => one_text h
      have hz1 : (strV (fig (n / 10))).size ≤ 20 := by rw [strV_size]; exact fig_length 19 _ (by omega)
      have hz2 : (strV [dig n]).size ≤ 1 := by rw [strV_size]; simp
      clear hd ih h10
      go_enter Tryd.func19, Tryd.ntmps19
      go_wp2_with fail
      go_region_with (go_at_call 19; (with_reducible refine (hr _).mono ?_); rintro r w5 ⟨rfl, hb5⟩; (try (refine cut_in (P := w5.cell? ⟨w.heap.size, 0, none⟩ = some (.int .u8 ((dig n).toNat : Int))) (cell_of (blk_drew (o := .cells #[.int .u8 ((dig n).toNat : Int)] 5) hb5)) ?_; intro c5)))
      all_goals go_wp2_with fail
      all_goals go_ret
      all_goals (refine ⟨?_, ?_⟩; (focus (rw [HF.out, ← strV_app]; rfl)); (repeat (first | with_reducible exact Below.refl _ _ | with_reducible apply below_al | with_reducible apply below_dr | ((with_reducible apply below_tr); (with_reducible assumption)))))
end Go.Proofs.YtnkadfbdmffhcaaDoor
