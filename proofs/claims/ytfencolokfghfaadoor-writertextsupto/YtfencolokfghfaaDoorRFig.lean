/-
  The walk of the reference's Figures.
-/
import Derived.Test.YtfencolokfghfaaDoorRQuote
import Derived.Test.YtfencolokfghfaaDoorWrF
namespace Go.Proofs.YtfencolokfghfaaDoor
open Go.Shelf Go.RowKit Go.Sort
set_option linter.unusedVariables false

theorem one_text8 {W : World} {B : Nat} {c : UInt8} (h : W.cell? ⟨B, 0, none⟩ = some (.int .u8 (c.toNat : Int))) : (convert 40 9 (.slice (some ⟨B, 0, none⟩) 1 1)).run Tryd.prog W = .ok (.string (strV [c])) W := by
  refine run_convert_bytes_back W 40 9 5 ⟨B, 0, none⟩ 1 [c] Tryd.underlying40 Tryd.underlying5 Tryd.underlying9 (fun j hj => ?_)
  have : j = 0 := by simpa using hj
  subst this
  exact h
theorem app_list8 (a b : ByteArray) : (a ++ b).data.toList = a.data.toList ++ b.data.toList := by
  rw [ByteArray.data_append, Array.toList_append]
theorem strV_app8 (a b : List UInt8) : strV a ++ strV b = strV (a ++ b) := strV_of (by rw [app_list8, strV_list, strV_list])
theorem cut_in8 {P G : Prop} (h : P) (k : P → G) : G := k h
theorem cell_of8 {w : World} {B : Nat} {v : Value} {t : TypeId} (h : w.heap[B]? = some (.cells #[v] t (0, 0))) : w.cell? ⟨B, 0, none⟩ = some v := by simp [World.cell?, h]
theorem blk_drew8 {w w5 : World} {o : Obj} (k : Below (w.alloc o).drew.heap.size (w.alloc o).drew w5) : w5.heap[w.heap.size]? = some o := (k.block w.heap.size (by show w.heap.size < (w.alloc o).heap.size; simp)).trans (alloc_new w o)
theorem bel8_al {A X : World} {o : Obj} (h : Below A.heap.size A X) : Below A.heap.size A (X.alloc o) := h.alloc h.size o
theorem bel8_dr {A X : World} (h : Below A.heap.size A X) : Below A.heap.size A X.drew := h.drew
theorem bel8_tr {A X W : World} (h : Below X.heap.size X W) (k : Below A.heap.size A X) : Below A.heap.size A W := k.trans (h.mono k.size)
/-- A figure. -/
def dg8 (n : Nat) : UInt8 := UInt8.ofNat (48 + n % 10)
theorem dg8_nat (n : Nat) : (dg8 n).toNat = 48 + n % 10 := by
  unfold dg8
  rw [UInt8.toNat_ofNat']
  omega
theorem dec8_step {u : Nat} (h : ¬ u < 10) : Lib.decDigits u = Lib.decDigits (u / 10) ++ [dg8 u] := by rw [Lib.decDigits, dif_neg h]; rfl
theorem dec8_one {u : Nat} (h : u < 10) : Lib.decDigits u = [dg8 u] := by
  rw [Lib.decDigits_one h]
  unfold dg8
  rw [Nat.mod_eq_of_lt h]
theorem itoa8_a {n : Int} (h0 : 0 ≤ n) (h : n < 10) : Lib.itoa n = [dg8 n.natAbs] := by
  unfold Lib.itoa
  rw [if_neg (by omega), dec8_one (by omega)]
  congr 2
  omega
theorem itoa8_b {n : Int} (h0 : 0 ≤ n) (h : ¬ n < 10) : Lib.itoa n = Lib.itoa (n.tdiv 10) ++ [dg8 n.natAbs] := by
  have e : n.tdiv 10 = n / 10 := Int.tdiv_eq_ediv_of_nonneg h0
  unfold Lib.itoa
  rw [if_neg (by omega), if_neg (by omega), dec8_step (by omega), e, show (n / 10).toNat = n.toNat / 10 by omega, show n.natAbs = n.toNat by omega]
theorem itoa8_c {n : Int} (h0 : n < 0) (h : -10 < n) : Lib.itoa n = [45] ++ [dg8 n.natAbs] := by
  unfold Lib.itoa
  rw [if_pos h0, dec8_one (by omega)]
  rfl
theorem tdiv_neg8 {n : Int} (h0 : n < 0) : n.tdiv 10 = -((n.natAbs / 10 : Nat) : Int) := by
  have e : n = -(n.natAbs : Int) := by omega
  conv => lhs; rw [e]
  rw [Int.neg_tdiv, Int.tdiv_eq_ediv_of_nonneg (by omega)]
  omega
theorem tmod_neg8 {n : Int} (h0 : n < 0) : n.tmod 10 = -((n.natAbs % 10 : Nat) : Int) := by
  have e : n = -(n.natAbs : Int) := by omega
  conv => lhs; rw [e]
  rw [Int.neg_tmod, Int.tmod_eq_emod_of_nonneg (by omega)]
  omega
theorem itoa8_d {n : Int} (h0 : n < 0) (h : ¬ -10 < n) : Lib.itoa n = Lib.itoa (n.tdiv 10) ++ [dg8 n.natAbs] := by
  have e := tdiv_neg8 h0
  unfold Lib.itoa
  rw [if_pos h0, if_pos (by omega), dec8_step (by omega), show (n.tdiv 10).natAbs = n.natAbs / 10 by omega]
  rfl
set_option maxRecDepth 100000 in
set_option maxHeartbeats 4000000 in
theorem rfig_at (m : Nat) : ∀ (n : Int), n.natAbs ≤ m → i64ok n → ∀ (w : World), Calls Tryd.prog 22 #[.int .i64 n] w (Gets w (.string (strV (Lib.itoa n)))) := by
  induction m using Nat.strongRecOn with
  | ind m ih =>
    intro n hnm hn w
    have hd := dg8_nat n.natAbs
    have hlo := hn.1
    have hhi := hn.2
    have hz2 : (strV [dg8 n.natAbs]).size ≤ 1 := by rw [strV_size]; simp
    by_cases h0 : n < 0
    · have d2 : n.tmod 10 = -((n.natAbs : Int) % 10) := by rw [tmod_neg8 h0]; omega
      have hdv : ((dg8 n.natAbs).toNat : Int) = 48 + (n.natAbs : Int) % 10 := by omega
      have ct : ∀ (W : World) (B : Nat), W.cell? ⟨B, 0, none⟩ = some (.int .u8 (48 + (n.natAbs : Int) % 10)) → (convert 40 9 (.slice (some ⟨B, 0, none⟩) 1 1)).run Tryd.prog W = .ok (.string (strV [dg8 n.natAbs])) W := fun W B h => one_text8 (by rw [hdv]; exact h)
      have d3 : (0 : Int) ≤ (n.natAbs : Int) % 10 := by omega
      have d4 : (n.natAbs : Int) % 10 < 10 := by omega
      have d5 : IntKind.i64.wrap (48 + (n.natAbs : Int) % 10) = 48 + (n.natAbs : Int) % 10 := by rw [IntKind.wrap_i64]; omega
      have d6 : IntKind.u8.wrap (48 + (n.natAbs : Int) % 10) = 48 + (n.natAbs : Int) % 10 := by rw [IntKind.wrap_u8]; omega
      by_cases h10 : -10 < n
      · have HF := Lib.hid (itoa8_c h0 h10)
        rw [HF.out]
        have hb : (w.alloc (.cells #[.int .u8 (48 + (n.natAbs : Int) % 10)] 5)).cell? ⟨w.heap.size, 0, none⟩ = some (.int .u8 (48 + (n.natAbs : Int) % 10)) := by
          rw [World.cell?_alloc_new]; rfl
        have ct2 := ct _ _ hb
        clear ih hd HF hdv hnm ct hb
        go_enter Tryd.func22, Tryd.ntmps22
        go_wp2_with fail
        go_ret
        exact ⟨congrArg (fun x => Ending.returned (Value.string x)) (show ByteArray.mk #[45] ++ strV [dg8 n.natAbs] = strV ([45] ++ [dg8 n.natAbs]) by rw [← strV_app8]; rfl), bel_al (Below.refl _ _) _⟩
      · have e5 : IntKind.i64.wrap (n.tdiv 10) = n.tdiv 10 := by rw [tdiv_neg8 h0, IntKind.wrap_i64]; omega
        have hok : i64ok (n.tdiv 10) := by rw [tdiv_neg8 h0]; constructor <;> omega
        have hr : ∀ W, Calls Tryd.prog 22 #[.int .i64 (n.tdiv 10)] W (Gets W (.string (strV (Lib.itoa (n.tdiv 10))))) := fun W => by
          have h3 := tdiv_neg8 h0
          exact ih (n.tdiv 10).natAbs (by omega) (n.tdiv 10) (Nat.le_refl _) hok W
        have hz1 : (strV (Lib.itoa (n.tdiv 10))).size ≤ 21 := by rw [strV_size]; exact itoa_len _ hok
        have HF := Lib.hid (itoa8_d h0 h10)
        rw [HF.out]
        generalize Lib.itoa (n.tdiv 10) = q at *
        clear ih hd HF hdv hnm hok
        go_enter Tryd.func22, Tryd.ntmps22
        go_wp2_with fail
        go_region_with (go_at_call 22; (with_reducible refine (hr _).mono ?_); rintro r w5 ⟨rfl, hb5⟩; (try (refine cut_in8 (P := w5.cell? ⟨w.heap.size, 0, none⟩ = some (.int .u8 (48 + (n.natAbs : Int) % 10))) (cell_of8 (blk_drew8 (o := .cells #[.int .u8 (48 + (n.natAbs : Int) % 10)] 5) hb5)) ?_; intro c5)))
        all_goals go_wp2_with fail
        all_goals go_ret
        all_goals (refine ⟨?_, ?_⟩; (focus (rw [← strV_app8]; rfl)); (repeat (first | with_reducible exact Below.refl _ _ | with_reducible apply bel8_al | with_reducible apply bel8_dr | ((with_reducible apply bel8_tr); (with_reducible assumption)))))
    · have d2 : n.tmod 10 = n % 10 := Int.tmod_eq_emod_of_nonneg (by omega)
      have hdv : ((dg8 n.natAbs).toNat : Int) = 48 + n % 10 := by omega
      have ct : ∀ (W : World) (B : Nat), W.cell? ⟨B, 0, none⟩ = some (.int .u8 (48 + n % 10)) → (convert 40 9 (.slice (some ⟨B, 0, none⟩) 1 1)).run Tryd.prog W = .ok (.string (strV [dg8 n.natAbs])) W := fun W B h => one_text8 (by rw [hdv]; exact h)
      have d3 : (0 : Int) ≤ n % 10 := by omega
      have d4 : n % 10 < 10 := by omega
      have d5 : IntKind.i64.wrap (48 + n % 10) = 48 + n % 10 := by rw [IntKind.wrap_i64]; omega
      have d6 : IntKind.u8.wrap (48 + n % 10) = 48 + n % 10 := by rw [IntKind.wrap_u8]; omega
      by_cases h10 : n < 10
      · have HF := Lib.hid (itoa8_a (by omega) h10)
        rw [HF.out]
        have hb : (w.alloc (.cells #[.int .u8 (48 + n)] 5)).cell? ⟨w.heap.size, 0, none⟩ = some (.int .u8 (48 + n % 10)) := by
          rw [World.cell?_alloc_new, show n % 10 = n by omega]; rfl
        have ct2 := ct _ _ hb
        clear ih hd HF hdv hnm ct hb d2 d3 d4
        go_enter Tryd.func22, Tryd.ntmps22
        go_wp2_with fail
        go_ret
        exact ⟨rfl, bel_al (Below.refl _ _) _⟩
      · have e4 : n.tdiv 10 = n / 10 := Int.tdiv_eq_ediv_of_nonneg (by omega)
        have e5 : IntKind.i64.wrap (n / 10) = n / 10 := by rw [IntKind.wrap_i64]; omega
        have hok : i64ok (n.tdiv 10) := by rw [e4]; constructor <;> omega
        have hr : ∀ W, Calls Tryd.prog 22 #[.int .i64 (n / 10)] W (Gets W (.string (strV (Lib.itoa (n.tdiv 10))))) := fun W => by
          rw [← e4]
          exact ih (n.tdiv 10).natAbs (by omega) (n.tdiv 10) (Nat.le_refl _) hok W
        have hz1 : (strV (Lib.itoa (n.tdiv 10))).size ≤ 21 := by rw [strV_size]; exact itoa_len _ hok
        have HF := Lib.hid (itoa8_b (by omega) h10)
        rw [HF.out]
        generalize Lib.itoa (n.tdiv 10) = q at *
        clear ih hd HF hdv hnm hok
        go_enter Tryd.func22, Tryd.ntmps22
        go_wp2_with fail
        go_region_with (go_at_call 22; (with_reducible refine (hr _).mono ?_); rintro r w5 ⟨rfl, hb5⟩; (try (refine cut_in8 (P := w5.cell? ⟨w.heap.size, 0, none⟩ = some (.int .u8 (48 + n % 10))) (cell_of8 (blk_drew8 (o := .cells #[.int .u8 (48 + n % 10)] 5) hb5)) ?_; intro c5)))
        all_goals go_wp2_with fail
        all_goals go_ret
        all_goals (refine ⟨?_, ?_⟩; (focus (rw [← strV_app8]; rfl)); (repeat (first | with_reducible exact Below.refl _ _ | with_reducible apply bel8_al | with_reducible apply bel8_dr | ((with_reducible apply bel8_tr); (with_reducible assumption)))))
end Go.Proofs.YtfencolokfghfaaDoor
