/-
  The walk of TokenBlanks.
-/
import Derived.Test.YtnkadfbdmffhcaaDoorTokSame
import Derived.Test.YtnkadfbdmffhcaaDoorTokMP
import Derived.Test.YtnkadfbdmffhcaaDoorTokN
import Derived.Test.YtnkadfbdmffhcaaDoorTokAw
namespace Go.Proofs.YtnkadfbdmffhcaaDoor
open Go.RowKit Go.Lib
set_option linter.unusedVariables false

def padV (k : Nat) : ByteArray := ⟨(padL k).toArray⟩
def padCells : Array Value := #[.string ⟨#[32]⟩, .string ⟨#[9, 10]⟩, .string ⟨#[37, 32, 97, 32, 39, 98, 10]⟩, .string ⟨#[32, 37, 37, 10, 13]⟩]
theorem pad_cell (n : Nat) (w : World) (t : TypeId) : (w.alloc (.cells padCells t)).cell? ⟨w.heap.size, n % 4, none⟩ = some (.string (padV (n % 4))) := by
  rw [World.cell?_alloc_new]
  have h : n % 4 = 0 ∨ n % 4 = 1 ∨ n % 4 = 2 ∨ n % 4 = 3 := by omega
  rcases h with h | h | h | h <;> rw [h] <;> rfl
theorem pad_list (k : Nat) : (padV k).data.toList = padL k := by simp [padV]
theorem pad_size (k : Nat) : (padV k).size = (padL k).length := by simp [padV, ByteArray.size]

set_option maxRecDepth 100000 in
set_option maxHeartbeats 8000000 in
theorem tokenBlanks_at (s : ByteArray) (k : Int) (w : World) (L : Laid w) (E : ErrT w) (hs : s.size ≤ 9223372036854775807) (hk : 0 ≤ k ∧ k ≤ 255) :
    Calls Tryd.prog 5 #[.string s, .int .u8 k] w (Ans w (.bool true)) := by
  have h0 := shown_at w L
  by_cases g1 : 2000 < s.size
  · have g1' : (2000 : Int) < (s.size : Int) := by omega
    go_enter Tryd.func5, Tryd.ntmps5
    go_wp2_with (go_at_call 10; refine h0.mono ?_; rintro e w1 ⟨rfl, hb1⟩)
    go_ret
    exact ⟨rfl, hb1⟩
  · have g1' : decide ((2000 : Int) < (s.size : Int)) = false := by simp; omega
    obtain ⟨n, rfl⟩ : ∃ n : Nat, k = n := ⟨k.toNat, by omega⟩
    obtain ⟨u, hu⟩ : ∃ u, s.data.toList = u := ⟨_, rfl⟩
    obtain ⟨lu1, lu2⟩ := len_le hu
    have pc := fun w' => pad_cell n w' 9
    unfold padCells at pc
    have pl := pad_list (n % 4)
    have pz := pad_size (n % 4)
    have ps := pad_short (n % 4)
    have hF := full_pad (n % 4) u (by omega)
    generalize padV (n % 4) = pad at *
    generalize padL (n % 4) = P at *
    have fa : (s ++ { data := #[10] }).data.toList = u ++ [10] := by rw [app_list, hu]
    have fb : (pad ++ s ++ { data := #[10] } ++ pad).data.toList = P ++ u ++ [10] ++ P := by rw [app_list, app_list, app_list, hu, pl]
    have za : (s ++ { data := #[10] }).size ≤ 4096 := by rw [len_of fa]; simp; omega
    have zb : (pad ++ s ++ { data := #[10] } ++ pad).size ≤ 4096 := by rw [len_of fb]; simp; omega
    have sa := fun W hW => scan_at _ _ fa W (L.later hW) (by omega)
    have sb := fun W hW => scan_at _ _ fb W (L.later hW) (by omega)
    rw [hF] at sb
    have pz' : pad.size ≤ 7 := by omega
    have HE := Lib.hid E
    clear hF fa fb za zb pl ps E L
    cases hf : full (u ++ [10]) with
    | bad p cd =>
      rw [hf] at sa sb
      have hp : p ≤ 4096 := full_bad_le hf
      have hq : ((p : Int) + (P.length : Int) == (p : Int) + (pad.size : Int)) = true := by rw [pz]; simp
      clear hf
      go_enter Tryd.func5, Tryd.ntmps5
      go_wp2_with (first
        | (go_at_call 17; with_reducible refine (code_at x3 cd _ (HE.out.later hb14)).mono ?_; rintro e w5 ⟨rfl, hb5⟩)
        | (go_at_call 17; with_reducible refine (code_at x2 cd _ (HE.out.later hb13)).mono ?_; rintro e w4 ⟨rfl, hb4⟩; have hb14 := bel hb13 hb4)
        | (go_at_call 16; with_reducible refine (sb _ ?_).mono ?_; exact bel (bel_al hb1 _) hb2; intro e w3 hsp; obtain ⟨x3, rfl, hb3⟩ := hsp.bad; clear hsp; have hb13 := bel (bel (bel_al hb1 _) hb2) hb3)
        | (go_at_call 16; with_reducible refine (sa _ ?_).mono ?_; exact bel_al hb1 _; intro e w2 hsp; obtain ⟨x2, rfl, hb2⟩ := hsp.bad; clear hsp)
        | (go_at_call 10; refine h0.mono ?_; rintro e w1 ⟨rfl, hb1⟩; have pc1 := pc w1))
      go_ret
      exact ⟨rfl, bel hb14 hb5⟩
    | ok ts =>
      rw [hf] at sa sb
      have hl : ts.length ≤ 1000000 := by
        have h1 := (full_facts hf).2.2.2.1
        simp at h1; omega
      have sb' : ∀ W, Below w.heap.size w W → Calls Tryd.prog 16 #[.string (pad ++ s ++ { data := #[10] } ++ pad)] W (ScanPost W (.ok ts)) := sb
      have sm := fun W m1 m2 v u' (h1 : OwnTk W m1 v ts) (h2 : OwnTk W m2 u' ts) => same_tight W m1 m2 v u' ts h1 h2 hl
      clear hf hl sb
      go_enter Tryd.func5, Tryd.ntmps5
      go_wp2_with (first
        | (go_at_call 18; with_reducible refine (sm _ _ _ _ _ (OwnTk.below o2 hb3) o3).mono ?_; rintro e w4 ⟨rfl, hb4⟩)
        | (go_at_call 16; with_reducible refine (sb' _ ?_).mono ?_; exact bel (bel_al hb1 _) hb2; intro e w3 hsp; obtain ⟨a3, c3, rfl, o3, hb3⟩ := hsp.ok; clear hsp)
        | (go_at_call 16; with_reducible refine (sa _ ?_).mono ?_; exact bel_al hb1 _; intro e w2 hsp; obtain ⟨a2, c2, rfl, o2, hb2⟩ := hsp.ok; clear hsp)
        | (go_at_call 10; refine h0.mono ?_; rintro e w1 ⟨rfl, hb1⟩; have pc1 := pc w1))
      go_ret
      exact ⟨rfl, bel (bel (bel (bel_al hb1 _) hb2) hb3) hb4⟩
end Go.Proofs.YtnkadfbdmffhcaaDoor
