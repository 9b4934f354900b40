/-
  The walk of the reference's New (torchereref01).
-/
import Derived.Test.YtgkbmdlbljjbfaaRef3
namespace Go.Proofs.Ytgkbmdlbljjbfaa
open Go.RowKit

theorem Tab2.grid {w : World} {B g n : Nat} {r : Nat → Nat} {M : Nat → Nat → Bool} (h : Tab2 w B g n r M) : GridAt w g r (fun _ => n) n M :=
  ⟨h.lt, h.ref, fun i hi => (h.rows i hi).lt, fun i j hi hj => (h.rows i hi).cell j hj⟩

/-- What New refuses at a and b. -/
def badB (n : Nat) (T : Nat → Nat → Bool) (a b : Nat) : Bool := ((!decide (a = b) && T a b && T b a) || decide (refJoin (leqB n T) n a b < 0)) || decide (refJoin (fun x y => leqB n T y x) n a b < 0)
def refOk (n : Nat) (T : Nat → Nat → Bool) : Bool := (List.range n).all fun a => (List.range n).all fun b => !badB n T a b

theorem refOk_true {n : Nat} {T : Nat → Nat → Bool} (h : ∀ a b, a < n → b < n → badB n T a b = false) : refOk n T = true := by
  unfold refOk; rw [List.all_eq_true]; intro a ha; rw [List.all_eq_true]; intro b hb; rw [h a b (List.mem_range.1 ha) (List.mem_range.1 hb)]; rfl
theorem refOk_false {n a b : Nat} {T : Nat → Nat → Bool} (ha : a < n) (hb : b < n) (h : badB n T a b = true) : refOk n T = false := by
  cases e : refOk n T
  · rfl
  · unfold refOk at e
    have := List.all_eq_true.1 (List.all_eq_true.1 e a (List.mem_range.2 ha)) b (List.mem_range.2 hb)
    rw [h] at this; cases this

/-- A store into a box that is no part of the table. -/
theorem GridAt.setBox {w : World} {g n : Nat} {r c : Nat → Nat} {T : Nat → Nat → Bool} {b : Nat} (h : GridAt w g r c n T) (hn : 1 ≤ n) (hx : w.cell? ⟨b, 0, none⟩ = some (.slice none 0 0)) (v : Value) : GridAt (w.setCell ⟨b, 0, none⟩ v) g r c n T := by
  have hs : (w.setCell ⟨b, 0, none⟩ v).heap.size = w.heap.size := Go.Deep.nblk_setCell _ _ _
  have e1 : g ≠ b := fun e => by
    have := h.row 0 hn
    rw [e, hx] at this; simp at this
  have e2 : ∀ i, i < n → r i ≠ b := fun i hi e => by
    have := h.cell i 0 hi hn
    rw [e, hx] at this; simp at this
  refine ⟨by rw [hs]; exact h.lt, fun i hi => ?_, fun i hi => by rw [hs]; exact h.rlt i hi, fun i j hi hj => ?_⟩
  · rw [World.cell?_of_block (w := w) (Below.heap_setCell _ _ _ _ e1)]; exact h.row i hi
  · rw [World.cell?_of_block (w := w) (Below.heap_setCell _ _ _ _ (e2 i hi))]; exact h.cell i j hi hj

def zeroLat : Value := .agg #[.slice none 0 0]

/-- What the reference's New answers. -/
def RNewPost (w : World) (n : Int) (ps : List (Int × Int)) (e : Ending) (w' : World) : Prop :=
  Below w.heap.size w w' ∧
  ((okArgs n ps = false ∧ e = .returned (.tuple #[zeroLat, .int .i64 1])) ∨
   (okArgs n ps = true ∧ ∃ (N g cp : Nat) (r c : Nat → Nat), n = N ∧ 1 ≤ N ∧ N ≤ 16 ∧ GridAt w' g r c N (War (baseTab ps) N) ∧
     ((refOk N (War (baseTab ps) N) = false ∧ e = .returned (.tuple #[zeroLat, .int .i64 4])) ∨
      (refOk N (War (baseTab ps) N) = true ∧ e = .returned (.tuple #[.agg #[.slice (some ⟨g, 0, none⟩) N cp], .int .i64 0])))))

set_option maxHeartbeats 400000 in
theorem rnew_arg (n : Int) (v : Value) (w : World) (h : n < 1 ∨ 16 < n) :
    Calls Try.prog 14 #[.int .i64 n, v] w fun e w' => e = .returned (.tuple #[zeroLat, .int .i64 1]) ∧ Below w.heap.size w w' := by
  rcases h with h | h
  · go_enter Try.func14, Try.ntmps14
    go_wp2
    exact bodyPost_ret (v := .tuple #[.agg #[.slice none 0 0], .int .i64 1]) (by simp [results, Try.results14, go_sem]) rfl ⟨rfl, (Below.refl _ _).alloc (Nat.le_refl _) _⟩
  · have h' : ¬ n < 1 := by omega
    go_enter Try.func14, Try.ntmps14
    go_wp2
    exact bodyPost_ret (v := .tuple #[.agg #[.slice none 0 0], .int .i64 1]) (by simp [results, Try.results14, go_sem]) rfl ⟨rfl, (Below.refl _ _).alloc (Nat.le_refl _) _⟩

set_option maxRecDepth 100000 in
set_option maxHeartbeats 1000000 in
theorem rnew_in (n : Nat) (a : Option Addr) (cap : Nat) (ps : List (Int × Int)) (w : World) (h1 : 1 ≤ n) (h2 : n ≤ 16) (hm : ps.length ≤ maxLen) (hp : PairsAt w a ps) :
    Calls Try.prog 14 #[.int .i64 n, .slice a ps.length cap] w (RNewPost w n ps) := by
  have HML := Lib.hid hm
  unfold maxLen at hm
  have HP := Lib.hid hp
  clear hp
  have g1 : ¬ (n : Int) < 1 := by omega
  have g2 : ¬ 16 < (n : Int) := by omega
  go_enter Try.func14, Try.ntmps14
  go_wp2
  obtain ⟨w1, hw1⟩ : ∃ w1, w1 = w.alloc (Obj.cells #[Value.slice none 0 0] 31) := ⟨_, rfl⟩
  rw [← hw1]
  have hb1 : Below w.heap.size w w1 := by rw [hw1]; exact (Below.refl _ _).alloc (Nat.le_refl _) _
  have hx1 : w1.cell? ⟨w.heap.size, 0, none⟩ = some (.slice none 0 0) := by rw [hw1]; exact World.cell?_alloc_new w _ _ 0
  have hf1 : w1.frozen? ⟨w.heap.size, 0, none⟩ = false := by rw [hw1]; exact World.frozen?_alloc_new w _ _ 0
  have hs1 : w.heap.size < w1.heap.size := by rw [hw1]; simp
  have HB1 := Lib.hid hb1
  have HX1 := Lib.hid hx1
  have HF1 := Lib.hid hf1
  clear hw1 hb1 hx1 hf1
  go_loopw [6] (fun i wr => ∃ k : Nat, k ≤ ps.length ∧ i = .int .i64 k ∧ goodB n (ps.take k) = true ∧ Below w1.heap.size w1 wr) (fun i _ => ps.length - (intOf i).toNat)
  case atStart => exact ⟨0, Nat.zero_le _, rfl, by simp [goodB], Below.refl _ _⟩
  case round =>
    obtain ⟨k, hk, rfl, hgk, hb⟩ := hrel
    have HGK := Lib.hid hgk
    have HB := Lib.hid hb
    have HBw : Hid (Below w.heap.size w wr) := HB1.out.trans (hb.mono HB1.out.size)
    have hx : wr.cell? ⟨w.heap.size, 0, none⟩ = some (.slice none 0 0) := by rw [hb.cell (p := ⟨w.heap.size, 0, none⟩) hs1]; exact HX1.out
    have hf : wr.frozen? ⟨w.heap.size, 0, none⟩ = false := by rw [hb.frozen (p := ⟨w.heap.size, 0, none⟩) hs1]; exact HF1.out
    have hsr : w.heap.size < wr.heap.size := Nat.lt_of_lt_of_le hs1 hb.size
    clear hgk hb
    by_cases hlt : k < ps.length
    · obtain ⟨pb, po, rfl, hpb, c0', c1'⟩ := HP.out k hlt
      obtain ⟨x, hxx⟩ : ∃ x, (ps[k]).1 = x := ⟨_, rfl⟩
      obtain ⟨y, hyy⟩ : ∃ y, (ps[k]).2 = y := ⟨_, rfl⟩
      rw [hxx] at c0'
      rw [hyy] at c1'
      have c0 : wr.cell? ⟨pb, po + k * 2, none⟩ = some (.int .i64 x) := by rw [HBw.out.cell (p := ⟨pb, _, none⟩) hpb]; exact c0'
      have c1 : wr.cell? ⟨pb, po + k * 2 + 1, none⟩ = some (.int .i64 y) := by rw [HBw.out.cell (p := ⟨pb, _, none⟩) hpb]; exact c1'
      have HXX := Lib.hid hxx
      have HYY := Lib.hid hyy
      have hki : (k : Int) < (ps.length : Int) := by omega
      clear c0' c1' hxx hyy
      have q0 : (wr.setCell ⟨w.heap.size, 0, none⟩ (.slice none 0 0)).cell? ⟨w.heap.size, 0, none⟩ = some (.slice none 0 0) := World.cell?_setCell_same _ _ _ hx
      have HQ0 := Lib.hid q0
      clear q0
      by_cases q1 : x < 0
      · have HE : Hid (okArgs n ps = false) := by
          have := goodB_bad (n := n) hlt (by rw [HXX.out, HYY.out, Bool.and_eq_false_iff, hasB_false, hasB_false]; omega)
          show _ = false; rw [okArgs, this]; simp
        go_wp2
        have q0 := HQ0.out
        exact bodyPost_ret (v := .tuple #[.agg #[.slice none 0 0], .int .i64 1]) (by simp [results, Try.results14, go_sem, q0, hsr]) rfl ⟨((HBw.out.setCell (p := ⟨w.heap.size, 0, none⟩) (Nat.le_refl _) _).alloc (by simp; omega) _), Or.inl ⟨HE.out, rfl⟩⟩
      have r1 : decide (x < 0) = false := by simpa using q1
      by_cases q2 : (n : Int) ≤ x
      · have HE : Hid (okArgs n ps = false) := by
          have := goodB_bad (n := n) hlt (by rw [HXX.out, HYY.out, Bool.and_eq_false_iff, hasB_false, hasB_false]; omega)
          show _ = false; rw [okArgs, this]; simp
        go_wp2
        have q0 := HQ0.out
        exact bodyPost_ret (v := .tuple #[.agg #[.slice none 0 0], .int .i64 1]) (by simp [results, Try.results14, go_sem, q0, hsr]) rfl ⟨((HBw.out.setCell (p := ⟨w.heap.size, 0, none⟩) (Nat.le_refl _) _).alloc (by simp; omega) _), Or.inl ⟨HE.out, rfl⟩⟩
      have r2 : decide ((n : Int) ≤ x) = false := by simpa using q2
      by_cases q3 : y < 0
      · have HE : Hid (okArgs n ps = false) := by
          have := goodB_bad (n := n) hlt (by rw [HXX.out, HYY.out, Bool.and_eq_false_iff, hasB_false, hasB_false]; omega)
          show _ = false; rw [okArgs, this]; simp
        go_wp2
        have q0 := HQ0.out
        exact bodyPost_ret (v := .tuple #[.agg #[.slice none 0 0], .int .i64 1]) (by simp [results, Try.results14, go_sem, q0, hsr]) rfl ⟨((HBw.out.setCell (p := ⟨w.heap.size, 0, none⟩) (Nat.le_refl _) _).alloc (by simp; omega) _), Or.inl ⟨HE.out, rfl⟩⟩
      have r3 : decide (y < 0) = false := by simpa using q3
      by_cases q4 : (n : Int) ≤ y
      · have HE : Hid (okArgs n ps = false) := by
          have := goodB_bad (n := n) hlt (by rw [HXX.out, HYY.out, Bool.and_eq_false_iff, hasB_false, hasB_false]; omega)
          show _ = false; rw [okArgs, this]; simp
        go_wp2
        have q0 := HQ0.out
        exact bodyPost_ret (v := .tuple #[.agg #[.slice none 0 0], .int .i64 1]) (by simp [results, Try.results14, go_sem, q0, hsr]) rfl ⟨((HBw.out.setCell (p := ⟨w.heap.size, 0, none⟩) (Nat.le_refl _) _).alloc (by simp; omega) _), Or.inl ⟨HE.out, rfl⟩⟩
      have r4 : decide ((n : Int) ≤ y) = false := by simpa using q4
      go_wp2
      go_roundw
      case rel =>
        refine ⟨k + 1, by omega, by go_num, ?_, HB.out.alloc HB.out.size _⟩
        have e : ps.take (k + 1) = ps.take k ++ [(x, y)] := by rw [take_snoc hlt, ← HXX.out, ← HYY.out]
        rw [e, goodB_snoc, HGK.out, hasB_true.2 (by omega), hasB_true.2 (by omega)]; rfl
      case measure => simp [intOf]; omega
    · obtain rfl : ps.length = k := by omega
      rw [List.take_length] at HGK
      have HE : Hid (okArgs n ps = true) := by
        show _ = true
        rw [okArgs, HGK.out]; simp; omega
      go_wp2_with fail
      refine (rtable_at n a cap ps wr h1 h2 HML.out (HP.out.below HBw.out) HGK.out).mono ?_
      rintro e w2 ⟨g, cp, r, rfl, T2, hb2⟩
      have G2 := T2.grid
      have hx2 : w2.cell? ⟨w.heap.size, 0, none⟩ = some (.slice none 0 0) := by rw [hb2.cell (p := ⟨w.heap.size, 0, none⟩) hsr]; exact hx
      have hf2 : w2.frozen? ⟨w.heap.size, 0, none⟩ = false := by rw [hb2.frozen (p := ⟨w.heap.size, 0, none⟩) hsr]; exact hf
      have hs2 : w.heap.size < w2.heap.size := Nat.lt_of_lt_of_le hsr hb2.size
      have HB2 : Hid (Below w.heap.size w w2) := HBw.out.trans (hb2.mono HBw.out.size)
      obtain ⟨M, hM⟩ : ∃ M, M = War (baseTab ps) n := ⟨_, rfl⟩
      rw [← hM] at G2
      have HMM := Lib.hid hM
      have HG2 := Lib.hid G2
      have HX2 := Lib.hid hx2
      have HF2 := Lib.hid hf2
      clear T2 hb2 hx hf hsr HB HBw HGK HP HX1 HF1 HB1 hs1 hM G2 hx2 hf2 HML
      go_wp2
      obtain ⟨bx, hbxe⟩ : ∃ bx, bx = w2.heap.size := ⟨_, rfl⟩
      obtain ⟨w3, hw3⟩ : ∃ w3, w3 = w2.alloc (Obj.cells #[Value.slice (some { block := g, off := 0 }) n cp] 31) := ⟨_, rfl⟩
      rw [← hw3, ← hbxe]
      have hb3 : Below w2.heap.size w2 w3 := by rw [hw3]; exact (Below.refl _ _).alloc (Nat.le_refl _) _
      have HBX : Hid (w3.cell? ⟨bx, 0, none⟩ = some (.slice (some ⟨g, 0, none⟩) n cp)) := by rw [hw3, hbxe]; exact World.cell?_alloc_new w2 _ _ 0
      have hbl : bx < w3.heap.size := by rw [hw3, hbxe]; simp
      have HX3 : Hid (w3.cell? ⟨w.heap.size, 0, none⟩ = some (.slice none 0 0)) := by rw [hb3.cell (p := ⟨w.heap.size, 0, none⟩) hs2]; exact HX2.out
      have HF3 : Hid (w3.frozen? ⟨w.heap.size, 0, none⟩ = false) := by rw [hb3.frozen (p := ⟨w.heap.size, 0, none⟩) hs2]; exact HF2.out
      have hs3 : w.heap.size < w3.heap.size := Nat.lt_of_lt_of_le hs2 hb3.size
      have HB3 : Hid (Below w.heap.size w w3) := HB2.out.trans (hb3.mono HB2.out.size)
      have HG3 := Lib.hid (HG2.out.below hb3)
      have hne : w.heap.size ≠ bx := by omega
      clear hw3 hbxe hb3 HX2 HF2 hs2 HB2 HG2
      go_loopw [9] (fun i wr => ∃ x : Nat, x ≤ n ∧ i = .int .i64 x ∧ (∀ p q, p < x → q < n → badB n M p q = false) ∧ Below w3.heap.size w3 wr) (fun i _ => n - (intOf i).toNat)
      case atStart => exact ⟨0, Nat.zero_le _, rfl, fun p q hp => by omega, Below.refl _ _⟩
      case round =>
        obtain ⟨x, hx, rfl, hall, hb⟩ := hrel
        have HALL := Lib.hid hall
        have HB := Lib.hid hb
        clear hall hb
        by_cases hlx : x < n
        · go_wp2
          go_loopw [10] (fun i wr => ∃ y : Nat, y ≤ n ∧ i = .int .i64 y ∧ (∀ q, q < y → badB n M x q = false) ∧ Below w3.heap.size w3 wr) (fun i _ => n - (intOf i).toNat)
          case atStart => exact ⟨0, Nat.zero_le _, rfl, fun q hq => by omega, HB.out⟩
          case round =>
            clear HB
            obtain ⟨y, hy, rfl, hall, hb⟩ := hrel
            have HALY := Lib.hid hall
            have HB := Lib.hid hb
            have G := HG3.out.below hb
            have hbx : wr.cell? ⟨bx, 0, none⟩ = some (.slice (some ⟨g, 0, none⟩) n cp) := by rw [hb.cell (p := ⟨bx, 0, none⟩) hbl]; exact HBX.out
            clear hall hb
            by_cases hly : y < n
            · have hxi : (x : Int) < (n : Int) := by omega
              have hyi : (y : Int) < (n : Int) := by omega
              go_upto_region 16 with (fail)
              go_cut [99] (fun v wx => v = .bool (badB n M x y) ∧ Below w3.heap.size w3 wx)
              case first =>
                have hrx := G.row x hlx
                have hry := G.row y hly
                have hrxx := G.cell x y hlx hly
                have hryx := G.cell y x hly hlx
                by_cases hxy : x = y
                · subst hxy
                  go_wp2_with fail
                  refine (rjoin_at g n cp r (fun _ => n) M x x wr h2 G).mono ?_
                  rintro e wj ⟨rfl, hbj⟩
                  obtain ⟨j, hj⟩ : ∃ j, refJoin (leqB n M) n x x = j := ⟨_, rfl⟩
                  rw [hj]
                  have HJ := Lib.hid hj
                  clear hj
                  have HBj : Hid (Below w3.heap.size w3 wj) := HB.out.trans (hbj.mono HB.out.size)
                  have Gj := G.below hbj
                  have hbxj : wj.cell? ⟨bx, 0, none⟩ = some (.slice (some ⟨g, 0, none⟩) n cp) := by rw [HBj.out.cell (p := ⟨bx, 0, none⟩) hbl]; exact HBX.out
                  clear hbj hbx G hrx hrxx hry hryx HB
                  by_cases hj0 : j < 0
                  · have HE : Hid (badB n M x x = true) := by show _ = true; rw [badB, HJ.out]; simp [hj0]
                    go_wp2_with fail
                    go_meet
                    exact ⟨by rw [HE.out], HBj.out⟩
                  · have hj1 : decide (j < 0) = false := by simpa using hj0
                    go_wp2_with fail
                    refine (rmeet_at g n cp r (fun _ => n) M x x wj h2 Gj).mono ?_
                    rintro e wm ⟨rfl, hbm⟩
                    have HE : Hid (badB n M x x = decide (refJoin (fun x y => leqB n M y x) n x x < 0)) := by show _ = _; rw [badB, HJ.out, hj1]; simp
                    obtain ⟨mm, hmm⟩ : ∃ mm, refJoin (fun x y => leqB n M y x) n x x = mm := ⟨_, rfl⟩
                    rw [hmm] at HE ⊢
                    clear hmm
                    have HBm : Hid (Below w3.heap.size w3 wm) := HBj.out.trans (hbm.mono HBj.out.size)
                    clear hbm HBj Gj hbxj
                    go_wp2_with fail
                    go_meet
                    exact ⟨by rw [HE.out], HBm.out⟩
                · have hxy1 : (x == y) = false := by simpa using hxy
                  have hxy2 : ((x : Int) == (y : Int)) = false := by simp; omega
                  have hxy3 : (x != y) = true := by simpa using hxy
                  have hxy4 : ((x : Int) != (y : Int)) = true := by simp; omega
                  cases hv : M x y
                  · rw [hv] at hrxx
                    have HPRE : Hid ((!decide (x = y) && M x y && M y x) = false) := by simp [Hid, hv]
                    clear hv
                    go_wp2_with fail
                    refine (rjoin_at g n cp r (fun _ => n) M x y wr h2 G).mono ?_
                    rintro e wj ⟨rfl, hbj⟩
                    obtain ⟨j, hj⟩ : ∃ j, refJoin (leqB n M) n x y = j := ⟨_, rfl⟩
                    rw [hj]
                    have HJ := Lib.hid hj
                    clear hj
                    have HBj : Hid (Below w3.heap.size w3 wj) := HB.out.trans (hbj.mono HB.out.size)
                    have Gj := G.below hbj
                    have hbxj : wj.cell? ⟨bx, 0, none⟩ = some (.slice (some ⟨g, 0, none⟩) n cp) := by rw [HBj.out.cell (p := ⟨bx, 0, none⟩) hbl]; exact HBX.out
                    clear hbj hbx G hrx hrxx hry hryx HB
                    by_cases hj0 : j < 0
                    · have HE : Hid (badB n M x y = true) := by show _ = true; rw [badB, HJ.out]; simp [hj0]
                      go_wp2_with fail
                      go_meet
                      exact ⟨by rw [HE.out], HBj.out⟩
                    · have hj1 : decide (j < 0) = false := by simpa using hj0
                      go_wp2_with fail
                      refine (rmeet_at g n cp r (fun _ => n) M x y wj h2 Gj).mono ?_
                      rintro e wm ⟨rfl, hbm⟩
                      have HE : Hid (badB n M x y = decide (refJoin (fun x y => leqB n M y x) n x y < 0)) := by show _ = _; rw [badB, HJ.out, HPRE.out, hj1]; rfl
                      obtain ⟨mm, hmm⟩ : ∃ mm, refJoin (fun x y => leqB n M y x) n x y = mm := ⟨_, rfl⟩
                      rw [hmm] at HE ⊢
                      clear hmm
                      have HBm : Hid (Below w3.heap.size w3 wm) := HBj.out.trans (hbm.mono HBj.out.size)
                      clear hbm HBj Gj hbxj
                      go_wp2_with fail
                      go_meet
                      exact ⟨by rw [HE.out], HBm.out⟩
                  · rw [hv] at hrxx
                    cases hv2 : M y x
                    · rw [hv2] at hryx
                      have HPRE : Hid ((!decide (x = y) && M x y && M y x) = false) := by simp [Hid, hv2]
                      clear hv hv2
                      go_wp2_with fail
                      refine (rjoin_at g n cp r (fun _ => n) M x y wr h2 G).mono ?_
                      rintro e wj ⟨rfl, hbj⟩
                      obtain ⟨j, hj⟩ : ∃ j, refJoin (leqB n M) n x y = j := ⟨_, rfl⟩
                      rw [hj]
                      have HJ := Lib.hid hj
                      clear hj
                      have HBj : Hid (Below w3.heap.size w3 wj) := HB.out.trans (hbj.mono HB.out.size)
                      have Gj := G.below hbj
                      have hbxj : wj.cell? ⟨bx, 0, none⟩ = some (.slice (some ⟨g, 0, none⟩) n cp) := by rw [HBj.out.cell (p := ⟨bx, 0, none⟩) hbl]; exact HBX.out
                      clear hbj hbx G hrx hrxx hry hryx HB
                      by_cases hj0 : j < 0
                      · have HE : Hid (badB n M x y = true) := by show _ = true; rw [badB, HJ.out]; simp [hj0]
                        go_wp2_with fail
                        go_meet
                        exact ⟨by rw [HE.out], HBj.out⟩
                      · have hj1 : decide (j < 0) = false := by simpa using hj0
                        go_wp2_with fail
                        refine (rmeet_at g n cp r (fun _ => n) M x y wj h2 Gj).mono ?_
                        rintro e wm ⟨rfl, hbm⟩
                        have HE : Hid (badB n M x y = decide (refJoin (fun x y => leqB n M y x) n x y < 0)) := by show _ = _; rw [badB, HJ.out, HPRE.out, hj1]; rfl
                        obtain ⟨mm, hmm⟩ : ∃ mm, refJoin (fun x y => leqB n M y x) n x y = mm := ⟨_, rfl⟩
                        rw [hmm] at HE ⊢
                        clear hmm
                        have HBm : Hid (Below w3.heap.size w3 wm) := HBj.out.trans (hbm.mono HBj.out.size)
                        clear hbm HBj Gj hbxj
                        go_wp2_with fail
                        go_meet
                        exact ⟨by rw [HE.out], HBm.out⟩
                    · rw [hv2] at hryx
                      have HE : Hid (badB n M x y = true) := by show _ = true; rw [badB, hv, hv2]; simp [hxy]
                      clear hv hv2
                      go_wp2_with fail
                      go_meet
                      exact ⟨by rw [HE.out], HB.out⟩
              case rest =>
                obtain ⟨rfl, hbc⟩ := hcut
                have HBC := Lib.hid hbc
                have hxc : wc.cell? ⟨w.heap.size, 0, none⟩ = some (.slice none 0 0) := by rw [hbc.cell (p := ⟨w.heap.size, 0, none⟩) hs3]; exact HX3.out
                have hfc : wc.frozen? ⟨w.heap.size, 0, none⟩ = false := by rw [hbc.frozen (p := ⟨w.heap.size, 0, none⟩) hs3]; exact HF3.out
                have Gc := HG3.out.below hbc
                clear hbc HB G hbx
                cases hv : badB n M x y
                · have HV := Lib.hid hv
                  clear hv
                  go_wp2
                  go_roundw
                  case rel =>
                    refine ⟨y + 1, by omega, by go_num, fun q hq => ?_, HBC.out⟩
                    by_cases e : q = y
                    · rw [e]; exact HV.out
                    · exact HALY.out q (by omega)
                  case measure => simp [intOf]; omega
                · have HV := Lib.hid (refOk_false hlx hly hv)
                  clear hv
                  go_wp2
                  have q0 : (wc.setCell ⟨w.heap.size, 0, none⟩ (.slice none 0 0)).cell? ⟨w.heap.size, 0, none⟩ = some (.slice none 0 0) := World.cell?_setCell_same _ _ _ hxc
                  have HBF : Below w.heap.size w wc := HB3.out.trans (HBC.out.mono HB3.out.size)
                  refine bodyPost_ret (v := .tuple #[.agg #[.slice none 0 0], .int .i64 4]) (by simp [results, Try.results14, go_sem, q0]) rfl ⟨HBF.setCell (p := ⟨w.heap.size, 0, none⟩) (Nat.le_refl _) _, Or.inr ⟨HE.out, n, g, cp, r, (fun _ => n), rfl, h1, h2, ?_, Or.inl ⟨by rw [← HMM.out]; exact HV.out, rfl⟩⟩⟩
                  rw [← HMM.out]
                  exact Gc.setBox h1 hxc _
            · obtain rfl : n = y := by omega
              go_wp2
              go_roundw
              case rel =>
                refine ⟨x + 1, by omega, by go_num, fun p q hp hq => ?_, HB.out⟩
                by_cases e : p = x
                · rw [e]; exact HALY.out q hq
                · exact HALL.out p q (by omega) hq
              case measure => simp [intOf]; omega
        · obtain rfl : n = x := by omega
          have hb := HB.out
          have hxc : wr.cell? ⟨w.heap.size, 0, none⟩ = some (.slice none 0 0) := by rw [hb.cell (p := ⟨w.heap.size, 0, none⟩) hs3]; exact HX3.out
          have hfc : wr.frozen? ⟨w.heap.size, 0, none⟩ = false := by rw [hb.frozen (p := ⟨w.heap.size, 0, none⟩) hs3]; exact HF3.out
          have hbx : wr.cell? ⟨bx, 0, none⟩ = some (.slice (some ⟨g, 0, none⟩) n cp) := by rw [hb.cell (p := ⟨bx, 0, none⟩) hbl]; exact HBX.out
          have Gc := HG3.out.below hb
          have HV := Lib.hid (refOk_true HALL.out)
          have HXC := Lib.hid hxc
          have HGC := Lib.hid Gc
          clear hb Gc
          go_wp2
          have q0 : (wr.setCell ⟨w.heap.size, 0, none⟩ (.slice (some ⟨g, 0, none⟩) n cp)).cell? ⟨w.heap.size, 0, none⟩ = some (.slice (some ⟨g, 0, none⟩) n cp) := World.cell?_setCell_same _ _ _ HXC.out
          have HBF : Below w.heap.size w wr := HB3.out.trans (HB.out.mono HB3.out.size)
          refine bodyPost_ret (v := .tuple #[.agg #[.slice (some ⟨g, 0, none⟩) n cp], .int .i64 0]) (by simp [results, Try.results14, go_sem, q0]) rfl ⟨HBF.setCell (p := ⟨w.heap.size, 0, none⟩) (Nat.le_refl _) _, Or.inr ⟨HE.out, n, g, cp, r, (fun _ => n), rfl, h1, h2, ?_, Or.inr ⟨by rw [← HMM.out]; exact HV.out, rfl⟩⟩⟩
          rw [← HMM.out]
          exact HGC.out.setBox h1 HXC.out _

/-- The reference's New, whatever it is given. -/
theorem rnew_at (n : Int) (a : Option Addr) (cap : Nat) (ps : List (Int × Int)) (w : World) (hm : ps.length ≤ maxLen) (hp : PairsAt w a ps) :
    Calls Try.prog 14 #[.int .i64 n, .slice a ps.length cap] w (RNewPost w n ps) := by
  by_cases h : 1 ≤ n ∧ n ≤ 16
  · obtain ⟨N, rfl⟩ : ∃ N : Nat, n = N := ⟨n.toNat, by omega⟩
    exact rnew_in N a cap ps w (by omega) (by omega) hm hp
  · refine (rnew_arg n _ w (by omega)).mono ?_
    rintro e w' ⟨rfl, hb⟩
    exact ⟨hb, Or.inl ⟨by simp [okArgs]; omega, rfl⟩⟩
end Go.Proofs.Ytgkbmdlbljjbfaa
