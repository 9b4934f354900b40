/-
  The walks of the reference's readers (torchereref01): Is, Leq, Join, Meet, Bottom, Top: what each answers over a table in memory.
-/
import Derived.Test.YtgkbmdlbljjbfaaLat
import Derived.Deep.DeepCutAuto
namespace Go.Proofs.Ytgkbmdlbljjbfaa
open Go.RowKit

/-- A call that answers v, and turns nothing that was there. -/
def Gets (w : World) (v : Value) (e : Ending) (w' : World) : Prop := e = .returned v ∧ Below w.heap.size w w'

/-- A table of bools in memory. -/
structure GridAt (w : World) (g : Nat) (r c : Nat → Nat) (n : Nat) (T : Nat → Nat → Bool) : Prop where
  lt : g < w.heap.size
  row : ∀ i, i < n → w.cell? ⟨g, i, none⟩ = some (.slice (some ⟨r i, 0, none⟩) n (c i))
  rlt : ∀ i, i < n → r i < w.heap.size
  cell : ∀ i j, i < n → j < n → w.cell? ⟨r i, j, none⟩ = some (.bool (T i j))

theorem GridAt.below {w w' : World} {g n : Nat} {r c : Nat → Nat} {T : Nat → Nat → Bool} (h : GridAt w g r c n T) (k : Below w.heap.size w w') : GridAt w' g r c n T :=
  ⟨Nat.lt_of_lt_of_le h.lt k.size, fun i hi => by rw [k.cell (p := ⟨g, i, none⟩) h.lt]; exact h.row i hi, fun i hi => Nat.lt_of_lt_of_le (h.rlt i hi) k.size,
    fun i j hi hj => by rw [k.cell (p := ⟨r i, j, none⟩) (h.rlt i hi)]; exact h.cell i j hi hj⟩

theorem gets_later {w w1 w' : World} {v : Value} {e : Ending} (h : Below w.heap.size w w1) (k : Gets w1 v e w') : Gets w v e w' := ⟨k.1, h.trans (k.2.mono h.size)⟩

set_option maxHeartbeats 400000 in
theorem ris_at (A : Option Addr) (n cap : Nat) (a : Int) (w : World) : Calls Try.prog 35 #[.agg #[.slice A n cap], .int .i64 a] w (Gets w (.bool (hasB n a))) := by
  by_cases h : 0 ≤ a
  · go_enter Try.func35, Try.ntmps35
    go_wp2
    go_ret
    exact ⟨by simp [hasB, h], (Below.refl _ _).alloc (Nat.le_refl _) _⟩
  · have hf : decide (0 ≤ a) = false := by simp; omega
    go_enter Try.func35, Try.ntmps35
    go_wp2
    go_ret
    exact ⟨by simp [hasB, hf], (Below.refl _ _).alloc (Nat.le_refl _) _⟩

theorem ris_is (A : Option Addr) (n cap : Nat) (a : Int) (v : Bool) (w : World) (h : hasB n a = v) : Calls Try.prog 35 #[.agg #[.slice A n cap], .int .i64 a] w (Gets w (.bool v)) := by
  rw [← h]; exact ris_at A n cap a w

/-- What is in a box stays there. -/
theorem box_later {w w' : World} {b : Nat} {v : Value} (h : w.cell? ⟨b, 0, none⟩ = some v) (hb : b < w.heap.size) (k : Below w.heap.size w w') : w'.cell? ⟨b, 0, none⟩ = some v ∧ b < w'.heap.size :=
  ⟨by rw [k.cell (p := ⟨b, 0, none⟩) hb]; exact h, Nat.lt_of_lt_of_le hb k.size⟩

set_option maxHeartbeats 400000 in
theorem rleq_both (g n cap : Nat) (r c : Nat → Nat) (T : Nat → Nat → Bool) (x y : Int) (w : World) (G : GridAt w g r c n T) (hx : hasB n x = true) (hy : hasB n y = true) :
    Calls Try.prog 21 #[.agg #[.slice (some ⟨g, 0, none⟩) n cap], .int .i64 x, .int .i64 y] w (Gets w (.bool (leqB n T x y))) := by
  obtain ⟨x0, x1⟩ := hasB_true.1 hx
  obtain ⟨y0, y1⟩ := hasB_true.1 hy
  have HE : Hid (leqB n T x y = T x.toNat y.toNat) := by simp [Hid, leqB, hx, hy]
  have HX := Lib.hid hx
  have HY := Lib.hid hy
  clear hx hy
  go_enter Try.func21, Try.ntmps21
  go_wp2_with fail
  obtain ⟨w1, hw1⟩ : ∃ w1, w1 = w.alloc (Obj.cells #[Value.slice (some { block := g, off := 0 }) n cap] 31) := ⟨_, rfl⟩
  rw [← hw1]
  have hb1 : Below w.heap.size w w1 := by rw [hw1]; exact (Below.refl _ _).alloc (Nat.le_refl _) _
  have hx1 : w1.cell? ⟨w.heap.size, 0, none⟩ = some (.slice (some ⟨g, 0, none⟩) n cap) := by rw [hw1]; exact World.cell?_alloc_new w _ _ 0
  have hs1 : w.heap.size < w1.heap.size := by rw [hw1]; simp
  have HB1 := Lib.hid hb1
  clear hw1 hb1
  with_reducible refine (ris_is _ n cap x true w1 HX.out).mono ?_
  rintro e w2 ⟨rfl, hb2⟩
  obtain ⟨hx2, hs2⟩ := box_later hx1 hs1 hb2
  have HB2 : Hid (Below w.heap.size w w2) := HB1.out.trans (hb2.mono HB1.out.size)
  clear hb2 HB1 hx1 hs1
  go_wp2_with fail
  with_reducible refine (ris_is _ n cap y true w2 HY.out).mono ?_
  rintro e w3 ⟨rfl, hb3⟩
  obtain ⟨hx3, hs3⟩ := box_later hx2 hs2 hb3
  have HB3 : Hid (Below w.heap.size w w3) := HB2.out.trans (hb3.mono HB2.out.size)
  clear hb3 HB2 hx2 hs2
  have G3 := G.below HB3.out
  have hr := G3.row x.toNat (by omega)
  have hc := G3.cell x.toNat y.toNat (by omega) (by omega)
  clear G G3
  go_wp2
  go_ret
  rw [HE.out]
  exact ⟨rfl, HB3.out⟩

set_option maxHeartbeats 400000 in
theorem rleq_second (A : Option Addr) (n cap : Nat) (T : Nat → Nat → Bool) (x y : Int) (w : World) (hx : hasB n x = true) (hy : hasB n y = false) :
    Calls Try.prog 21 #[.agg #[.slice A n cap], .int .i64 x, .int .i64 y] w (Gets w (.bool (leqB n T x y))) := by
  have HE : Hid (leqB n T x y = false) := by simp [Hid, leqB, hy]
  have HX := Lib.hid hx
  have HY := Lib.hid hy
  clear hx hy
  go_enter Try.func21, Try.ntmps21
  go_wp2_with fail
  obtain ⟨w1, hw1⟩ : ∃ w1, w1 = w.alloc (Obj.cells #[Value.slice A n cap] 31) := ⟨_, rfl⟩
  rw [← hw1]
  have hb1 : Below w.heap.size w w1 := by rw [hw1]; exact (Below.refl _ _).alloc (Nat.le_refl _) _
  have hx1 : w1.cell? ⟨w.heap.size, 0, none⟩ = some (.slice A n cap) := by rw [hw1]; exact World.cell?_alloc_new w _ _ 0
  have hs1 : w.heap.size < w1.heap.size := by rw [hw1]; simp
  have HB1 := Lib.hid hb1
  clear hw1 hb1
  with_reducible refine (ris_is _ n cap x true w1 HX.out).mono ?_
  rintro e w2 ⟨rfl, hb2⟩
  obtain ⟨hx2, hs2⟩ := box_later hx1 hs1 hb2
  have HB2 : Hid (Below w.heap.size w w2) := HB1.out.trans (hb2.mono HB1.out.size)
  clear hb2 HB1 hx1 hs1
  go_wp2_with fail
  with_reducible refine (ris_is _ n cap y false w2 HY.out).mono ?_
  rintro e w3 ⟨rfl, hb3⟩
  have HB3 : Hid (Below w.heap.size w w3) := HB2.out.trans (hb3.mono HB2.out.size)
  clear hb3 HB2 hx2 hs2
  go_wp2
  go_ret
  rw [HE.out]
  exact ⟨rfl, HB3.out⟩

set_option maxHeartbeats 400000 in
theorem rleq_first (A : Option Addr) (n cap : Nat) (T : Nat → Nat → Bool) (x y : Int) (w : World) (hx : hasB n x = false) :
    Calls Try.prog 21 #[.agg #[.slice A n cap], .int .i64 x, .int .i64 y] w (Gets w (.bool (leqB n T x y))) := by
  have HE : Hid (leqB n T x y = false) := by simp [Hid, leqB, hx]
  have HX := Lib.hid hx
  clear hx
  go_enter Try.func21, Try.ntmps21
  go_wp2_with fail
  obtain ⟨w1, hw1⟩ : ∃ w1, w1 = w.alloc (Obj.cells #[Value.slice A n cap] 31) := ⟨_, rfl⟩
  rw [← hw1]
  have hb1 : Below w.heap.size w w1 := by rw [hw1]; exact (Below.refl _ _).alloc (Nat.le_refl _) _
  have hx1 : w1.cell? ⟨w.heap.size, 0, none⟩ = some (.slice A n cap) := by rw [hw1]; exact World.cell?_alloc_new w _ _ 0
  have hs1 : w.heap.size < w1.heap.size := by rw [hw1]; simp
  have HB1 := Lib.hid hb1
  clear hw1 hb1
  with_reducible refine (ris_is _ n cap x false w1 HX.out).mono ?_
  rintro e w2 ⟨rfl, hb2⟩
  have HB2 : Hid (Below w.heap.size w w2) := HB1.out.trans (hb2.mono HB1.out.size)
  clear hb2 HB1 hx1 hs1
  go_wp2
  go_ret
  rw [HE.out]
  exact ⟨rfl, HB2.out⟩

theorem rleq_is (g n cap : Nat) (r c : Nat → Nat) (T : Nat → Nat → Bool) (x y : Int) (v : Bool) (w : World) (G : GridAt w g r c n T) (h : leqB n T x y = v) :
    Calls Try.prog 21 #[.agg #[.slice (some ⟨g, 0, none⟩) n cap], .int .i64 x, .int .i64 y] w (Gets w (.bool v)) := by
  rw [← h]
  cases hx : hasB n x
  · exact rleq_first _ n cap T x y w hx
  · cases hy : hasB n y
    · exact rleq_second _ n cap T x y w hx hy
    · exact rleq_both g n cap r c T x y w G hx hy

def allTo (p : Nat → Bool) : Nat → Bool
  | 0 => true
  | d + 1 => allTo p d && p d
def firstFrom (p : Nat → Bool) : Nat → Nat → Int
  | _, 0 => -1
  | c, k + 1 => if p c then c else firstFrom p (c + 1) k
theorem firstFrom_yes {p : Nat → Bool} {n k : Nat} (h : p k = true) (hk : k < n) : firstFrom p k (n - k) = k := by
  have e : n - k = (n - (k + 1)) + 1 := by omega
  rw [e, firstFrom, h]; rfl
theorem firstFrom_no {p : Nat → Bool} {n k : Nat} (h : p k = false) (hk : k < n) : firstFrom p k (n - k) = firstFrom p (k + 1) (n - (k + 1)) := by
  have e : n - k = (n - (k + 1)) + 1 := by omega
  rw [e, firstFrom, h]; rfl
theorem firstFrom_end {p : Nat → Bool} {n : Nat} : firstFrom p n (n - n) = -1 := by rw [Nat.sub_self, firstFrom]

/-- Whether c is the least of those that a and b are below, as far as d. -/
def leastTo (L : Int → Int → Bool) (a b : Int) (c d : Nat) : Bool := (L a c && L b c) && allTo (fun d => !((L a d && L b d) && !L c d)) d
def refJoin (L : Int → Int → Bool) (n : Nat) (a b : Int) : Int := firstFrom (fun c => leastTo L a b c n) 0 n

theorem leastTo_succ (L : Int → Int → Bool) (a b : Int) (c d : Nat) : leastTo L a b c (d + 1) = (leastTo L a b c d && !((L a d && L b d) && !L c d)) := by
  simp only [leastTo, allTo, Bool.and_assoc]


set_option maxRecDepth 100000 in
set_option maxHeartbeats 2000000 in
theorem rjoin_at (g n cap : Nat) (r c : Nat → Nat) (T : Nat → Nat → Bool) (a b : Int) (w : World) (hn : n ≤ 16) (G : GridAt w g r c n T) :
    Calls Try.prog 22 #[.agg #[.slice (some ⟨g, 0, none⟩) n cap], .int .i64 a, .int .i64 b] w (Gets w (.int .i64 (refJoin (leqB n T) n a b))) := by
  obtain ⟨L, hL⟩ : ∃ L : Int → Int → Bool, L = (leqB n T) := ⟨_, rfl⟩
  have HL : Hid (∀ x y, leqB n T x y = L x y) := fun x y => by rw [hL]
  rw [← hL]
  clear hL
  go_enter Try.func22, Try.ntmps22
  go_wp2
  obtain ⟨w1, hw1⟩ : ∃ w1, w1 = w.alloc (Obj.cells #[Value.slice (some { block := g, off := 0 }) n cap] 31) := ⟨_, rfl⟩
  rw [← hw1]
  have hb1 : Below w.heap.size w w1 := by rw [hw1]; exact (Below.refl _ _).alloc (Nat.le_refl _) _
  have hx1 : w1.cell? ⟨w.heap.size, 0, none⟩ = some (.slice (some ⟨g, 0, none⟩) n cap) := by rw [hw1]; exact World.cell?_alloc_new w _ _ 0
  have hs1 : w.heap.size < w1.heap.size := by rw [hw1]; simp
  have HB1 := Lib.hid hb1
  have HX1 := Lib.hid hx1
  have G1 := Lib.hid (G.below hb1)
  clear hw1 hb1 hx1 G
  go_loopw [7] (fun i wr => ∃ k : Nat, k ≤ n ∧ i = .int .i64 k ∧ refJoin L n a b = firstFrom (fun c => leastTo L a b c n) k (n - k) ∧ Below w1.heap.size w1 wr) (fun i _ => n - (intOf i).toNat)
  case atStart => exact ⟨0, Nat.zero_le _, rfl, by rw [refJoin, Nat.sub_zero], Below.refl _ _⟩
  case round =>
    obtain ⟨k, hk, rfl, hf, hb⟩ := hrel
    have HF := Lib.hid hf
    have HBwr := Lib.hid hb
    have Gwr := G1.out.below hb
    obtain ⟨hxwr, hswr⟩ := box_later HX1.out hs1 hb
    clear hf hb
    by_cases hlt : k < n
    · go_upto_region 4 with (fail)
      go_cut [8] (fun v wx => v = .bool (leastTo L a b k 0) ∧ Below w1.heap.size w1 wx)
      case first =>
        cases hla : L a k
        · have HA : Hid (leqB n T a k = false) := by show _ = _; rw [HL.out, hla]
          have HE : Hid (leastTo L a b k 0 = false) := by show _ = _; rw [leastTo, hla]; rfl
          clear hla
          go_wp2_with fail
          with_reducible refine (rleq_is g n cap r c T a k false wr Gwr HA.out).mono ?_
          rintro e wa ⟨rfl, hbwa⟩
          have HBwa : Hid (Below w1.heap.size w1 wa) := HBwr.out.trans (hbwa.mono HBwr.out.size)
          have Gwa := Gwr.below hbwa
          obtain ⟨hxwa, hswa⟩ := box_later hxwr hswr hbwa
          clear hbwa HBwr Gwr hxwr hswr
          go_wp2_with fail
          go_meet
          exact ⟨by rw [HE.out], HBwa.out⟩
        · obtain ⟨lb, hlb⟩ : ∃ v, L b k = v := ⟨_, rfl⟩
          have HA : Hid (leqB n T a k = true) := by show _ = _; rw [HL.out, hla]
          have HBb : Hid (leqB n T b k = lb) := by show _ = _; rw [HL.out, hlb]
          have HE : Hid (leastTo L a b k 0 = lb) := by show _ = _; rw [leastTo, hla, hlb]; simp [allTo]
          clear hla hlb
          go_wp2_with fail
          with_reducible refine (rleq_is g n cap r c T a k true wr Gwr HA.out).mono ?_
          rintro e wa ⟨rfl, hbwa⟩
          have HBwa : Hid (Below w1.heap.size w1 wa) := HBwr.out.trans (hbwa.mono HBwr.out.size)
          have Gwa := Gwr.below hbwa
          obtain ⟨hxwa, hswa⟩ := box_later hxwr hswr hbwa
          clear hbwa HBwr Gwr hxwr hswr
          go_wp2_with fail
          with_reducible refine (rleq_is g n cap r c T b k lb wa Gwa HBb.out).mono ?_
          rintro e wb ⟨rfl, hbwb⟩
          have HBwb : Hid (Below w1.heap.size w1 wb) := HBwa.out.trans (hbwb.mono HBwa.out.size)
          have Gwb := Gwa.below hbwb
          obtain ⟨hxwb, hswb⟩ := box_later hxwa hswa hbwb
          clear hbwb HBwa Gwa hxwa hswa
          go_wp2_with fail
          go_meet
          exact ⟨by rw [HE.out], HBwb.out⟩
      case rest =>
        obtain ⟨rfl, hbc⟩ := hcut
        have HBC := Lib.hid hbc
        clear HBwr Gwr hxwr hswr hbc
        go_wp2
        go_loopw [8, 9] (fun v i wr => ∃ d : Nat, d ≤ n ∧ i = .int .i64 d ∧ v = .bool (leastTo L a b k d) ∧ Below w1.heap.size w1 wr) (fun _ i _ => n - (intOf i).toNat)
        case atStart => exact ⟨0, Nat.zero_le _, rfl, rfl, HBC.out⟩
        case round =>
          clear HBC
          obtain ⟨d, hd, rfl, rfl, hb⟩ := hrel
          have HBwr := Lib.hid hb
          have Gwr := G1.out.below hb
          obtain ⟨hxwr, hswr⟩ := box_later HX1.out hs1 hb
          clear hb
          by_cases hltd : d < n
          · go_upto_region 8 with (fail)
            go_cut [50] (fun v wx => v = .bool ((L a d && L b d) && !L k d) ∧ Below w1.heap.size w1 wx)
            case first =>
              cases hla : L a d
              · have HA : Hid (leqB n T a d = false) := by show _ = _; rw [HL.out, hla]
                have HE : Hid (((L a d && L b d) && !L k d) = false) := by show _ = _; rw [hla]; rfl
                clear hla
                go_wp2_with fail
                with_reducible refine (rleq_is g n cap r c T a d false wr Gwr HA.out).mono ?_
                rintro e wa ⟨rfl, hbwa⟩
                have HBwa : Hid (Below w1.heap.size w1 wa) := HBwr.out.trans (hbwa.mono HBwr.out.size)
                have Gwa := Gwr.below hbwa
                obtain ⟨hxwa, hswa⟩ := box_later hxwr hswr hbwa
                clear hbwa HBwr Gwr hxwr hswr
                go_wp2_with fail
                go_meet
                exact ⟨by rw [HE.out], HBwa.out⟩
              · have HA : Hid (leqB n T a d = true) := by show _ = _; rw [HL.out, hla]
                cases hlb : L b d
                · have HBb : Hid (leqB n T b d = false) := by show _ = _; rw [HL.out, hlb]
                  have HE : Hid (((L a d && L b d) && !L k d) = false) := by show _ = _; rw [hla, hlb]; rfl
                  clear hla hlb
                  go_wp2_with fail
                  with_reducible refine (rleq_is g n cap r c T a d true wr Gwr HA.out).mono ?_
                  rintro e wa ⟨rfl, hbwa⟩
                  have HBwa : Hid (Below w1.heap.size w1 wa) := HBwr.out.trans (hbwa.mono HBwr.out.size)
                  have Gwa := Gwr.below hbwa
                  obtain ⟨hxwa, hswa⟩ := box_later hxwr hswr hbwa
                  clear hbwa HBwr Gwr hxwr hswr
                  go_wp2_with fail
                  with_reducible refine (rleq_is g n cap r c T b d false wa Gwa HBb.out).mono ?_
                  rintro e wb ⟨rfl, hbwb⟩
                  have HBwb : Hid (Below w1.heap.size w1 wb) := HBwa.out.trans (hbwb.mono HBwa.out.size)
                  have Gwb := Gwa.below hbwb
                  obtain ⟨hxwb, hswb⟩ := box_later hxwa hswa hbwb
                  clear hbwb HBwa Gwa hxwa hswa
                  go_wp2_with fail
                  go_meet
                  exact ⟨by rw [HE.out], HBwb.out⟩
                · have HBb : Hid (leqB n T b d = true) := by show _ = _; rw [HL.out, hlb]
                  obtain ⟨lc, hlc⟩ : ∃ v, L k d = v := ⟨_, rfl⟩
                  have HC : Hid (leqB n T k d = lc) := by show _ = _; rw [HL.out, hlc]
                  have HE : Hid (((L a d && L b d) && !L k d) = !lc) := by show _ = _; rw [hla, hlb, hlc]; rfl
                  clear hla hlb hlc
                  go_wp2_with fail
                  with_reducible refine (rleq_is g n cap r c T a d true wr Gwr HA.out).mono ?_
                  rintro e wa ⟨rfl, hbwa⟩
                  have HBwa : Hid (Below w1.heap.size w1 wa) := HBwr.out.trans (hbwa.mono HBwr.out.size)
                  have Gwa := Gwr.below hbwa
                  obtain ⟨hxwa, hswa⟩ := box_later hxwr hswr hbwa
                  clear hbwa HBwr Gwr hxwr hswr
                  go_wp2_with fail
                  with_reducible refine (rleq_is g n cap r c T b d true wa Gwa HBb.out).mono ?_
                  rintro e wb ⟨rfl, hbwb⟩
                  have HBwb : Hid (Below w1.heap.size w1 wb) := HBwa.out.trans (hbwb.mono HBwa.out.size)
                  have Gwb := Gwa.below hbwb
                  obtain ⟨hxwb, hswb⟩ := box_later hxwa hswa hbwb
                  clear hbwb HBwa Gwa hxwa hswa
                  go_wp2_with fail
                  with_reducible refine (rleq_is g n cap r c T k d lc wb Gwb HC.out).mono ?_
                  rintro e wc ⟨rfl, hbwc⟩
                  have HBwc : Hid (Below w1.heap.size w1 wc) := HBwb.out.trans (hbwc.mono HBwb.out.size)
                  have Gwc := Gwb.below hbwc
                  obtain ⟨hxwc, hswc⟩ := box_later hxwb hswb hbwc
                  clear hbwc HBwb Gwb hxwb hswb
                  go_wp2_with fail
                  go_meet
                  exact ⟨by rw [HE.out], HBwc.out⟩
            case rest =>
              obtain ⟨rfl, hbc⟩ := hcut
              have HBC := Lib.hid hbc
              clear HBwr Gwr hxwr hswr hbc
              cases hv : ((L a d && L b d) && !L k d)
              · have HV : Hid (leastTo L a b k (d + 1) = leastTo L a b k d) := by show _ = _; rw [leastTo_succ, hv]; simp
                clear hv
                go_wp2
                go_roundw
                case rel => exact ⟨d + 1, by omega, by go_num, by rw [HV.out], HBC.out⟩
                case measure => simp [intOf]; omega
              · have HV : Hid (leastTo L a b k (d + 1) = false) := by show _ = _; rw [leastTo_succ, hv]; simp
                clear hv
                go_wp2
                go_roundw
                case rel => exact ⟨d + 1, by omega, by go_num, by rw [HV.out], HBC.out⟩
                case measure => simp [intOf]; omega
          · obtain rfl : n = d := by omega
            cases hv : leastTo L a b k n
            · have HV := Lib.hid (firstFrom_no (p := fun c => leastTo L a b c n) hv hlt)
              clear hv
              go_wp2
              go_roundw
              case rel => exact ⟨k + 1, by omega, by go_num, by rw [HF.out, HV.out], HBwr.out⟩
              case measure => simp [intOf]; omega
            · have HV := Lib.hid (firstFrom_yes (p := fun c => leastTo L a b c n) hv hlt)
              clear hv
              go_wp2
              go_ret
              exact ⟨by rw [HF.out, HV.out]; rfl, HB1.out.trans (HBwr.out.mono HB1.out.size)⟩
    · obtain rfl : n = k := by omega
      have HV : Hid (refJoin L n a b = -1) := by show _ = _; rw [HF.out, firstFrom_end]
      clear HF
      go_wp2
      go_ret
      exact ⟨by rw [HV.out]; rfl, HB1.out.trans (HBwr.out.mono HB1.out.size)⟩

set_option maxRecDepth 100000 in
set_option maxHeartbeats 2000000 in
theorem rmeet_at (g n cap : Nat) (r c : Nat → Nat) (T : Nat → Nat → Bool) (a b : Int) (w : World) (hn : n ≤ 16) (G : GridAt w g r c n T) :
    Calls Try.prog 23 #[.agg #[.slice (some ⟨g, 0, none⟩) n cap], .int .i64 a, .int .i64 b] w (Gets w (.int .i64 (refJoin (fun x y => leqB n T y x) n a b))) := by
  obtain ⟨L, hL⟩ : ∃ L : Int → Int → Bool, L = (fun x y => leqB n T y x) := ⟨_, rfl⟩
  have HL : Hid (∀ x y, leqB n T y x = L x y) := fun x y => by rw [hL]
  rw [← hL]
  clear hL
  go_enter Try.func23, Try.ntmps23
  go_wp2
  obtain ⟨w1, hw1⟩ : ∃ w1, w1 = w.alloc (Obj.cells #[Value.slice (some { block := g, off := 0 }) n cap] 31) := ⟨_, rfl⟩
  rw [← hw1]
  have hb1 : Below w.heap.size w w1 := by rw [hw1]; exact (Below.refl _ _).alloc (Nat.le_refl _) _
  have hx1 : w1.cell? ⟨w.heap.size, 0, none⟩ = some (.slice (some ⟨g, 0, none⟩) n cap) := by rw [hw1]; exact World.cell?_alloc_new w _ _ 0
  have hs1 : w.heap.size < w1.heap.size := by rw [hw1]; simp
  have HB1 := Lib.hid hb1
  have HX1 := Lib.hid hx1
  have G1 := Lib.hid (G.below hb1)
  clear hw1 hb1 hx1 G
  go_loopw [7] (fun i wr => ∃ k : Nat, k ≤ n ∧ i = .int .i64 k ∧ refJoin L n a b = firstFrom (fun c => leastTo L a b c n) k (n - k) ∧ Below w1.heap.size w1 wr) (fun i _ => n - (intOf i).toNat)
  case atStart => exact ⟨0, Nat.zero_le _, rfl, by rw [refJoin, Nat.sub_zero], Below.refl _ _⟩
  case round =>
    obtain ⟨k, hk, rfl, hf, hb⟩ := hrel
    have HF := Lib.hid hf
    have HBwr := Lib.hid hb
    have Gwr := G1.out.below hb
    obtain ⟨hxwr, hswr⟩ := box_later HX1.out hs1 hb
    clear hf hb
    by_cases hlt : k < n
    · go_upto_region 4 with (fail)
      go_cut [8] (fun v wx => v = .bool (leastTo L a b k 0) ∧ Below w1.heap.size w1 wx)
      case first =>
        cases hla : L a k
        · have HA : Hid (leqB n T k a = false) := by show _ = _; rw [HL.out, hla]
          have HE : Hid (leastTo L a b k 0 = false) := by show _ = _; rw [leastTo, hla]; rfl
          clear hla
          go_wp2_with fail
          with_reducible refine (rleq_is g n cap r c T k a false wr Gwr HA.out).mono ?_
          rintro e wa ⟨rfl, hbwa⟩
          have HBwa : Hid (Below w1.heap.size w1 wa) := HBwr.out.trans (hbwa.mono HBwr.out.size)
          have Gwa := Gwr.below hbwa
          obtain ⟨hxwa, hswa⟩ := box_later hxwr hswr hbwa
          clear hbwa HBwr Gwr hxwr hswr
          go_wp2_with fail
          go_meet
          exact ⟨by rw [HE.out], HBwa.out⟩
        · obtain ⟨lb, hlb⟩ : ∃ v, L b k = v := ⟨_, rfl⟩
          have HA : Hid (leqB n T k a = true) := by show _ = _; rw [HL.out, hla]
          have HBb : Hid (leqB n T k b = lb) := by show _ = _; rw [HL.out, hlb]
          have HE : Hid (leastTo L a b k 0 = lb) := by show _ = _; rw [leastTo, hla, hlb]; simp [allTo]
          clear hla hlb
          go_wp2_with fail
          with_reducible refine (rleq_is g n cap r c T k a true wr Gwr HA.out).mono ?_
          rintro e wa ⟨rfl, hbwa⟩
          have HBwa : Hid (Below w1.heap.size w1 wa) := HBwr.out.trans (hbwa.mono HBwr.out.size)
          have Gwa := Gwr.below hbwa
          obtain ⟨hxwa, hswa⟩ := box_later hxwr hswr hbwa
          clear hbwa HBwr Gwr hxwr hswr
          go_wp2_with fail
          with_reducible refine (rleq_is g n cap r c T k b lb wa Gwa HBb.out).mono ?_
          rintro e wb ⟨rfl, hbwb⟩
          have HBwb : Hid (Below w1.heap.size w1 wb) := HBwa.out.trans (hbwb.mono HBwa.out.size)
          have Gwb := Gwa.below hbwb
          obtain ⟨hxwb, hswb⟩ := box_later hxwa hswa hbwb
          clear hbwb HBwa Gwa hxwa hswa
          go_wp2_with fail
          go_meet
          exact ⟨by rw [HE.out], HBwb.out⟩
      case rest =>
        obtain ⟨rfl, hbc⟩ := hcut
        have HBC := Lib.hid hbc
        clear HBwr Gwr hxwr hswr hbc
        go_wp2
        go_loopw [8, 9] (fun v i wr => ∃ d : Nat, d ≤ n ∧ i = .int .i64 d ∧ v = .bool (leastTo L a b k d) ∧ Below w1.heap.size w1 wr) (fun _ i _ => n - (intOf i).toNat)
        case atStart => exact ⟨0, Nat.zero_le _, rfl, rfl, HBC.out⟩
        case round =>
          clear HBC
          obtain ⟨d, hd, rfl, rfl, hb⟩ := hrel
          have HBwr := Lib.hid hb
          have Gwr := G1.out.below hb
          obtain ⟨hxwr, hswr⟩ := box_later HX1.out hs1 hb
          clear hb
          by_cases hltd : d < n
          · go_upto_region 8 with (fail)
            go_cut [50] (fun v wx => v = .bool ((L a d && L b d) && !L k d) ∧ Below w1.heap.size w1 wx)
            case first =>
              cases hla : L a d
              · have HA : Hid (leqB n T d a = false) := by show _ = _; rw [HL.out, hla]
                have HE : Hid (((L a d && L b d) && !L k d) = false) := by show _ = _; rw [hla]; rfl
                clear hla
                go_wp2_with fail
                with_reducible refine (rleq_is g n cap r c T d a false wr Gwr HA.out).mono ?_
                rintro e wa ⟨rfl, hbwa⟩
                have HBwa : Hid (Below w1.heap.size w1 wa) := HBwr.out.trans (hbwa.mono HBwr.out.size)
                have Gwa := Gwr.below hbwa
                obtain ⟨hxwa, hswa⟩ := box_later hxwr hswr hbwa
                clear hbwa HBwr Gwr hxwr hswr
                go_wp2_with fail
                go_meet
                exact ⟨by rw [HE.out], HBwa.out⟩
              · have HA : Hid (leqB n T d a = true) := by show _ = _; rw [HL.out, hla]
                cases hlb : L b d
                · have HBb : Hid (leqB n T d b = false) := by show _ = _; rw [HL.out, hlb]
                  have HE : Hid (((L a d && L b d) && !L k d) = false) := by show _ = _; rw [hla, hlb]; rfl
                  clear hla hlb
                  go_wp2_with fail
                  with_reducible refine (rleq_is g n cap r c T d a true wr Gwr HA.out).mono ?_
                  rintro e wa ⟨rfl, hbwa⟩
                  have HBwa : Hid (Below w1.heap.size w1 wa) := HBwr.out.trans (hbwa.mono HBwr.out.size)
                  have Gwa := Gwr.below hbwa
                  obtain ⟨hxwa, hswa⟩ := box_later hxwr hswr hbwa
                  clear hbwa HBwr Gwr hxwr hswr
                  go_wp2_with fail
                  with_reducible refine (rleq_is g n cap r c T d b false wa Gwa HBb.out).mono ?_
                  rintro e wb ⟨rfl, hbwb⟩
                  have HBwb : Hid (Below w1.heap.size w1 wb) := HBwa.out.trans (hbwb.mono HBwa.out.size)
                  have Gwb := Gwa.below hbwb
                  obtain ⟨hxwb, hswb⟩ := box_later hxwa hswa hbwb
                  clear hbwb HBwa Gwa hxwa hswa
                  go_wp2_with fail
                  go_meet
                  exact ⟨by rw [HE.out], HBwb.out⟩
                · have HBb : Hid (leqB n T d b = true) := by show _ = _; rw [HL.out, hlb]
                  obtain ⟨lc, hlc⟩ : ∃ v, L k d = v := ⟨_, rfl⟩
                  have HC : Hid (leqB n T d k = lc) := by show _ = _; rw [HL.out, hlc]
                  have HE : Hid (((L a d && L b d) && !L k d) = !lc) := by show _ = _; rw [hla, hlb, hlc]; rfl
                  clear hla hlb hlc
                  go_wp2_with fail
                  with_reducible refine (rleq_is g n cap r c T d a true wr Gwr HA.out).mono ?_
                  rintro e wa ⟨rfl, hbwa⟩
                  have HBwa : Hid (Below w1.heap.size w1 wa) := HBwr.out.trans (hbwa.mono HBwr.out.size)
                  have Gwa := Gwr.below hbwa
                  obtain ⟨hxwa, hswa⟩ := box_later hxwr hswr hbwa
                  clear hbwa HBwr Gwr hxwr hswr
                  go_wp2_with fail
                  with_reducible refine (rleq_is g n cap r c T d b true wa Gwa HBb.out).mono ?_
                  rintro e wb ⟨rfl, hbwb⟩
                  have HBwb : Hid (Below w1.heap.size w1 wb) := HBwa.out.trans (hbwb.mono HBwa.out.size)
                  have Gwb := Gwa.below hbwb
                  obtain ⟨hxwb, hswb⟩ := box_later hxwa hswa hbwb
                  clear hbwb HBwa Gwa hxwa hswa
                  go_wp2_with fail
                  with_reducible refine (rleq_is g n cap r c T d k lc wb Gwb HC.out).mono ?_
                  rintro e wc ⟨rfl, hbwc⟩
                  have HBwc : Hid (Below w1.heap.size w1 wc) := HBwb.out.trans (hbwc.mono HBwb.out.size)
                  have Gwc := Gwb.below hbwc
                  obtain ⟨hxwc, hswc⟩ := box_later hxwb hswb hbwc
                  clear hbwc HBwb Gwb hxwb hswb
                  go_wp2_with fail
                  go_meet
                  exact ⟨by rw [HE.out], HBwc.out⟩
            case rest =>
              obtain ⟨rfl, hbc⟩ := hcut
              have HBC := Lib.hid hbc
              clear HBwr Gwr hxwr hswr hbc
              cases hv : ((L a d && L b d) && !L k d)
              · have HV : Hid (leastTo L a b k (d + 1) = leastTo L a b k d) := by show _ = _; rw [leastTo_succ, hv]; simp
                clear hv
                go_wp2
                go_roundw
                case rel => exact ⟨d + 1, by omega, by go_num, by rw [HV.out], HBC.out⟩
                case measure => simp [intOf]; omega
              · have HV : Hid (leastTo L a b k (d + 1) = false) := by show _ = _; rw [leastTo_succ, hv]; simp
                clear hv
                go_wp2
                go_roundw
                case rel => exact ⟨d + 1, by omega, by go_num, by rw [HV.out], HBC.out⟩
                case measure => simp [intOf]; omega
          · obtain rfl : n = d := by omega
            cases hv : leastTo L a b k n
            · have HV := Lib.hid (firstFrom_no (p := fun c => leastTo L a b c n) hv hlt)
              clear hv
              go_wp2
              go_roundw
              case rel => exact ⟨k + 1, by omega, by go_num, by rw [HF.out, HV.out], HBwr.out⟩
              case measure => simp [intOf]; omega
            · have HV := Lib.hid (firstFrom_yes (p := fun c => leastTo L a b c n) hv hlt)
              clear hv
              go_wp2
              go_ret
              exact ⟨by rw [HF.out, HV.out]; rfl, HB1.out.trans (HBwr.out.mono HB1.out.size)⟩
    · obtain rfl : n = k := by omega
      have HV : Hid (refJoin L n a b = -1) := by show _ = _; rw [HF.out, firstFrom_end]
      clear HF
      go_wp2
      go_ret
      exact ⟨by rw [HV.out]; rfl, HB1.out.trans (HBwr.out.mono HB1.out.size)⟩

set_option maxRecDepth 100000 in
set_option maxHeartbeats 1000000 in
theorem rbottom_at (g n cap : Nat) (r c : Nat → Nat) (T : Nat → Nat → Bool) (w : World) (hn : n ≤ 16) (G : GridAt w g r c n T) :
    Calls Try.prog 24 #[.agg #[.slice (some ⟨g, 0, none⟩) n cap]] w (Gets w (.int .i64 (firstFrom (fun c => allTo (fun d => T c d) n) 0 n))) := by
  obtain ⟨F, hF⟩ : ∃ F, F = firstFrom (fun c => allTo (fun d => T c d) n) 0 n := ⟨_, rfl⟩
  rw [← hF]
  have HF0 := Lib.hid hF
  clear hF
  go_enter Try.func24, Try.ntmps24
  go_wp2
  obtain ⟨w1, hw1⟩ : ∃ w1, w1 = w.alloc (Obj.cells #[Value.slice (some { block := g, off := 0 }) n cap] 31) := ⟨_, rfl⟩
  rw [← hw1]
  have hb1 : Below w.heap.size w w1 := by rw [hw1]; exact (Below.refl _ _).alloc (Nat.le_refl _) _
  have hx1 : w1.cell? ⟨w.heap.size, 0, none⟩ = some (.slice (some ⟨g, 0, none⟩) n cap) := by rw [hw1]; exact World.cell?_alloc_new w _ _ 0
  have HB1 := Lib.hid hb1
  have G1 := Lib.hid (G.below hb1)
  clear hw1 hb1 G
  go_loop [3] (fun i => ∃ k : Nat, k ≤ n ∧ i = .int .i64 k ∧ F = firstFrom (fun c => allTo (fun d => T c d) n) k (n - k)) (fun i => n - (intOf i).toNat)
  case atStart => exact ⟨0, Nat.zero_le _, rfl, by rw [Nat.sub_zero]; exact HF0.out⟩
  case round =>
    obtain ⟨k, hk, rfl, hf⟩ := hrel
    have HF := Lib.hid hf
    clear hf
    by_cases hlt : k < n
    · go_wp2
      go_loop [4, 5] (fun v i => ∃ d : Nat, d ≤ n ∧ i = .int .i64 d ∧ v = .bool (allTo (fun d => T k d) d)) (fun _ i => n - (intOf i).toNat)
      case atStart => exact ⟨0, Nat.zero_le _, rfl, rfl⟩
      case round =>
        obtain ⟨d, hd, rfl, rfl⟩ := hrel
        by_cases hltd : d < n
        · have hr := G1.out.row k (by omega)
          have hc := G1.out.cell k d (by omega) (by omega)
          cases hv : allTo (fun d => T k d) d
          · have HV : Hid (allTo (fun d => T k d) (d + 1) = false) := by show _ = _; rw [allTo, hv]; rfl
            clear hv
            go_wp2
            go_round
            case rel => exact ⟨d + 1, by omega, by go_num, by rw [HV.out]⟩
            case measure => simp [intOf]; omega
          · have HV : Hid (allTo (fun d => T k d) (d + 1) = T k d) := by show _ = _; rw [allTo, hv]; rfl
            clear hv
            go_wp2
            go_round
            case rel => exact ⟨d + 1, by omega, by go_num, by rw [HV.out]⟩
            case measure => simp [intOf]; omega
        · obtain rfl : n = d := by omega
          cases hv : allTo (fun d => T k d) n
          · have HV := Lib.hid (firstFrom_no (p := fun c => allTo (fun d => T c d) n) hv hlt)
            clear hv
            go_wp2
            go_round
            case rel => exact ⟨k + 1, by omega, by go_num, by rw [HF.out, HV.out]⟩
            case measure => simp [intOf]; omega
          · have HV := Lib.hid (firstFrom_yes (p := fun c => allTo (fun d => T c d) n) hv hlt)
            clear hv
            go_wp2
            go_ret
            exact ⟨by rw [HF.out, HV.out]; rfl, HB1.out⟩
    · obtain rfl : n = k := by omega
      have HV : Hid (F = -1) := by show _ = _; rw [HF.out, firstFrom_end]
      clear HF HF0
      go_wp2
      go_ret
      exact ⟨by rw [HV.out]; rfl, HB1.out⟩

set_option maxRecDepth 100000 in
set_option maxHeartbeats 1000000 in
theorem rtop_at (g n cap : Nat) (r c : Nat → Nat) (T : Nat → Nat → Bool) (w : World) (hn : n ≤ 16) (G : GridAt w g r c n T) :
    Calls Try.prog 25 #[.agg #[.slice (some ⟨g, 0, none⟩) n cap]] w (Gets w (.int .i64 (firstFrom (fun c => allTo (fun d => T d c) n) 0 n))) := by
  obtain ⟨F, hF⟩ : ∃ F, F = firstFrom (fun c => allTo (fun d => T d c) n) 0 n := ⟨_, rfl⟩
  rw [← hF]
  have HF0 := Lib.hid hF
  clear hF
  go_enter Try.func25, Try.ntmps25
  go_wp2
  obtain ⟨w1, hw1⟩ : ∃ w1, w1 = w.alloc (Obj.cells #[Value.slice (some { block := g, off := 0 }) n cap] 31) := ⟨_, rfl⟩
  rw [← hw1]
  have hb1 : Below w.heap.size w w1 := by rw [hw1]; exact (Below.refl _ _).alloc (Nat.le_refl _) _
  have hx1 : w1.cell? ⟨w.heap.size, 0, none⟩ = some (.slice (some ⟨g, 0, none⟩) n cap) := by rw [hw1]; exact World.cell?_alloc_new w _ _ 0
  have HB1 := Lib.hid hb1
  have G1 := Lib.hid (G.below hb1)
  clear hw1 hb1 G
  go_loop [3] (fun i => ∃ k : Nat, k ≤ n ∧ i = .int .i64 k ∧ F = firstFrom (fun c => allTo (fun d => T d c) n) k (n - k)) (fun i => n - (intOf i).toNat)
  case atStart => exact ⟨0, Nat.zero_le _, rfl, by rw [Nat.sub_zero]; exact HF0.out⟩
  case round =>
    obtain ⟨k, hk, rfl, hf⟩ := hrel
    have HF := Lib.hid hf
    clear hf
    by_cases hlt : k < n
    · go_wp2
      go_loop [4, 5] (fun v i => ∃ d : Nat, d ≤ n ∧ i = .int .i64 d ∧ v = .bool (allTo (fun d => T d k) d)) (fun _ i => n - (intOf i).toNat)
      case atStart => exact ⟨0, Nat.zero_le _, rfl, rfl⟩
      case round =>
        obtain ⟨d, hd, rfl, rfl⟩ := hrel
        by_cases hltd : d < n
        · have hr := G1.out.row d (by omega)
          have hc := G1.out.cell d k (by omega) (by omega)
          cases hv : allTo (fun d => T d k) d
          · have HV : Hid (allTo (fun d => T d k) (d + 1) = false) := by show _ = _; rw [allTo, hv]; rfl
            clear hv
            go_wp2
            go_round
            case rel => exact ⟨d + 1, by omega, by go_num, by rw [HV.out]⟩
            case measure => simp [intOf]; omega
          · have HV : Hid (allTo (fun d => T d k) (d + 1) = T d k) := by show _ = _; rw [allTo, hv]; rfl
            clear hv
            go_wp2
            go_round
            case rel => exact ⟨d + 1, by omega, by go_num, by rw [HV.out]⟩
            case measure => simp [intOf]; omega
        · obtain rfl : n = d := by omega
          cases hv : allTo (fun d => T d k) n
          · have HV := Lib.hid (firstFrom_no (p := fun c => allTo (fun d => T d c) n) hv hlt)
            clear hv
            go_wp2
            go_round
            case rel => exact ⟨k + 1, by omega, by go_num, by rw [HF.out, HV.out]⟩
            case measure => simp [intOf]; omega
          · have HV := Lib.hid (firstFrom_yes (p := fun c => allTo (fun d => T d c) n) hv hlt)
            clear hv
            go_wp2
            go_ret
            exact ⟨by rw [HF.out, HV.out]; rfl, HB1.out⟩
    · obtain rfl : n = k := by omega
      have HV : Hid (F = -1) := by show _ = _; rw [HF.out, firstFrom_end]
      clear HF HF0
      go_wp2
      go_ret
      exact ⟨by rw [HV.out]; rfl, HB1.out⟩
end Go.Proofs.Ytgkbmdlbljjbfaa
