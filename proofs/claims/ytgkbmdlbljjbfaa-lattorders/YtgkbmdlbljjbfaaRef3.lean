/-
  The walk of the reference's table, its two parts.
-/
import Derived.Test.YtgkbmdlbljjbfaaRef2
namespace Go.Proofs.Ytgkbmdlbljjbfaa
open Go.RowKit

/-- The tables that the second part makes, one after the other. -/
def War (F : Nat → Nat → Bool) : Nat → Nat → Nat → Bool
  | 0 => F
  | c + 1 => fun a b => War F c a b || (War F c a c && War F c c b)

/-- In the midst of a pass. -/
def midW (F : Nat → Nat → Bool) (c a b : Nat) : Nat → Nat → Bool := fun x y => if x < a ∨ (x = a ∧ y < b) then War F (c + 1) x y else War F c x y

theorem War_col (F : Nat → Nat → Bool) (c a : Nat) : War F (c + 1) a c = War F c a c := by
  simp only [War]; cases War F c a c <;> simp
theorem War_row (F : Nat → Nat → Bool) (c b : Nat) : War F (c + 1) c b = War F c c b := by
  simp only [War]; cases War F c c b <;> simp
theorem midW_here (F : Nat → Nat → Bool) (c a b : Nat) : midW F c a b a b = War F c a b := by simp [midW]
theorem midW_col (F : Nat → Nat → Bool) (c a b : Nat) : midW F c a b a c = War F c a c := by
  unfold midW; split
  · exact War_col F c a
  · rfl
theorem midW_row (F : Nat → Nat → Bool) (c a b : Nat) : midW F c a b c b = War F c c b := by
  unfold midW; split
  · exact War_row F c b
  · rfl
theorem midW_start (F : Nat → Nat → Bool) (c x y : Nat) : midW F c 0 0 x y = War F c x y := by simp [midW]
theorem midW_next (F : Nat → Nat → Bool) (c a n x y : Nat) (hy : y < n) : midW F c a n x y = midW F c (a + 1) 0 x y := by
  unfold midW
  by_cases h : x < a
  · simp [h, Nat.lt_succ_of_lt h]
  · by_cases e : x = a
    · subst e; simp [hy]
    · have : ¬ x < a + 1 := by omega
      simp [h, e, this]
theorem midW_end (F : Nat → Nat → Bool) (c n x y : Nat) (hx : x < n) : midW F c n 0 x y = War F (c + 1) x y := by simp [midW, hx]
theorem midW_step (F : Nat → Nat → Bool) (c a b x y : Nat) : midW F c a (b + 1) x y = if x = a ∧ y = b then War F (c + 1) a b else midW F c a b x y := by
  unfold midW
  by_cases e : x = a
  · subst e
    by_cases e2 : y = b
    · subst e2; simp
    · have : y < b + 1 ↔ y < b := by omega
      simp [e2, this]
  · simp [e]

/-- The rows in the second part. -/
structure Tab2 (w : World) (B g n : Nat) (r : Nat → Nat) (M : Nat → Nat → Bool) : Prop where
  lt : g < w.heap.size
  ref : ∀ i, i < n → w.cell? ⟨g, i, none⟩ = some (.slice (some ⟨r i, 0, none⟩) n n)
  rows : ∀ i, i < n → RowAt w (r i) n (M i)
  ge : ∀ i, i < n → B ≤ r i
  ne : ∀ i, i < n → g ≠ r i
  inj : ∀ i j, i < n → j < n → r i = r j → i = j

theorem Tab2.drewN {w : World} {B g n : Nat} {r : Nat → Nat} {M : Nat → Nat → Bool} (h : Tab2 w B g n r M) (m : Nat) : Tab2 (w.drewN m) B g n r M := ⟨h.lt, h.ref, fun i hi => ⟨(h.rows i hi).lt, (h.rows i hi).cell, (h.rows i hi).nf⟩, h.ge, h.ne, h.inj⟩
theorem Tab2.congr {w : World} {B g n : Nat} {r : Nat → Nat} {M M' : Nat → Nat → Bool} (h : Tab2 w B g n r M) (e : ∀ i j, i < n → j < n → M i j = M' i j) : Tab2 w B g n r M' :=
  ⟨h.lt, h.ref, fun i hi => (h.rows i hi).congr (fun j hj => e i j hi hj), h.ge, h.ne, h.inj⟩
theorem Tab2.set {w : World} {B g n : Nat} {r : Nat → Nat} {M : Nat → Nat → Bool} (h : Tab2 w B g n r M) (a b : Nat) (ha : a < n) (hb : b < n) (v : Bool) :
    Tab2 (w.setCell ⟨r a, b, none⟩ (.bool v)) B g n r (fun x y => if x = a ∧ y = b then v else M x y) := by
  have hs : (w.setCell ⟨r a, b, none⟩ (.bool v)).heap.size = w.heap.size := Go.Deep.nblk_setCell _ _ _
  refine ⟨by rw [hs]; exact h.lt, fun i hi => ?_, fun i hi => ?_, h.ge, h.ne, h.inj⟩
  · rw [World.cell?_of_block (w := w) (Below.heap_setCell _ _ _ _ (h.ne a ha))]; exact h.ref i hi
  · by_cases e : i = a
    · subst e
      exact ((h.rows i ha).set b hb v).congr fun j _ => by simp
    · refine ((h.rows i hi).far (Below.heap_setCell _ _ _ _ (fun e2 => e (h.inj i a hi ha e2))) (by rw [hs]; exact Nat.le_refl _)).congr fun j _ => by simp [e]

theorem Tab1.second {w : World} {B : Nat} {v : Value} {n : Nat} {r : Nat → Nat} {F : Nat → Nat → Bool} (hn : 0 < n) (h : Tab1 w B v n n r F) : ∃ g cap, v = .slice (some ⟨g, 0, none⟩) n cap ∧ B ≤ g ∧ Tab2 w B g n r F := by
  obtain ⟨h1, ⟨_, h3⟩ | ⟨g, cap, cur, h2, h3, h4, h5, h6, h7, h8⟩⟩ := h.own
  · omega
  · refine ⟨g, cap, h2, h3, (Array.getElem?_eq_some_iff.1 h4).1, fun i hi => ?_, h.rows, h.ge, fun i hi => ?_, h.inj⟩
    · have e : w.cell? ⟨g, i, none⟩ = cur[i]? := by simp [World.cell?, h4]
      rw [e, ← Array.getElem?_toList]
      have : (cur.toList.take (n * 1))[i]? = cur.toList[i]? := List.getElem?_take_of_lt (by omega)
      rw [← this, h8]
      simp [hi, rowVal]
    · intro e
      exact h.ne i hi (by rw [h2]; simp [Value.ownBlock, e])

theorem row_made {w : World} {B b n : Nat} {cap : Nat} (h : w.ownsRow B 4 1 (.slice (some ⟨b, 0, none⟩) n cap) n (madeCells #[Value.bool false] n).toList) : RowAt w b n (fun _ => false) := by
  refine ⟨(World.ownsRow.lt h b rfl).2, fun j hj => ?_, fun o => h.frozenAt o⟩
  rw [h.cellAt j (by omega), toList_madeCells_one]
  simp [hj]

theorem tab_take_succ (ps : List (Int × Int)) (q k j : Nat) (hq : q < ps.length) : tab (ps.take (q + 1)) k j = (tab (ps.take q) k j || ((ps[q]).1 == (k : Int) && (ps[q]).2 == (j : Int))) := by
  unfold tab
  rw [List.take_succ_eq_append_getElem hq, List.any_append]
  simp only [List.any_cons, List.any_nil, Bool.or_false]

theorem good_at {n : Nat} {ps : List (Int × Int)} (h : goodB n ps = true) (q : Nat) (hq : q < ps.length) : (0 ≤ (ps[q]).1 ∧ (ps[q]).1 < n) ∧ 0 ≤ (ps[q]).2 ∧ (ps[q]).2 < n := by
  unfold goodB at h
  have := List.all_eq_true.1 h (ps[q]) (List.getElem_mem hq)
  rw [Bool.and_eq_true, hasB_true, hasB_true] at this
  exact this

set_option maxRecDepth 100000 in
set_option maxHeartbeats 1000000 in
theorem rtable_at (n : Nat) (sa : Option Addr) (cap : Nat) (ps : List (Int × Int)) (w : World) (h1 : 1 ≤ n) (h16 : n ≤ 16) (hm : ps.length ≤ maxLen) (hp : PairsAt w sa ps) (hg : goodB n ps = true) :
    Calls Try.prog 32 #[.int .i64 n, .slice sa ps.length cap] w fun e w' => ∃ g cp r, e = .returned (.slice (some ⟨g, 0, none⟩) n cp) ∧ Tab2 w' w.heap.size g n r (War (baseTab ps) n) ∧ Below w.heap.size w w' := by
  obtain ⟨i0, hi, hz0, hz1, hz2⟩ := info_parts Try.infoBool
  obtain ⟨i1, hi', hy0, hy1, hy2⟩ := info_parts Try.infoRow
  unfold maxLen at hm
  have HP := Lib.hid hp
  have HG := Lib.hid hg
  clear hp hg
  go_enter Try.func32, Try.ntmps32
  go_wp2
  go_loopw [5, 6] (fun v i wr => ∃ (k : Nat) (r : Nat → Nat), k ≤ n ∧ i = .int .i64 k ∧ Tab1 wr w.heap.size v n k r (baseTab ps) ∧ Below w.heap.size w wr) (fun _ i _ => n - (intOf i).toNat)
  case atStart => exact ⟨0, fun _ => 0, Nat.zero_le _, rfl, Tab1.start _ _ _ _ _, Below.refl _ _⟩
  case round =>
    obtain ⟨k, r, hk, rfl, T1, hb⟩ := hrel
    have HT := Lib.hid T1
    have HB := Lib.hid hb
    have hbs := hb.size
    clear T1 hb
    by_cases hlt : k < n
    · go_wp2_with (first | (at_make; refine wpList_make_full _ rfl _ _ 55 rfl w.heap.size 4 i0 (.bool false) 1 Try.underlying55 hi hz0 hz1 .i64 .i64 _ _ n rfl rfl rfl rfl ?m1 ?m2 hbs ?_))
      case m1 => rw [hz2]; omega
      case m2 => unfold maxLen; omega
      intro w2 hrow hgr
      have R2 := row_made hrow
      obtain ⟨pn, hpn⟩ : ∃ pn, pn = wr.heap.size := ⟨_, rfl⟩
      have HT2 : Hid (Tab1 w2 w.heap.size _ n k r (baseTab ps)) := HT.out.kept pn hgr.size (fun q hq _ => hgr.block q hq (by simp)) (fun i hi => by have := (HT.out.rows i hi).lt; omega) (fun e => by have := (World.ownsRow.lt HT.out.own _ e).2; omega)
      have HB2 : Hid (Below w.heap.size w w2) := HB.out.grown hgr hbs (fun _ h => by cases h)
      have hri : ∀ i, i < k → r i ≠ pn := fun i hi => by have := (HT.out.rows i hi).lt; omega
      have HRI := Lib.hid hri
      have HPV : Hid (Value.ownBlock _ ≠ some pn) := fun e => by have := (World.ownsRow.lt HT.out.own _ e).2; omega
      have hpB : w.heap.size ≤ pn := by omega
      rw [← hpn] at R2 ⊢
      have hf2 := R2.nf k
      have hc2 := R2.cell k hlt
      have HR2 := Lib.hid R2
      clear hrow hgr HT HB hpn R2 hri hbs
      have hki : (k : Int) < (n : Int) := by omega
      go_wp2
      go_loopw [8] (fun i wr => ∃ q : Nat, q ≤ ps.length ∧ i = .int .i64 q ∧ RowAt wr pn n (fun j => decide (k = j) || tab (ps.take q) k j) ∧ Only pn w2 wr) (fun i _ => ps.length - (intOf i).toNat)
      case atStart =>
        refine ⟨0, Nat.zero_le _, rfl, (HR2.out.set k hlt true).congr fun j _ => ?_, (Only.refl _ _).setCell _ _⟩
        by_cases e : j = k
        · simp [e]
        · have e' : ¬ k = j := fun h => e h.symm
          simp [e, e', tab]
      case round =>
        clear hf2 hc2
        obtain ⟨q, hq, rfl, R, O⟩ := hrel
        have HR := Lib.hid R
        have HO := Lib.hid O
        by_cases hlq : q < ps.length
        · obtain ⟨pb, po, rfl, hpb, c0', c1'⟩ := HP.out q hlq
          have hbb : Below w.heap.size w wr := HB2.out.trans (O.below (by omega))
          obtain ⟨x, hx⟩ : ∃ x, (ps[q]).1 = x := ⟨_, rfl⟩
          obtain ⟨y, hy⟩ : ∃ y, (ps[q]).2 = y := ⟨_, rfl⟩
          obtain ⟨_, gy0, gy1⟩ := good_at HG.out q hlq
          rw [hx] at c0'
          rw [hy] at c1' gy0 gy1
          have c0 : wr.cell? ⟨pb, po + q * 2, none⟩ = some (.int .i64 x) := by rw [hbb.cell (p := ⟨pb, _, none⟩) hpb]; exact c0'
          have c1 : wr.cell? ⟨pb, po + q * 2 + 1, none⟩ = some (.int .i64 y) := by rw [hbb.cell (p := ⟨pb, _, none⟩) hpb]; exact c1'
          have HS := Lib.hid (fun j => tab_take_succ ps q k j hlq)
          rw [hx, hy] at HS
          have hf := R.nf y.toNat
          have hcy := R.cell y.toNat (by omega)
          have hqi : (q : Int) < (ps.length : Int) := by omega
          clear hx hy c0' c1' hbb R O
          by_cases hxk : x = (k : Int)
          · have hxk1 : (x == (k : Int)) = true := by simp [hxk]
            have HXK := Lib.hid hxk
            clear hxk
            go_wp2
            go_roundw
            case rel =>
              refine ⟨q + 1, by omega, by go_num, (HR.out.set y.toNat (by omega) true).congr fun j _ => ?_, HO.out.setCell _ _⟩
              have e3 : (x == (k : Int)) = true := by simp [HXK.out]
              rw [HS.out j, e3]
              by_cases e : j = y.toNat
              · have h5 : (y == (j : Int)) = true := by simp; omega
                simp [e]; right; omega
              · have : (y == (j : Int)) = false := by simp; omega
                simp [e, this]
            case measure => simp [intOf]; omega
          · have hxk1 : (x == (k : Int)) = false := by simp [hxk]
            have HXK := Lib.hid hxk1
            clear hxk
            go_wp2
            go_roundw
            case rel =>
              refine ⟨q + 1, by omega, by go_num, HR.out.congr fun j _ => ?_, HO.out⟩
              rw [HS.out j, HXK.out]; simp
            case measure => simp [intOf]; omega
        · obtain rfl : ps.length = q := by omega
          rw [List.take_length] at HR
          have HTw : Hid (Tab1 wr w.heap.size _ n k r (baseTab ps)) := HT2.out.kept pn (by rw [O.size]; exact Nat.le_refl _) (fun q _ hq => O.block q hq) HRI.out HPV.out
          have HBw : Hid (Below w.heap.size w wr) := HB2.out.trans (O.below (by omega))
          have hbs : w.heap.size ≤ wr.heap.size := HBw.out.size
          clear R O HO HT2 HB2
          go_wp2_with (first | (at_builtin; refine wpList_append_lies _ rfl _ _ 29 rfl w.heap.size 55 i1 (.slice none 0 0) 1 24 Try.underlying29 hi' hy0 hy1 hy2 rfl (by decide) _ k _ rfl (HTw.out.own.alloc _) ⟨wr.heap.size, 0, none⟩ 1 1 [.slice (some ⟨pn, 0, none⟩) n n] rfl rfl ?c1 ?c2 ?c3 ?c4 ?c5 ?c6 (wr.heap.size + 1) ?c7 ?_))
          case c1 => exact World.news_of_block (cs := #[.slice (some ⟨pn, 0, none⟩) n n]) (t := 55) (fr := (0, 0)) (Go.Deep.blk_alloc_new wr _)
          case c2 => intro u hu; simp at hu; subst hu; rfl
          case c3 => omega
          case c4 => unfold maxLen; omega
          case c5 => omega
          case c6 => simp; omega
          case c7 => simp
          intro gg cp w3 hown3 hg3 hat _
          have HT3 := Lib.hid (Tab1.more HTw.out HR.out (by omega) HRI.out HPV.out rfl hown3 hg3 (by simpa using hat))
          have HB3 : Hid (Below w.heap.size w w3) := (HBw.out.alloc hbs _).grown hg3 (by simp; omega) (fun q hq => (World.ownsRow.lt HTw.out.own q hq).1)
          clear hown3 hg3 hat HTw HBw
          go_wp2
          go_roundw
          case rel => exact ⟨k + 1, _, by omega, by go_num, HT3.out, HB3.out⟩
          case measure => simp [intOf]; omega
    · obtain rfl : n = k := by omega
      obtain ⟨g, cp, rfl, hgB, T2⟩ := HT.out.second (by omega)
      have HT2 := Lib.hid T2
      clear HT T2 HP HG
      go_wp2
      go_loopw [9] (fun i wr => ∃ c : Nat, c ≤ n ∧ i = .int .i64 c ∧ Tab2 wr w.heap.size g n r (War (baseTab ps) c) ∧ Below w.heap.size w wr) (fun i _ => n - (intOf i).toNat)
      case atStart => exact ⟨0, Nat.zero_le _, rfl, HT2.out, HB.out⟩
      case round =>
        clear HT2 HB hbs
        obtain ⟨c, hc, rfl, T, hb⟩ := hrel
        have HT := Lib.hid T
        have HB := Lib.hid hb
        clear T hb
        by_cases hlc : c < n
        · go_wp2
          go_loopw [10] (fun i wr => ∃ a : Nat, a ≤ n ∧ i = .int .i64 a ∧ Tab2 wr w.heap.size g n r (midW (baseTab ps) c a 0) ∧ Below w.heap.size w wr) (fun i _ => n - (intOf i).toNat)
          case atStart => exact ⟨0, Nat.zero_le _, rfl, HT.out.congr (fun x y _ _ => (midW_start _ c x y).symm), HB.out⟩
          case round =>
            clear HT HB
            obtain ⟨a, ha, rfl, T, hb⟩ := hrel
            have HT := Lib.hid T
            have HB := Lib.hid hb
            clear T hb
            by_cases hla : a < n
            · go_wp2
              go_loopw [11] (fun i wr => ∃ b : Nat, b ≤ n ∧ i = .int .i64 b ∧ Tab2 wr w.heap.size g n r (midW (baseTab ps) c a b) ∧ Below w.heap.size w wr) (fun i _ => n - (intOf i).toNat)
              case atStart => exact ⟨0, Nat.zero_le _, rfl, HT.out, HB.out⟩
              case round =>
                clear HT HB
                obtain ⟨b, hb', rfl, T, hb⟩ := hrel
                have HB := Lib.hid hb
                have HT := Lib.hid T
                clear hb
                by_cases hlb : b < n
                · have ca := T.ref a hla
                  have cc := T.ref c hlc
                  have cab := (T.rows a hla).cell b hlb
                  have cac := (T.rows a hla).cell c hlc
                  have ccb := (T.rows c hlc).cell b hlb
                  rw [midW_here] at cab
                  rw [midW_col] at cac
                  rw [midW_row] at ccb
                  have hai : (a : Int) < (n : Int) := by omega
                  have hbi : (b : Int) < (n : Int) := by omega
                  have hci : (c : Int) < (n : Int) := by omega
                  clear T
                  obtain ⟨vab, hvab⟩ : ∃ v, War (baseTab ps) c a b = v := ⟨_, rfl⟩
                  obtain ⟨vac, hvac⟩ : ∃ v, War (baseTab ps) c a c = v := ⟨_, rfl⟩
                  obtain ⟨vcb, hvcb⟩ : ∃ v, War (baseTab ps) c c b = v := ⟨_, rfl⟩
                  have HW : Hid (War (baseTab ps) (c + 1) a b = (vab || (vac && vcb))) := by show (War (baseTab ps) c a b || (War (baseTab ps) c a c && War (baseTab ps) c c b)) = _; rw [hvab, hvac, hvcb]
                  rw [hvab] at cab
                  rw [hvac] at cac
                  rw [hvcb] at ccb
                  clear hvab hvac hvcb
                  cases vab
                  · cases vac
                    · go_wp2
                      obtain ⟨w1, hw1⟩ : ∃ w1, wr.drew = w1 := ⟨_, rfl⟩
                      have ca1 : w1.cell? ⟨g, a, none⟩ = some (.slice (some ⟨r a, 0, none⟩) n n) := by rw [← hw1]; exact ca
                      have cc1 : w1.cell? ⟨g, c, none⟩ = some (.slice (some ⟨r c, 0, none⟩) n n) := by rw [← hw1]; exact cc
                      have cab1 : w1.cell? ⟨r a, b, none⟩ = some (.bool false) := by rw [← hw1]; exact cab
                      have cac1 : w1.cell? ⟨r a, c, none⟩ = some (.bool false) := by rw [← hw1]; exact cac
                      have ccb1 : w1.cell? ⟨r c, b, none⟩ = some (.bool vcb) := by rw [← hw1]; exact ccb
                      have HT1 : Hid (Tab2 w1 w.heap.size g n r (midW (baseTab ps) c a b)) := by rw [← hw1]; exact HT.out.drewN 1
                      have HB1 : Hid (Below w.heap.size w w1) := by rw [← hw1]; exact HB.out.drew
                      have hf1 := (HT1.out.rows a hla).nf b
                      refine wp_region_quiet_tail 31 (by kernel_rfl) (by kernel_rfl) w1 hw1 ?_
                      clear hw1 ca cc cab cac ccb HT HB
                      simp only [List.take_succ_cons, List.take_zero, List.drop_succ_cons, List.drop_zero]
                      repeat (go_big_quiet_step (fail))
                      refine wpQuiet_nil ?_
                      go_wp2
                      go_roundw
                      case rel => exact ⟨b + 1, by omega, by go_num, (HT1.out.set a b hla hlb _).congr (fun x y _ _ => by rw [midW_step, HW.out]; rfl), HB1.out.setCell (HT1.out.ge a hla) _⟩
                      case measure => simp [intOf]; omega
                    · go_wp2
                      obtain ⟨w1, hw1⟩ : ∃ w1, wr.drew = w1 := ⟨_, rfl⟩
                      have ca1 : w1.cell? ⟨g, a, none⟩ = some (.slice (some ⟨r a, 0, none⟩) n n) := by rw [← hw1]; exact ca
                      have cc1 : w1.cell? ⟨g, c, none⟩ = some (.slice (some ⟨r c, 0, none⟩) n n) := by rw [← hw1]; exact cc
                      have cab1 : w1.cell? ⟨r a, b, none⟩ = some (.bool false) := by rw [← hw1]; exact cab
                      have cac1 : w1.cell? ⟨r a, c, none⟩ = some (.bool true) := by rw [← hw1]; exact cac
                      have ccb1 : w1.cell? ⟨r c, b, none⟩ = some (.bool vcb) := by rw [← hw1]; exact ccb
                      have HT1 : Hid (Tab2 w1 w.heap.size g n r (midW (baseTab ps) c a b)) := by rw [← hw1]; exact HT.out.drewN 1
                      have HB1 : Hid (Below w.heap.size w w1) := by rw [← hw1]; exact HB.out.drew
                      have hf1 := (HT1.out.rows a hla).nf b
                      refine wp_region_quiet_tail 31 (by kernel_rfl) (by kernel_rfl) w1 hw1 ?_
                      clear hw1 ca cc cab cac ccb HT HB
                      simp only [List.take_succ_cons, List.take_zero, List.drop_succ_cons, List.drop_zero]
                      repeat (go_big_quiet_step (fail))
                      refine wpQuiet_nil ?_
                      go_wp2
                      go_roundw
                      case rel => exact ⟨b + 1, by omega, by go_num, (HT1.out.set a b hla hlb _).congr (fun x y _ _ => by rw [midW_step, HW.out]; rfl), HB1.out.setCell (HT1.out.ge a hla) _⟩
                      case measure => simp [intOf]; omega
                  · go_wp2
                    obtain ⟨w1, hw1⟩ : ∃ w1, wr.drew = w1 := ⟨_, rfl⟩
                    have ca1 : w1.cell? ⟨g, a, none⟩ = some (.slice (some ⟨r a, 0, none⟩) n n) := by rw [← hw1]; exact ca
                    have cc1 : w1.cell? ⟨g, c, none⟩ = some (.slice (some ⟨r c, 0, none⟩) n n) := by rw [← hw1]; exact cc
                    have cab1 : w1.cell? ⟨r a, b, none⟩ = some (.bool true) := by rw [← hw1]; exact cab
                    have cac1 : w1.cell? ⟨r a, c, none⟩ = some (.bool vac) := by rw [← hw1]; exact cac
                    have ccb1 : w1.cell? ⟨r c, b, none⟩ = some (.bool vcb) := by rw [← hw1]; exact ccb
                    have HT1 : Hid (Tab2 w1 w.heap.size g n r (midW (baseTab ps) c a b)) := by rw [← hw1]; exact HT.out.drewN 1
                    have HB1 : Hid (Below w.heap.size w w1) := by rw [← hw1]; exact HB.out.drew
                    have hf1 := (HT1.out.rows a hla).nf b
                    refine wp_region_quiet_tail 31 (by kernel_rfl) (by kernel_rfl) w1 hw1 ?_
                    clear hw1 ca cc cab cac ccb HT HB
                    simp only [List.take_succ_cons, List.take_zero, List.drop_succ_cons, List.drop_zero]
                    repeat (go_big_quiet_step (fail))
                    refine wpQuiet_nil ?_
                    go_wp2
                    go_roundw
                    case rel => exact ⟨b + 1, by omega, by go_num, (HT1.out.set a b hla hlb _).congr (fun x y _ _ => by rw [midW_step, HW.out]; rfl), HB1.out.setCell (HT1.out.ge a hla) _⟩
                    case measure => simp [intOf]; omega
                · obtain rfl : n = b := by omega
                  clear T
                  go_wp2
                  go_roundw
                  case rel => exact ⟨a + 1, by omega, by go_num, HT.out.congr (fun x y _ hy => midW_next _ c a n x y hy), HB.out⟩
                  case measure => simp [intOf]; omega
            · obtain rfl : n = a := by omega
              go_wp2
              go_roundw
              case rel => exact ⟨c + 1, by omega, by go_num, HT.out.congr (fun x y hx _ => midW_end _ c n x y hx), HB.out⟩
              case measure => simp [intOf]; omega
        · obtain rfl : n = c := by omega
          go_wp2
          go_ret
          exact ⟨g, cp, r, rfl, HT.out, HB.out⟩
end Go.Proofs.Ytgkbmdlbljjbfaa
