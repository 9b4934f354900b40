/-
  WriterOnes: two terms that may be, without a Fun @ of two, have one text just if they are the same.
-/
import Derived.Test.YtfencolokfghfaaDoorWrK
import Derived.Test.YtfencolokfghfaaDoorFam
namespace Go.Proofs.YtfencolokfghfaaDoor
open Go.Shelf Go.RowKit Go.Sort
set_option linter.unusedVariables false
set_option linter.unnecessarySimpa false
open Classical

def AtOk (T : Tm) : Prop := ∀ (v : Value) (w : World), Has w v T → T.byt ≤ 2000000 → T.size ≤ 2000000 → Calls Tryd.prog 12 #[v] w (Gets w (.bool T.atb))
theorem any_take {α : Type} {l : List α} {p : α → Bool} {j : Nat} {x : α} (h : (l.take j).any p = false) (hx : l[j]? = some x) (hp : p x = false) : (l.take (j + 1)).any p = false := by
  rw [List.take_add_one, hx, List.any_append, h]
  simp [hp]
theorem any_mem {α : Type} {l : List α} {p : α → Bool} {j : Nat} {x : α} (hx : l[j]? = some x) (hp : p x = true) : l.any p = true := List.any_eq_true.2 ⟨x, List.mem_of_getElem? hx, hp⟩
set_option maxRecDepth 100000 in
set_option maxHeartbeats 4000000 in
theorem at_c1 (k n : Int) (s : ByteArray) (ks : List Tm) (ih : ∀ t ∈ ks, AtOk t) (hk3 : k ≠ 3) : AtOk (.mk k n s ks) := by
  intro v w hv hby hsz
  have hatb : (Tm.mk k n s ks).atb = (s.data.toList.any lowC || ks.any Tm.atb) := by
    rw [Tm.atb_mk]
    have : (decide (k = 3) && decide (s.data.toList = [64]) && decide (ks.length = 2)) = false := by simp [hk3]
    rw [this, Bool.false_or]
  rw [hatb]
  clear hatb
  obtain ⟨k_, n_, s_, a, len, cap, ks_, rfl, e, rfl, hk, hn, hs', hc, hm, ha⟩ := hv.form
  injection e with e1 e2 e3 e4
  subst e1 e2 e3 e4
  rw [Tm.byt_mk] at hby
  rw [Tm.size_mk] at hsz
  have hlen : ks.length ≤ 2000000 := by have := Tm.length_le_sizes ks; omega
  have hss : s.size ≤ 2000000 := by omega
  obtain ⟨l, hl⟩ : ∃ l, s.data.toList = l := ⟨_, rfl⟩
  rw [hl]
  have hll := len_of hl
  have hk3' : (k == 3) = false := by simpa using hk3
  have hby2 : ∀ t ∈ ks, t.byt ≤ 2000000 ∧ t.size ≤ 2000000 := fun t ht => by
    have h1 := Tm.byt_le ht
    have h2 := Tm.size_le_sizes ht
    omega
  have HB := Lib.hid hby2
  have HL := Lib.hid hl
  have HLL := Lib.hid hll
  clear hby2 hby hsz hl hll hk hn hs'
  obtain ⟨w1, hw1⟩ : ∃ w1, w1 = w.alloc (.cells #[.int .i64 k, .int .i64 n, .string s, .slice a ks.length cap] 24) := ⟨_, rfl⟩
  have hB1 : Below w.heap.size w w1 := by rw [hw1]; exact (Below.refl _ w).alloc (Nat.le_refl _) _
  have hbox : w1.heap[w.heap.size]? = some (.cells #[.int .i64 k, .int .i64 n, .string s, .slice a ks.length cap] 24 (0, 0)) := by rw [hw1]; exact World.alloc_heap_new _ _
  obtain ⟨p0, p1, p2, p3⟩ := tbox_cells hbox
  go_enter Tryd.func12, Tryd.ntmps12
  go_upto_region 1 with fail
  rw [← hw1]
  clear hw1
  go_wp2_with fail
  go_loopg [3] s.size (fun g z wr => ∃ j : Nat, z = .int .i64 j ∧ g + j = s.size ∧ (l.take j).any lowC = false ∧ wr = w1)
  case atStart => exact ⟨0, rfl, by omega, by simp, rfl⟩
  case round =>
    obtain ⟨j, rfl, hgj, hno, hwr⟩ := hrel
    have hwr := hwr.symm
    subst hwr
    have HNO := Lib.hid hno
    clear hno
    cases gk with
    | zero =>
      have hjj : ¬ ((j : Int) < (s.size : Int)) := by omega
      go_wp2_with fail
      have HN2 := Lib.hid (show l.any lowC = false by have := HNO.out; rwa [List.take_of_length_le (by rw [← HLL.out]; omega)] at this)
      have HL1 := HN2
      clear HNO HN2 hgj hjj
      go_loopg [4] ks.length (fun g z wr => ∃ i : Nat, z = .int .i64 i ∧ g + i = ks.length ∧ (ks.take i).any Tm.atb = false ∧ Below w1.heap.size w1 wr)
      case atStart => exact ⟨0, rfl, by omega, by simp, Below.refl _ _⟩
      case round =>
        obtain ⟨i, rfl, hgi, hno, hB⟩ := hrel
        have HNO := Lib.hid hno
        clear hno
        have hwr : Below w.heap.size w wr := hB1.trans (hB.mono hB1.size)
        obtain ⟨b0, b1, b2, b3⟩ := tbox_cells (tbox_below hbox hB)
        cases gk with
        | zero =>
          have hii : ¬ ((i : Int) < (ks.length : Int)) := by omega
          have HN2 := Lib.hid (show ks.any Tm.atb = false by have := HNO.out; rwa [List.take_of_length_le (by omega)] at this)
          clear ih
          go_wp2_with fail
          go_ret
          exact ⟨congrArg (fun b => Ending.returned (Value.bool b)) (by rw [HL1.out, HN2.out]; rfl), hwr⟩
        | succ m =>
          have hlt : i < ks.length := by omega
          have hii : ((i : Int) < (ks.length : Int)) := by omega
          obtain ⟨b, o, k1, n1, s1, a1, l1, c1, T1, rfl, hbn, e0, e1, e2, e3, hT1, ht1⟩ := IsTm.kid hv i hlt
          have q0 := (hwr.cell (p := ⟨b, o + i * 4, none⟩) hbn).trans e0
          have q1 := (hwr.cell (p := ⟨b, o + i * 4 + 1, none⟩) hbn).trans e1
          have q2 := (hwr.cell (p := ⟨b, o + i * 4 + 2, none⟩) hbn).trans e2
          have q3 := (hwr.cell (p := ⟨b, o + i * 4 + 3, none⟩) hbn).trans e3
          obtain ⟨z1, z2⟩ := HB.out T1 (List.mem_of_getElem? hT1)
          have hih := (ih T1 (List.mem_of_getElem? hT1) _ wr (IsTm.later hwr hwr.size ht1) z1 z2).mono (R' := fun e w2 => e = .returned (.bool T1.atb) ∧ Below w1.heap.size w1 w2) (fun e w2 h => ⟨h.1, hB.trans (h.2.mono hB.size)⟩)
          have HT1 := Lib.hid hT1
          clear ih hv e0 e1 e2 e3 ht1 z1 z2 hT1
          cases hb1 : T1.atb with
          | true =>
            rw [hb1] at hih
            have HN2 := Lib.hid (any_mem HT1.out hb1)
            clear hb1
            go_wp2_with (go_at_call 12; refine hih.mono ?_; rintro e w2 ⟨rfl, hB2⟩)
            go_ret
            exact ⟨congrArg (fun b => Ending.returned (Value.bool b)) (by rw [HN2.out, Bool.or_true]), hB1.trans (hB2.mono hB1.size)⟩
          | false =>
            rw [hb1] at hih
            have HN2 := Lib.hid (any_take HNO.out HT1.out hb1)
            clear hb1
            go_wp2_with (go_at_call 12; refine hih.mono ?_; rintro e w2 ⟨rfl, hB2⟩)
            go_roundg m
            case measure => omega
            case rel => exact ⟨i + 1, by simp, by omega, HN2.out, hB2⟩
    | succ m =>
      have hlt : j < s.size := by omega
      have hjj : ((j : Int) < (s.size : Int)) := by omega
      obtain ⟨c, hc, hg⟩ := get_of HL.out hlt
      have HC := Lib.hid hc
      clear hc ih hv
      cases hlow : lowC c with
      | true =>
        have HN2 := Lib.hid (any_mem HC.out hlow)
        have h32 : (c.toNat : Int) < 32 := by
          unfold lowC at hlow
          simp only [Bool.and_eq_true, decide_eq_true_eq] at hlow
          omega
        have h10 : ((c.toNat : Int) == 10) = false := by
          unfold lowC at hlow
          simp only [Bool.and_eq_true, decide_eq_true_eq] at hlow
          exact ne_int (c := c) (d := 10) hlow.2
        clear hlow
        go_wp2_with fail
        go_ret
        exact ⟨congrArg (fun b => Ending.returned (Value.bool b)) (by rw [HN2.out, Bool.true_or]), hB1⟩
      | false =>
        have HN2 := Lib.hid (any_take HNO.out HC.out hlow)
        by_cases h32 : (c.toNat : Int) < 32
        · have h10 : c = 10 := by
            unfold lowC at hlow
            simp only [Bool.and_eq_false_iff, decide_eq_false_iff_not] at hlow
            rcases hlow with h | h
            · omega
            · exact Classical.not_not.1 h
          subst h10
          clear hlow
          go_wp2_with fail
          go_roundg m
          case measure => omega
          case rel => exact ⟨j + 1, by simp, by omega, HN2.out, rfl⟩
        · clear hlow
          go_wp2_with fail
          go_roundg m
          case measure => omega
          case rel => exact ⟨j + 1, by simp, by omega, HN2.out, rfl⟩
set_option maxRecDepth 100000 in
set_option maxHeartbeats 4000000 in
theorem at_c2 (k n : Int) (s : ByteArray) (ks : List Tm) (ih : ∀ t ∈ ks, AtOk t) (hk3 : k = 3) (h64 : s.data.toList ≠ [64]) : AtOk (.mk k n s ks) := by
  intro v w hv hby hsz
  have hatb : (Tm.mk k n s ks).atb = (s.data.toList.any lowC || ks.any Tm.atb) := by
    rw [Tm.atb_mk]
    have : (decide (k = 3) && decide (s.data.toList = [64]) && decide (ks.length = 2)) = false := by simp [h64]
    rw [this, Bool.false_or]
  rw [hatb]
  clear hatb
  obtain ⟨k_, n_, s_, a, len, cap, ks_, rfl, e, rfl, hk, hn, hs', hc, hm, ha⟩ := hv.form
  injection e with e1 e2 e3 e4
  subst e1 e2 e3 e4
  rw [Tm.byt_mk] at hby
  rw [Tm.size_mk] at hsz
  have hlen : ks.length ≤ 2000000 := by have := Tm.length_le_sizes ks; omega
  have hss : s.size ≤ 2000000 := by omega
  obtain ⟨l, hl⟩ : ∃ l, s.data.toList = l := ⟨_, rfl⟩
  rw [hl]
  have hll := len_of hl
  have hk3' : (k == 3) = true := by simp [hk3]
  clear hk3
  have h64' := toList_beq hl [64]; rw [← hl, decide_eq_false h64] at h64'; clear h64
  have hby2 : ∀ t ∈ ks, t.byt ≤ 2000000 ∧ t.size ≤ 2000000 := fun t ht => by
    have h1 := Tm.byt_le ht
    have h2 := Tm.size_le_sizes ht
    omega
  have HB := Lib.hid hby2
  have HL := Lib.hid hl
  have HLL := Lib.hid hll
  clear hby2 hby hsz hl hll hk hn hs'
  obtain ⟨w1, hw1⟩ : ∃ w1, w1 = w.alloc (.cells #[.int .i64 k, .int .i64 n, .string s, .slice a ks.length cap] 24) := ⟨_, rfl⟩
  have hB1 : Below w.heap.size w w1 := by rw [hw1]; exact (Below.refl _ w).alloc (Nat.le_refl _) _
  have hbox : w1.heap[w.heap.size]? = some (.cells #[.int .i64 k, .int .i64 n, .string s, .slice a ks.length cap] 24 (0, 0)) := by rw [hw1]; exact World.alloc_heap_new _ _
  obtain ⟨p0, p1, p2, p3⟩ := tbox_cells hbox
  go_enter Tryd.func12, Tryd.ntmps12
  go_upto_region 1 with fail
  rw [← hw1]
  clear hw1
  go_wp2_with fail
  go_loopg [3] s.size (fun g z wr => ∃ j : Nat, z = .int .i64 j ∧ g + j = s.size ∧ (l.take j).any lowC = false ∧ wr = w1)
  case atStart => exact ⟨0, rfl, by omega, by simp, rfl⟩
  case round =>
    obtain ⟨j, rfl, hgj, hno, hwr⟩ := hrel
    have hwr := hwr.symm
    subst hwr
    have HNO := Lib.hid hno
    clear hno
    cases gk with
    | zero =>
      have hjj : ¬ ((j : Int) < (s.size : Int)) := by omega
      go_wp2_with fail
      have HN2 := Lib.hid (show l.any lowC = false by have := HNO.out; rwa [List.take_of_length_le (by rw [← HLL.out]; omega)] at this)
      have HL1 := HN2
      clear HNO HN2 hgj hjj
      go_loopg [4] ks.length (fun g z wr => ∃ i : Nat, z = .int .i64 i ∧ g + i = ks.length ∧ (ks.take i).any Tm.atb = false ∧ Below w1.heap.size w1 wr)
      case atStart => exact ⟨0, rfl, by omega, by simp, Below.refl _ _⟩
      case round =>
        obtain ⟨i, rfl, hgi, hno, hB⟩ := hrel
        have HNO := Lib.hid hno
        clear hno
        have hwr : Below w.heap.size w wr := hB1.trans (hB.mono hB1.size)
        obtain ⟨b0, b1, b2, b3⟩ := tbox_cells (tbox_below hbox hB)
        cases gk with
        | zero =>
          have hii : ¬ ((i : Int) < (ks.length : Int)) := by omega
          have HN2 := Lib.hid (show ks.any Tm.atb = false by have := HNO.out; rwa [List.take_of_length_le (by omega)] at this)
          clear ih
          go_wp2_with fail
          go_ret
          exact ⟨congrArg (fun b => Ending.returned (Value.bool b)) (by rw [HL1.out, HN2.out]; rfl), hwr⟩
        | succ m =>
          have hlt : i < ks.length := by omega
          have hii : ((i : Int) < (ks.length : Int)) := by omega
          obtain ⟨b, o, k1, n1, s1, a1, l1, c1, T1, rfl, hbn, e0, e1, e2, e3, hT1, ht1⟩ := IsTm.kid hv i hlt
          have q0 := (hwr.cell (p := ⟨b, o + i * 4, none⟩) hbn).trans e0
          have q1 := (hwr.cell (p := ⟨b, o + i * 4 + 1, none⟩) hbn).trans e1
          have q2 := (hwr.cell (p := ⟨b, o + i * 4 + 2, none⟩) hbn).trans e2
          have q3 := (hwr.cell (p := ⟨b, o + i * 4 + 3, none⟩) hbn).trans e3
          obtain ⟨z1, z2⟩ := HB.out T1 (List.mem_of_getElem? hT1)
          have hih := (ih T1 (List.mem_of_getElem? hT1) _ wr (IsTm.later hwr hwr.size ht1) z1 z2).mono (R' := fun e w2 => e = .returned (.bool T1.atb) ∧ Below w1.heap.size w1 w2) (fun e w2 h => ⟨h.1, hB.trans (h.2.mono hB.size)⟩)
          have HT1 := Lib.hid hT1
          clear ih hv e0 e1 e2 e3 ht1 z1 z2 hT1
          cases hb1 : T1.atb with
          | true =>
            rw [hb1] at hih
            have HN2 := Lib.hid (any_mem HT1.out hb1)
            clear hb1
            go_wp2_with (go_at_call 12; refine hih.mono ?_; rintro e w2 ⟨rfl, hB2⟩)
            go_ret
            exact ⟨congrArg (fun b => Ending.returned (Value.bool b)) (by rw [HN2.out, Bool.or_true]), hB1.trans (hB2.mono hB1.size)⟩
          | false =>
            rw [hb1] at hih
            have HN2 := Lib.hid (any_take HNO.out HT1.out hb1)
            clear hb1
            go_wp2_with (go_at_call 12; refine hih.mono ?_; rintro e w2 ⟨rfl, hB2⟩)
            go_roundg m
            case measure => omega
            case rel => exact ⟨i + 1, by simp, by omega, HN2.out, hB2⟩
    | succ m =>
      have hlt : j < s.size := by omega
      have hjj : ((j : Int) < (s.size : Int)) := by omega
      obtain ⟨c, hc, hg⟩ := get_of HL.out hlt
      have HC := Lib.hid hc
      clear hc ih hv
      cases hlow : lowC c with
      | true =>
        have HN2 := Lib.hid (any_mem HC.out hlow)
        have h32 : (c.toNat : Int) < 32 := by
          unfold lowC at hlow
          simp only [Bool.and_eq_true, decide_eq_true_eq] at hlow
          omega
        have h10 : ((c.toNat : Int) == 10) = false := by
          unfold lowC at hlow
          simp only [Bool.and_eq_true, decide_eq_true_eq] at hlow
          exact ne_int (c := c) (d := 10) hlow.2
        clear hlow
        go_wp2_with fail
        go_ret
        exact ⟨congrArg (fun b => Ending.returned (Value.bool b)) (by rw [HN2.out, Bool.true_or]), hB1⟩
      | false =>
        have HN2 := Lib.hid (any_take HNO.out HC.out hlow)
        by_cases h32 : (c.toNat : Int) < 32
        · have h10 : c = 10 := by
            unfold lowC at hlow
            simp only [Bool.and_eq_false_iff, decide_eq_false_iff_not] at hlow
            rcases hlow with h | h
            · omega
            · exact Classical.not_not.1 h
          subst h10
          clear hlow
          go_wp2_with fail
          go_roundg m
          case measure => omega
          case rel => exact ⟨j + 1, by simp, by omega, HN2.out, rfl⟩
        · clear hlow
          go_wp2_with fail
          go_roundg m
          case measure => omega
          case rel => exact ⟨j + 1, by simp, by omega, HN2.out, rfl⟩
set_option maxRecDepth 100000 in
set_option maxHeartbeats 4000000 in
theorem at_c3 (k n : Int) (s : ByteArray) (ks : List Tm) (ih : ∀ t ∈ ks, AtOk t) (hk3 : k = 3) (h64 : s.data.toList = [64]) (h2 : ks.length ≠ 2) : AtOk (.mk k n s ks) := by
  intro v w hv hby hsz
  have hatb : (Tm.mk k n s ks).atb = (s.data.toList.any lowC || ks.any Tm.atb) := by
    rw [Tm.atb_mk]
    have : (decide (k = 3) && decide (s.data.toList = [64]) && decide (ks.length = 2)) = false := by simp [h2]
    rw [this, Bool.false_or]
  rw [hatb]
  clear hatb
  obtain ⟨k_, n_, s_, a, len, cap, ks_, rfl, e, rfl, hk, hn, hs', hc, hm, ha⟩ := hv.form
  injection e with e1 e2 e3 e4
  subst e1 e2 e3 e4
  rw [Tm.byt_mk] at hby
  rw [Tm.size_mk] at hsz
  have hlen : ks.length ≤ 2000000 := by have := Tm.length_le_sizes ks; omega
  have hss : s.size ≤ 2000000 := by omega
  obtain ⟨l, hl⟩ : ∃ l, s.data.toList = l := ⟨_, rfl⟩
  rw [hl]
  have hll := len_of hl
  have hk3' : (k == 3) = true := by simp [hk3]
  clear hk3
  have h64' := toList_beq hl [64]; rw [← hl, decide_eq_true h64] at h64'; clear h64; have h2' : ((ks.length : Int) == 2) = false := by simp; omega
  have hby2 : ∀ t ∈ ks, t.byt ≤ 2000000 ∧ t.size ≤ 2000000 := fun t ht => by
    have h1 := Tm.byt_le ht
    have h2 := Tm.size_le_sizes ht
    omega
  have HB := Lib.hid hby2
  have HL := Lib.hid hl
  have HLL := Lib.hid hll
  clear hby2 hby hsz hl hll hk hn hs'
  obtain ⟨w1, hw1⟩ : ∃ w1, w1 = w.alloc (.cells #[.int .i64 k, .int .i64 n, .string s, .slice a ks.length cap] 24) := ⟨_, rfl⟩
  have hB1 : Below w.heap.size w w1 := by rw [hw1]; exact (Below.refl _ w).alloc (Nat.le_refl _) _
  have hbox : w1.heap[w.heap.size]? = some (.cells #[.int .i64 k, .int .i64 n, .string s, .slice a ks.length cap] 24 (0, 0)) := by rw [hw1]; exact World.alloc_heap_new _ _
  obtain ⟨p0, p1, p2, p3⟩ := tbox_cells hbox
  go_enter Tryd.func12, Tryd.ntmps12
  go_upto_region 1 with fail
  rw [← hw1]
  clear hw1
  go_wp2_with fail
  go_loopg [3] s.size (fun g z wr => ∃ j : Nat, z = .int .i64 j ∧ g + j = s.size ∧ (l.take j).any lowC = false ∧ wr = w1)
  case atStart => exact ⟨0, rfl, by omega, by simp, rfl⟩
  case round =>
    obtain ⟨j, rfl, hgj, hno, hwr⟩ := hrel
    have hwr := hwr.symm
    subst hwr
    have HNO := Lib.hid hno
    clear hno
    cases gk with
    | zero =>
      have hjj : ¬ ((j : Int) < (s.size : Int)) := by omega
      go_wp2_with fail
      have HN2 := Lib.hid (show l.any lowC = false by have := HNO.out; rwa [List.take_of_length_le (by rw [← HLL.out]; omega)] at this)
      have HL1 := HN2
      clear HNO HN2 hgj hjj
      go_loopg [4] ks.length (fun g z wr => ∃ i : Nat, z = .int .i64 i ∧ g + i = ks.length ∧ (ks.take i).any Tm.atb = false ∧ Below w1.heap.size w1 wr)
      case atStart => exact ⟨0, rfl, by omega, by simp, Below.refl _ _⟩
      case round =>
        obtain ⟨i, rfl, hgi, hno, hB⟩ := hrel
        have HNO := Lib.hid hno
        clear hno
        have hwr : Below w.heap.size w wr := hB1.trans (hB.mono hB1.size)
        obtain ⟨b0, b1, b2, b3⟩ := tbox_cells (tbox_below hbox hB)
        cases gk with
        | zero =>
          have hii : ¬ ((i : Int) < (ks.length : Int)) := by omega
          have HN2 := Lib.hid (show ks.any Tm.atb = false by have := HNO.out; rwa [List.take_of_length_le (by omega)] at this)
          clear ih
          go_wp2_with fail
          go_ret
          exact ⟨congrArg (fun b => Ending.returned (Value.bool b)) (by rw [HL1.out, HN2.out]; rfl), hwr⟩
        | succ m =>
          have hlt : i < ks.length := by omega
          have hii : ((i : Int) < (ks.length : Int)) := by omega
          obtain ⟨b, o, k1, n1, s1, a1, l1, c1, T1, rfl, hbn, e0, e1, e2, e3, hT1, ht1⟩ := IsTm.kid hv i hlt
          have q0 := (hwr.cell (p := ⟨b, o + i * 4, none⟩) hbn).trans e0
          have q1 := (hwr.cell (p := ⟨b, o + i * 4 + 1, none⟩) hbn).trans e1
          have q2 := (hwr.cell (p := ⟨b, o + i * 4 + 2, none⟩) hbn).trans e2
          have q3 := (hwr.cell (p := ⟨b, o + i * 4 + 3, none⟩) hbn).trans e3
          obtain ⟨z1, z2⟩ := HB.out T1 (List.mem_of_getElem? hT1)
          have hih := (ih T1 (List.mem_of_getElem? hT1) _ wr (IsTm.later hwr hwr.size ht1) z1 z2).mono (R' := fun e w2 => e = .returned (.bool T1.atb) ∧ Below w1.heap.size w1 w2) (fun e w2 h => ⟨h.1, hB.trans (h.2.mono hB.size)⟩)
          have HT1 := Lib.hid hT1
          clear ih hv e0 e1 e2 e3 ht1 z1 z2 hT1
          cases hb1 : T1.atb with
          | true =>
            rw [hb1] at hih
            have HN2 := Lib.hid (any_mem HT1.out hb1)
            clear hb1
            go_wp2_with (go_at_call 12; refine hih.mono ?_; rintro e w2 ⟨rfl, hB2⟩)
            go_ret
            exact ⟨congrArg (fun b => Ending.returned (Value.bool b)) (by rw [HN2.out, Bool.or_true]), hB1.trans (hB2.mono hB1.size)⟩
          | false =>
            rw [hb1] at hih
            have HN2 := Lib.hid (any_take HNO.out HT1.out hb1)
            clear hb1
            go_wp2_with (go_at_call 12; refine hih.mono ?_; rintro e w2 ⟨rfl, hB2⟩)
            go_roundg m
            case measure => omega
            case rel => exact ⟨i + 1, by simp, by omega, HN2.out, hB2⟩
    | succ m =>
      have hlt : j < s.size := by omega
      have hjj : ((j : Int) < (s.size : Int)) := by omega
      obtain ⟨c, hc, hg⟩ := get_of HL.out hlt
      have HC := Lib.hid hc
      clear hc ih hv
      cases hlow : lowC c with
      | true =>
        have HN2 := Lib.hid (any_mem HC.out hlow)
        have h32 : (c.toNat : Int) < 32 := by
          unfold lowC at hlow
          simp only [Bool.and_eq_true, decide_eq_true_eq] at hlow
          omega
        have h10 : ((c.toNat : Int) == 10) = false := by
          unfold lowC at hlow
          simp only [Bool.and_eq_true, decide_eq_true_eq] at hlow
          exact ne_int (c := c) (d := 10) hlow.2
        clear hlow
        go_wp2_with fail
        go_ret
        exact ⟨congrArg (fun b => Ending.returned (Value.bool b)) (by rw [HN2.out, Bool.true_or]), hB1⟩
      | false =>
        have HN2 := Lib.hid (any_take HNO.out HC.out hlow)
        by_cases h32 : (c.toNat : Int) < 32
        · have h10 : c = 10 := by
            unfold lowC at hlow
            simp only [Bool.and_eq_false_iff, decide_eq_false_iff_not] at hlow
            rcases hlow with h | h
            · omega
            · exact Classical.not_not.1 h
          subst h10
          clear hlow
          go_wp2_with fail
          go_roundg m
          case measure => omega
          case rel => exact ⟨j + 1, by simp, by omega, HN2.out, rfl⟩
        · clear hlow
          go_wp2_with fail
          go_roundg m
          case measure => omega
          case rel => exact ⟨j + 1, by simp, by omega, HN2.out, rfl⟩
set_option maxRecDepth 100000 in
set_option maxHeartbeats 4000000 in
theorem at_c4 (n : Int) (s : ByteArray) (ks : List Tm) (hs64 : s.data.toList = [64]) (h2 : ks.length = 2) : AtOk (.mk 3 n s ks) := by
  intro v w hv hby hsz
  have hatb : (Tm.mk 3 n s ks).atb = true := by rw [Tm.atb_mk]; simp [hs64, h2]
  rw [hatb]
  obtain ⟨k_, n_, s_, a, len, cap, ks_, rfl, e, rfl, hk, hn, hs', hc, hm, ha⟩ := hv.form
  injection e with e1 e2 e3 e4
  subst e1 e2 e3 e4
  have hq := toList_beq hs64 [64]
  rw [h2] at *
  clear hatb hv hby hsz
  go_enter Tryd.func12, Tryd.ntmps12
  go_wp2_with fail
  go_ret
  exact ⟨rfl, (Below.refl _ w).alloc (Nat.le_refl _) _⟩
theorem at_ok (T : Tm) : AtOk T := by
  induction T using Tm.ind with
  | h k n s ks ih =>
    by_cases hk : k = 3
    · subst hk
      by_cases h64 : s.data.toList = [64]
      · by_cases h2 : ks.length = 2
        · exact at_c4 n s ks h64 h2
        · exact at_c3 3 n s ks ih rfl h64 h2
      · exact at_c2 3 n s ks ih rfl h64
    · exact at_c1 k n s ks ih hk
set_option maxRecDepth 100000 in
set_option maxHeartbeats 4000000 in
theorem ones_at (T U : Tm) (v u : Value) (w : World) (hv : Has w v T) (hu : Has w u U) (hbT : T.byt + T.size ≤ 1048576) (hbU : U.byt + U.size ≤ 1048576) (hT : TabP w) : Calls Tryd.prog 4 #[v, u] w (Gets w (.bool true)) := by
  have hsh := fun W (h : Below w.heap.size w W) => shown8_at W (hT.later h)
  have hf1 := fun W (h : Below w.heap.size w W) => few8_at T v W (hv.below h) (by omega)
  have hf2 := fun W (h : Below w.heap.size w W) => few8_at U u W (hu.below h) (by omega)
  have hc1 := fun W (h : Below w.heap.size w W) => check_at v T 16 W (hv.below h) (by omega)
  have hc2 := fun W (h : Below w.heap.size w W) => check_at u U 16 W (hu.below h) (by omega)
  have ha1 := fun W (h : Below w.heap.size w W) => at_ok T v W (hv.below h) (by omega) (by omega)
  have ha2 := fun W (h : Below w.heap.size w W) => at_ok U u W (hu.below h) (by omega) (by omega)
  have hx1 := fun (c1 : T.size ≤ 1000) W (h : Below w.heap.size w W) => text_at T v W (hv.below h) (hT.later h) (by omega) (by omega)
  have hx2 := fun (c2 : U.size ≤ 1000) W (h : Below w.heap.size w W) => text_at U u W (hu.below h) (hT.later h) (by omega) (by omega)
  have hsm := fun W (h : Below w.heap.size w W) => same_at T U v u W (hv.below h) (hu.below h) (by omega) (by omega)
  have hw0 := And.intro hv hu
  obtain ⟨k, n, s, a, l, c, ks, rfl, e, -⟩ := hv.form
  obtain ⟨k', n', s', a', l', c', ks', rfl, e', -⟩ := hu.form
  clear e e' hv hu hbT hbU
  obtain ⟨w2, hw2⟩ : ∃ w2, w2 = (w.alloc (.cells #[.int .i64 k, .int .i64 n, .string s, .slice a l c] 24)).alloc (.cells #[.int .i64 k', .int .i64 n', .string s', .slice a' l' c'] 24) := ⟨_, rfl⟩
  have hbw : Below w.heap.size w w2 := by rw [hw2]; exact bel_al (bel_al (Below.refl _ _) _) _
  have xA : w2.heap[w.heap.size]? = some (.cells #[.int .i64 k, .int .i64 n, .string s, .slice a l c] 24 (0, 0)) := by rw [hw2]; exact (Below.block (bel_al (Below.refl _ (w.alloc (.cells #[.int .i64 k, .int .i64 n, .string s, .slice a l c] 24))) _) _ (by simp)).trans (alloc_new _ _)
  have xB : w2.heap[w.heap.size + 1]? = some (.cells #[.int .i64 k', .int .i64 n', .string s', .slice a' l' c'] 24 (0, 0)) := by rw [hw2]; simpa using alloc_new (w.alloc (.cells #[.int .i64 k, .int .i64 n, .string s, .slice a l c] 24)) (.cells #[.int .i64 k', .int .i64 n', .string s', .slice a' l' c'] 24)
  have lA := (Array.getElem?_eq_some_iff.1 xA).1
  have lB := (Array.getElem?_eq_some_iff.1 xB).1
  have HSH := Lib.hid hsh
  clear hsh
  by_cases c1 : T.size ≤ 1000
  · simp only [decide_eq_true c1] at hf1
    have HF1 := Lib.hid hf1
    clear hf1
    by_cases c2 : U.size ≤ 1000
    · simp only [decide_eq_true c2] at hf2
      have HF2 := Lib.hid hf2
      clear hf2
      by_cases c3 : T.check 16 = 0
      · simp only [c3] at hc1
        have HC1 := Lib.hid hc1
        clear hc1
        by_cases c4 : U.check 16 = 0
        · simp only [c4] at hc2
          have HC2 := Lib.hid hc2
          clear hc2
          by_cases c5 : T.atb = false
          · simp only [c5] at ha1
            have HA1 := Lib.hid ha1
            clear ha1
            by_cases c6 : U.atb = false
            · simp only [c6] at ha2
              have HA2 := Lib.hid ha2
              clear ha2
              have ow1 := okw_of T (check_valid c3) c5
              have ow2 := okw_of U (check_valid c4) c6
              have HX1 := Lib.hid (hx1 c1); have HX2 := Lib.hid (hx2 c2)
              clear hx1 hx2 c1 c2 c3 c4 c5 c6
              by_cases hTU : T = U
              · have hqr : ((strV T.txt).toList == (strV U.txt).toList) = true := by rw [hTU]; simp
                simp only [decide_eq_true hTU] at hsm
                have HS := Lib.hid hsm
                clear hsm hTU ow1 ow2
                clear hw0
                go_enter Tryd.func4, Tryd.ntmps4
                go_upto_region 2 with fail
                rw [← hw2]
                clear hw2
                have hb0 := Below.refl w2.heap.size w2
                go_wp2_with (first
                  | (go_at_call 5; (with_reducible refine (HSH.out _ (bel hbw hb0)).mono ?_); rintro e W1 ⟨rfl, hb1'⟩; have hb1 := bel hb0 hb1'; obtain ⟨p0W1, p1W1, p2W1, p3W1⟩ := tbox_cells ((hb1.block _ lA).trans xA); obtain ⟨q0W1, q1W1, q2W1, q3W1⟩ := tbox_cells ((hb1.block _ lB).trans xB))
                  | (go_at_call 6; (with_reducible refine (HF1.out _ (bel hbw hb1)).mono ?_); rintro e W2 ⟨rfl, hb2'⟩; have hb2 := bel hb1 hb2'; obtain ⟨p0W2, p1W2, p2W2, p3W2⟩ := tbox_cells ((hb2.block _ lA).trans xA); obtain ⟨q0W2, q1W2, q2W2, q3W2⟩ := tbox_cells ((hb2.block _ lB).trans xB))
                  | (go_at_call 6; (with_reducible refine (HF2.out _ (bel hbw hb2)).mono ?_); rintro e W3 ⟨rfl, hb3'⟩; have hb3 := bel hb2 hb3'; obtain ⟨p0W3, p1W3, p2W3, p3W3⟩ := tbox_cells ((hb3.block _ lA).trans xA); obtain ⟨q0W3, q1W3, q2W3, q3W3⟩ := tbox_cells ((hb3.block _ lB).trans xB))
                  | (go_at_call 11; (with_reducible refine (HC1.out _ (bel hbw hb3)).mono ?_); rintro e W4 ⟨rfl, hb4'⟩; have hb4 := bel hb3 hb4'; obtain ⟨p0W4, p1W4, p2W4, p3W4⟩ := tbox_cells ((hb4.block _ lA).trans xA); obtain ⟨q0W4, q1W4, q2W4, q3W4⟩ := tbox_cells ((hb4.block _ lB).trans xB))
                  | (go_at_call 11; (with_reducible refine (HC2.out _ (bel hbw hb4)).mono ?_); rintro e W5 ⟨rfl, hb5'⟩; have hb5 := bel hb4 hb5'; obtain ⟨p0W5, p1W5, p2W5, p3W5⟩ := tbox_cells ((hb5.block _ lA).trans xA); obtain ⟨q0W5, q1W5, q2W5, q3W5⟩ := tbox_cells ((hb5.block _ lB).trans xB))
                  | (go_at_call 12; (with_reducible refine (HA1.out _ (bel hbw hb5)).mono ?_); rintro e W6 ⟨rfl, hb6'⟩; have hb6 := bel hb5 hb6'; obtain ⟨p0W6, p1W6, p2W6, p3W6⟩ := tbox_cells ((hb6.block _ lA).trans xA); obtain ⟨q0W6, q1W6, q2W6, q3W6⟩ := tbox_cells ((hb6.block _ lB).trans xB))
                  | (go_at_call 12; (with_reducible refine (HA2.out _ (bel hbw hb6)).mono ?_); rintro e W7 ⟨rfl, hb7'⟩; have hb7 := bel hb6 hb7'; obtain ⟨p0W7, p1W7, p2W7, p3W7⟩ := tbox_cells ((hb7.block _ lA).trans xA); obtain ⟨q0W7, q1W7, q2W7, q3W7⟩ := tbox_cells ((hb7.block _ lB).trans xB)))
                obtain ⟨I, inst, F, n0, hF0, hFb, hFc⟩ := later_family W7
                have K0 := fun i => (tbox_cells (((bel hb7 (hFb i)).block _ lA).trans xA)).1
                have K1 := fun i => (tbox_cells (((bel hb7 (hFb i)).block _ lA).trans xA)).2.1
                have K2 := fun i => (tbox_cells (((bel hb7 (hFb i)).block _ lA).trans xA)).2.2.1
                have K3 := fun i => (tbox_cells (((bel hb7 (hFb i)).block _ lA).trans xA)).2.2.2
                have K4 := fun i => (tbox_cells (((bel hb7 (hFb i)).block _ lB).trans xB)).1
                have K5 := fun i => (tbox_cells (((bel hb7 (hFb i)).block _ lB).trans xB)).2.1
                have K6 := fun i => (tbox_cells (((bel hb7 (hFb i)).block _ lB).trans xB)).2.2.1
                have K7 := fun i => (tbox_cells (((bel hb7 (hFb i)).block _ lB).trans xB)).2.2.2
                have C1 := Lib.hid (fun i => calls_fam hFc i (HX1.out _ (bel hbw (bel hb7 (hFb i)))))
                have C2 := Lib.hid (fun i => calls_fam hFc i (HX2.out _ (bel hbw (bel hb7 (hFb i)))))
                have C3 := Lib.hid (fun i => calls_fam hFc i (HS.out _ (bel hbw (bel hb7 (hFb i)))))
                have HF := Lib.hid hFb
                clear hFb hFc
                refine wp_region_fam F n0 hF0 (by kernel_rfl) (by kernel_rfl) ?_
                clear hF0
                repeat (go_big_quiet_step (first | (go_at_call 7; (with_reducible exact C1.out _)) | (go_at_call 7; (with_reducible exact C2.out _)) | (go_at_call 13; (with_reducible exact C3.out _))))
                refine wpQuiet_nil ?_
                intro _ hw'
                obtain ⟨nq, hw''⟩ := hw'
                subst hw''
                go_wp2_with fail
                go_ret
                exact ⟨rfl, bel hbw (bel hb7 (HF.out nq))⟩
              · have hqr : ((strV T.txt).toList == (strV U.txt).toList) = false := str_ne (fun e => hTU ((txt_inj ow1 ow2).1 e))
                simp only [decide_eq_false hTU] at hsm
                have HS := Lib.hid hsm
                clear hsm hTU ow1 ow2
                clear hw0
                go_enter Tryd.func4, Tryd.ntmps4
                go_upto_region 2 with fail
                rw [← hw2]
                clear hw2
                have hb0 := Below.refl w2.heap.size w2
                go_wp2_with (first
                  | (go_at_call 5; (with_reducible refine (HSH.out _ (bel hbw hb0)).mono ?_); rintro e W1 ⟨rfl, hb1'⟩; have hb1 := bel hb0 hb1'; obtain ⟨p0W1, p1W1, p2W1, p3W1⟩ := tbox_cells ((hb1.block _ lA).trans xA); obtain ⟨q0W1, q1W1, q2W1, q3W1⟩ := tbox_cells ((hb1.block _ lB).trans xB))
                  | (go_at_call 6; (with_reducible refine (HF1.out _ (bel hbw hb1)).mono ?_); rintro e W2 ⟨rfl, hb2'⟩; have hb2 := bel hb1 hb2'; obtain ⟨p0W2, p1W2, p2W2, p3W2⟩ := tbox_cells ((hb2.block _ lA).trans xA); obtain ⟨q0W2, q1W2, q2W2, q3W2⟩ := tbox_cells ((hb2.block _ lB).trans xB))
                  | (go_at_call 6; (with_reducible refine (HF2.out _ (bel hbw hb2)).mono ?_); rintro e W3 ⟨rfl, hb3'⟩; have hb3 := bel hb2 hb3'; obtain ⟨p0W3, p1W3, p2W3, p3W3⟩ := tbox_cells ((hb3.block _ lA).trans xA); obtain ⟨q0W3, q1W3, q2W3, q3W3⟩ := tbox_cells ((hb3.block _ lB).trans xB))
                  | (go_at_call 11; (with_reducible refine (HC1.out _ (bel hbw hb3)).mono ?_); rintro e W4 ⟨rfl, hb4'⟩; have hb4 := bel hb3 hb4'; obtain ⟨p0W4, p1W4, p2W4, p3W4⟩ := tbox_cells ((hb4.block _ lA).trans xA); obtain ⟨q0W4, q1W4, q2W4, q3W4⟩ := tbox_cells ((hb4.block _ lB).trans xB))
                  | (go_at_call 11; (with_reducible refine (HC2.out _ (bel hbw hb4)).mono ?_); rintro e W5 ⟨rfl, hb5'⟩; have hb5 := bel hb4 hb5'; obtain ⟨p0W5, p1W5, p2W5, p3W5⟩ := tbox_cells ((hb5.block _ lA).trans xA); obtain ⟨q0W5, q1W5, q2W5, q3W5⟩ := tbox_cells ((hb5.block _ lB).trans xB))
                  | (go_at_call 12; (with_reducible refine (HA1.out _ (bel hbw hb5)).mono ?_); rintro e W6 ⟨rfl, hb6'⟩; have hb6 := bel hb5 hb6'; obtain ⟨p0W6, p1W6, p2W6, p3W6⟩ := tbox_cells ((hb6.block _ lA).trans xA); obtain ⟨q0W6, q1W6, q2W6, q3W6⟩ := tbox_cells ((hb6.block _ lB).trans xB))
                  | (go_at_call 12; (with_reducible refine (HA2.out _ (bel hbw hb6)).mono ?_); rintro e W7 ⟨rfl, hb7'⟩; have hb7 := bel hb6 hb7'; obtain ⟨p0W7, p1W7, p2W7, p3W7⟩ := tbox_cells ((hb7.block _ lA).trans xA); obtain ⟨q0W7, q1W7, q2W7, q3W7⟩ := tbox_cells ((hb7.block _ lB).trans xB)))
                obtain ⟨I, inst, F, n0, hF0, hFb, hFc⟩ := later_family W7
                have K0 := fun i => (tbox_cells (((bel hb7 (hFb i)).block _ lA).trans xA)).1
                have K1 := fun i => (tbox_cells (((bel hb7 (hFb i)).block _ lA).trans xA)).2.1
                have K2 := fun i => (tbox_cells (((bel hb7 (hFb i)).block _ lA).trans xA)).2.2.1
                have K3 := fun i => (tbox_cells (((bel hb7 (hFb i)).block _ lA).trans xA)).2.2.2
                have K4 := fun i => (tbox_cells (((bel hb7 (hFb i)).block _ lB).trans xB)).1
                have K5 := fun i => (tbox_cells (((bel hb7 (hFb i)).block _ lB).trans xB)).2.1
                have K6 := fun i => (tbox_cells (((bel hb7 (hFb i)).block _ lB).trans xB)).2.2.1
                have K7 := fun i => (tbox_cells (((bel hb7 (hFb i)).block _ lB).trans xB)).2.2.2
                have C1 := Lib.hid (fun i => calls_fam hFc i (HX1.out _ (bel hbw (bel hb7 (hFb i)))))
                have C2 := Lib.hid (fun i => calls_fam hFc i (HX2.out _ (bel hbw (bel hb7 (hFb i)))))
                have C3 := Lib.hid (fun i => calls_fam hFc i (HS.out _ (bel hbw (bel hb7 (hFb i)))))
                have HF := Lib.hid hFb
                clear hFb hFc
                refine wp_region_fam F n0 hF0 (by kernel_rfl) (by kernel_rfl) ?_
                clear hF0
                repeat (go_big_quiet_step (first | (go_at_call 7; (with_reducible exact C1.out _)) | (go_at_call 7; (with_reducible exact C2.out _)) | (go_at_call 13; (with_reducible exact C3.out _))))
                refine wpQuiet_nil ?_
                intro _ hw'
                obtain ⟨nq, hw''⟩ := hw'
                subst hw''
                go_wp2_with fail
                go_ret
                exact ⟨rfl, bel hbw (bel hb7 (HF.out nq))⟩
            · simp only [Bool.not_eq_false] at c6
              simp only [c6] at ha2
              have HA2 := Lib.hid ha2
              clear ha2 hx1 hx2 hsm
              clear hw0
              go_enter Tryd.func4, Tryd.ntmps4
              go_upto_region 2 with fail
              rw [← hw2]
              clear hw2
              have hb0 := Below.refl w2.heap.size w2
              go_wp2_with (first
                | (go_at_call 5; (with_reducible refine (HSH.out _ (bel hbw hb0)).mono ?_); rintro e W1 ⟨rfl, hb1'⟩; have hb1 := bel hb0 hb1'; obtain ⟨p0W1, p1W1, p2W1, p3W1⟩ := tbox_cells ((hb1.block _ lA).trans xA); obtain ⟨q0W1, q1W1, q2W1, q3W1⟩ := tbox_cells ((hb1.block _ lB).trans xB))
                | (go_at_call 6; (with_reducible refine (HF1.out _ (bel hbw hb1)).mono ?_); rintro e W2 ⟨rfl, hb2'⟩; have hb2 := bel hb1 hb2'; obtain ⟨p0W2, p1W2, p2W2, p3W2⟩ := tbox_cells ((hb2.block _ lA).trans xA); obtain ⟨q0W2, q1W2, q2W2, q3W2⟩ := tbox_cells ((hb2.block _ lB).trans xB))
                | (go_at_call 6; (with_reducible refine (HF2.out _ (bel hbw hb2)).mono ?_); rintro e W3 ⟨rfl, hb3'⟩; have hb3 := bel hb2 hb3'; obtain ⟨p0W3, p1W3, p2W3, p3W3⟩ := tbox_cells ((hb3.block _ lA).trans xA); obtain ⟨q0W3, q1W3, q2W3, q3W3⟩ := tbox_cells ((hb3.block _ lB).trans xB))
                | (go_at_call 11; (with_reducible refine (HC1.out _ (bel hbw hb3)).mono ?_); rintro e W4 ⟨rfl, hb4'⟩; have hb4 := bel hb3 hb4'; obtain ⟨p0W4, p1W4, p2W4, p3W4⟩ := tbox_cells ((hb4.block _ lA).trans xA); obtain ⟨q0W4, q1W4, q2W4, q3W4⟩ := tbox_cells ((hb4.block _ lB).trans xB))
                | (go_at_call 11; (with_reducible refine (HC2.out _ (bel hbw hb4)).mono ?_); rintro e W5 ⟨rfl, hb5'⟩; have hb5 := bel hb4 hb5'; obtain ⟨p0W5, p1W5, p2W5, p3W5⟩ := tbox_cells ((hb5.block _ lA).trans xA); obtain ⟨q0W5, q1W5, q2W5, q3W5⟩ := tbox_cells ((hb5.block _ lB).trans xB))
                | (go_at_call 12; (with_reducible refine (HA1.out _ (bel hbw hb5)).mono ?_); rintro e W6 ⟨rfl, hb6'⟩; have hb6 := bel hb5 hb6'; obtain ⟨p0W6, p1W6, p2W6, p3W6⟩ := tbox_cells ((hb6.block _ lA).trans xA); obtain ⟨q0W6, q1W6, q2W6, q3W6⟩ := tbox_cells ((hb6.block _ lB).trans xB))
                | (go_at_call 12; (with_reducible refine (HA2.out _ (bel hbw hb6)).mono ?_); rintro e W7 ⟨rfl, hb7'⟩; have hb7 := bel hb6 hb7'; obtain ⟨p0W7, p1W7, p2W7, p3W7⟩ := tbox_cells ((hb7.block _ lA).trans xA); obtain ⟨q0W7, q1W7, q2W7, q3W7⟩ := tbox_cells ((hb7.block _ lB).trans xB)))
              go_ret
              exact ⟨rfl, bel hbw hb7⟩
          · simp only [Bool.not_eq_false] at c5
            simp only [c5] at ha1
            have HA1 := Lib.hid ha1
            clear ha1 ha2 hx1 hx2 hsm
            clear hw0
            go_enter Tryd.func4, Tryd.ntmps4
            go_upto_region 2 with fail
            rw [← hw2]
            clear hw2
            have hb0 := Below.refl w2.heap.size w2
            go_wp2_with (first
              | (go_at_call 5; (with_reducible refine (HSH.out _ (bel hbw hb0)).mono ?_); rintro e W1 ⟨rfl, hb1'⟩; have hb1 := bel hb0 hb1'; obtain ⟨p0W1, p1W1, p2W1, p3W1⟩ := tbox_cells ((hb1.block _ lA).trans xA); obtain ⟨q0W1, q1W1, q2W1, q3W1⟩ := tbox_cells ((hb1.block _ lB).trans xB))
              | (go_at_call 6; (with_reducible refine (HF1.out _ (bel hbw hb1)).mono ?_); rintro e W2 ⟨rfl, hb2'⟩; have hb2 := bel hb1 hb2'; obtain ⟨p0W2, p1W2, p2W2, p3W2⟩ := tbox_cells ((hb2.block _ lA).trans xA); obtain ⟨q0W2, q1W2, q2W2, q3W2⟩ := tbox_cells ((hb2.block _ lB).trans xB))
              | (go_at_call 6; (with_reducible refine (HF2.out _ (bel hbw hb2)).mono ?_); rintro e W3 ⟨rfl, hb3'⟩; have hb3 := bel hb2 hb3'; obtain ⟨p0W3, p1W3, p2W3, p3W3⟩ := tbox_cells ((hb3.block _ lA).trans xA); obtain ⟨q0W3, q1W3, q2W3, q3W3⟩ := tbox_cells ((hb3.block _ lB).trans xB))
              | (go_at_call 11; (with_reducible refine (HC1.out _ (bel hbw hb3)).mono ?_); rintro e W4 ⟨rfl, hb4'⟩; have hb4 := bel hb3 hb4'; obtain ⟨p0W4, p1W4, p2W4, p3W4⟩ := tbox_cells ((hb4.block _ lA).trans xA); obtain ⟨q0W4, q1W4, q2W4, q3W4⟩ := tbox_cells ((hb4.block _ lB).trans xB))
              | (go_at_call 11; (with_reducible refine (HC2.out _ (bel hbw hb4)).mono ?_); rintro e W5 ⟨rfl, hb5'⟩; have hb5 := bel hb4 hb5'; obtain ⟨p0W5, p1W5, p2W5, p3W5⟩ := tbox_cells ((hb5.block _ lA).trans xA); obtain ⟨q0W5, q1W5, q2W5, q3W5⟩ := tbox_cells ((hb5.block _ lB).trans xB))
              | (go_at_call 12; (with_reducible refine (HA1.out _ (bel hbw hb5)).mono ?_); rintro e W6 ⟨rfl, hb6'⟩; have hb6 := bel hb5 hb6'; obtain ⟨p0W6, p1W6, p2W6, p3W6⟩ := tbox_cells ((hb6.block _ lA).trans xA); obtain ⟨q0W6, q1W6, q2W6, q3W6⟩ := tbox_cells ((hb6.block _ lB).trans xB)))
            go_ret
            exact ⟨rfl, bel hbw hb6⟩
        · have hz : (U.check 16 == 0) = false := by simpa using c4
          have hzn : ¬ (U.check 16 = 0) := c4
          generalize U.check 16 = z at *
          have HC2 := Lib.hid hc2
          clear hc2 ha1 ha2 hx1 hx2 hsm c4
          clear hw0
          go_enter Tryd.func4, Tryd.ntmps4
          go_upto_region 2 with fail
          rw [← hw2]
          clear hw2
          have hb0 := Below.refl w2.heap.size w2
          go_wp2_with (first
            | (go_at_call 5; (with_reducible refine (HSH.out _ (bel hbw hb0)).mono ?_); rintro e W1 ⟨rfl, hb1'⟩; have hb1 := bel hb0 hb1'; obtain ⟨p0W1, p1W1, p2W1, p3W1⟩ := tbox_cells ((hb1.block _ lA).trans xA); obtain ⟨q0W1, q1W1, q2W1, q3W1⟩ := tbox_cells ((hb1.block _ lB).trans xB))
            | (go_at_call 6; (with_reducible refine (HF1.out _ (bel hbw hb1)).mono ?_); rintro e W2 ⟨rfl, hb2'⟩; have hb2 := bel hb1 hb2'; obtain ⟨p0W2, p1W2, p2W2, p3W2⟩ := tbox_cells ((hb2.block _ lA).trans xA); obtain ⟨q0W2, q1W2, q2W2, q3W2⟩ := tbox_cells ((hb2.block _ lB).trans xB))
            | (go_at_call 6; (with_reducible refine (HF2.out _ (bel hbw hb2)).mono ?_); rintro e W3 ⟨rfl, hb3'⟩; have hb3 := bel hb2 hb3'; obtain ⟨p0W3, p1W3, p2W3, p3W3⟩ := tbox_cells ((hb3.block _ lA).trans xA); obtain ⟨q0W3, q1W3, q2W3, q3W3⟩ := tbox_cells ((hb3.block _ lB).trans xB))
            | (go_at_call 11; (with_reducible refine (HC1.out _ (bel hbw hb3)).mono ?_); rintro e W4 ⟨rfl, hb4'⟩; have hb4 := bel hb3 hb4'; obtain ⟨p0W4, p1W4, p2W4, p3W4⟩ := tbox_cells ((hb4.block _ lA).trans xA); obtain ⟨q0W4, q1W4, q2W4, q3W4⟩ := tbox_cells ((hb4.block _ lB).trans xB))
            | (go_at_call 11; (with_reducible refine (HC2.out _ (bel hbw hb4)).mono ?_); rintro e W5 ⟨rfl, hb5'⟩; have hb5 := bel hb4 hb5'; obtain ⟨p0W5, p1W5, p2W5, p3W5⟩ := tbox_cells ((hb5.block _ lA).trans xA); obtain ⟨q0W5, q1W5, q2W5, q3W5⟩ := tbox_cells ((hb5.block _ lB).trans xB)))
          go_ret
          exact ⟨rfl, bel hbw hb5⟩
      · have hz : (T.check 16 == 0) = false := by simpa using c3
        have hzn : ¬ (T.check 16 = 0) := c3
        generalize T.check 16 = z at *
        have HC1 := Lib.hid hc1
        clear hc1 hc2 ha1 ha2 hx1 hx2 hsm c3
        clear hw0
        go_enter Tryd.func4, Tryd.ntmps4
        go_upto_region 2 with fail
        rw [← hw2]
        clear hw2
        have hb0 := Below.refl w2.heap.size w2
        go_wp2_with (first
          | (go_at_call 5; (with_reducible refine (HSH.out _ (bel hbw hb0)).mono ?_); rintro e W1 ⟨rfl, hb1'⟩; have hb1 := bel hb0 hb1'; obtain ⟨p0W1, p1W1, p2W1, p3W1⟩ := tbox_cells ((hb1.block _ lA).trans xA); obtain ⟨q0W1, q1W1, q2W1, q3W1⟩ := tbox_cells ((hb1.block _ lB).trans xB))
          | (go_at_call 6; (with_reducible refine (HF1.out _ (bel hbw hb1)).mono ?_); rintro e W2 ⟨rfl, hb2'⟩; have hb2 := bel hb1 hb2'; obtain ⟨p0W2, p1W2, p2W2, p3W2⟩ := tbox_cells ((hb2.block _ lA).trans xA); obtain ⟨q0W2, q1W2, q2W2, q3W2⟩ := tbox_cells ((hb2.block _ lB).trans xB))
          | (go_at_call 6; (with_reducible refine (HF2.out _ (bel hbw hb2)).mono ?_); rintro e W3 ⟨rfl, hb3'⟩; have hb3 := bel hb2 hb3'; obtain ⟨p0W3, p1W3, p2W3, p3W3⟩ := tbox_cells ((hb3.block _ lA).trans xA); obtain ⟨q0W3, q1W3, q2W3, q3W3⟩ := tbox_cells ((hb3.block _ lB).trans xB))
          | (go_at_call 11; (with_reducible refine (HC1.out _ (bel hbw hb3)).mono ?_); rintro e W4 ⟨rfl, hb4'⟩; have hb4 := bel hb3 hb4'; obtain ⟨p0W4, p1W4, p2W4, p3W4⟩ := tbox_cells ((hb4.block _ lA).trans xA); obtain ⟨q0W4, q1W4, q2W4, q3W4⟩ := tbox_cells ((hb4.block _ lB).trans xB)))
        go_ret
        exact ⟨rfl, bel hbw hb4⟩
    · simp only [decide_eq_false c2] at hf2
      have HF2 := Lib.hid hf2
      clear hf2 hc1 hc2 ha1 ha2 hx1 hx2 hsm
      clear hw0
      go_enter Tryd.func4, Tryd.ntmps4
      go_upto_region 2 with fail
      rw [← hw2]
      clear hw2
      have hb0 := Below.refl w2.heap.size w2
      go_wp2_with (first
        | (go_at_call 5; (with_reducible refine (HSH.out _ (bel hbw hb0)).mono ?_); rintro e W1 ⟨rfl, hb1'⟩; have hb1 := bel hb0 hb1'; obtain ⟨p0W1, p1W1, p2W1, p3W1⟩ := tbox_cells ((hb1.block _ lA).trans xA); obtain ⟨q0W1, q1W1, q2W1, q3W1⟩ := tbox_cells ((hb1.block _ lB).trans xB))
        | (go_at_call 6; (with_reducible refine (HF1.out _ (bel hbw hb1)).mono ?_); rintro e W2 ⟨rfl, hb2'⟩; have hb2 := bel hb1 hb2'; obtain ⟨p0W2, p1W2, p2W2, p3W2⟩ := tbox_cells ((hb2.block _ lA).trans xA); obtain ⟨q0W2, q1W2, q2W2, q3W2⟩ := tbox_cells ((hb2.block _ lB).trans xB))
        | (go_at_call 6; (with_reducible refine (HF2.out _ (bel hbw hb2)).mono ?_); rintro e W3 ⟨rfl, hb3'⟩; have hb3 := bel hb2 hb3'; obtain ⟨p0W3, p1W3, p2W3, p3W3⟩ := tbox_cells ((hb3.block _ lA).trans xA); obtain ⟨q0W3, q1W3, q2W3, q3W3⟩ := tbox_cells ((hb3.block _ lB).trans xB)))
      go_ret
      exact ⟨rfl, bel hbw hb3⟩
  · simp only [decide_eq_false c1] at hf1
    have HF1 := Lib.hid hf1
    clear hf1 hf2 hc1 hc2 ha1 ha2 hx1 hx2 hsm
    clear hw0
    go_enter Tryd.func4, Tryd.ntmps4
    go_upto_region 2 with fail
    rw [← hw2]
    clear hw2
    have hb0 := Below.refl w2.heap.size w2
    go_wp2_with (first
      | (go_at_call 5; (with_reducible refine (HSH.out _ (bel hbw hb0)).mono ?_); rintro e W1 ⟨rfl, hb1'⟩; have hb1 := bel hb0 hb1'; obtain ⟨p0W1, p1W1, p2W1, p3W1⟩ := tbox_cells ((hb1.block _ lA).trans xA); obtain ⟨q0W1, q1W1, q2W1, q3W1⟩ := tbox_cells ((hb1.block _ lB).trans xB))
      | (go_at_call 6; (with_reducible refine (HF1.out _ (bel hbw hb1)).mono ?_); rintro e W2 ⟨rfl, hb2'⟩; have hb2 := bel hb1 hb2'; obtain ⟨p0W2, p1W2, p2W2, p3W2⟩ := tbox_cells ((hb2.block _ lA).trans xA); obtain ⟨q0W2, q1W2, q2W2, q3W2⟩ := tbox_cells ((hb2.block _ lB).trans xB)))
    go_ret
    exact ⟨rfl, bel hbw hb2⟩
end Go.Proofs.YtfencolokfghfaaDoor
