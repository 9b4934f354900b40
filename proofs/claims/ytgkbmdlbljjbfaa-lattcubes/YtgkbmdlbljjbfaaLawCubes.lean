/-
  The law LattCubes: its mathematics and its walk.
-/
import Derived.Test.YtgkbmdlbljjbfaaOwn
namespace Go.Proofs.Ytgkbmdlbljjbfaa
open Go.RowKit

theorem i64_wrap_nat (x : Nat) (h : x < 9223372036854775808) : IntKind.i64.wrap (x : Int) = x := by
  simp [IntKind.wrap, IntKind.bits, IntKind.signed]; omega
theorem ofInt_i64 (a : Nat) (ha : a < 9223372036854775808) : (BitVec.ofInt 64 (a : Int)).toNat = a := by
  rw [BitVec.ofInt_natCast, BitVec.toNat_ofNat]; exact Nat.mod_eq_of_lt (by omega)
theorem i64_and (a b : Nat) (ha : a < 9223372036854775808) (hb : b < 9223372036854775808) : bits .and .i64 (a : Int) (b : Int) = ((a &&& b : Nat) : Int) := by
  show IntKind.i64.wrap ((BitVec.ofInt 64 (a : Int) &&& BitVec.ofInt 64 (b : Int)).toNat : Int) = _
  rw [BitVec.toNat_and, ofInt_i64 a ha, ofInt_i64 b hb]
  exact i64_wrap_nat _ (Nat.lt_of_le_of_lt Nat.and_le_left ha)
theorem i64_or (a b : Nat) (ha : a < 9223372036854775808) (hb : b < 9223372036854775808) : bits .or .i64 (a : Int) (b : Int) = ((a ||| b : Nat) : Int) := by
  show IntKind.i64.wrap ((BitVec.ofInt 64 (a : Int) ||| BitVec.ofInt 64 (b : Int)).toNat : Int) = _
  rw [BitVec.toNat_or, ofInt_i64 a ha, ofInt_i64 b hb]
  exact i64_wrap_nat _ (Nat.or_lt_two_pow (n := 63) ha hb)

theorem sub_bits {a b : Nat} : a &&& b = a ↔ ∀ i, a.testBit i = true → b.testBit i = true := by
  constructor
  · intro h i hi
    have : (a &&& b).testBit i = a.testBit i := by rw [h]
    rw [Nat.testBit_and, hi] at this
    simpa using this
  · intro h
    apply Nat.eq_of_testBit_eq
    intro i
    rw [Nat.testBit_and]
    cases ha : a.testBit i
    · rfl
    · rw [h i ha]; rfl

def rowTo (x : Nat) : Nat → List (Int × Int)
  | 0 => []
  | y + 1 => rowTo x y ++ (if x &&& y = x then [((x : Int), (y : Int))] else [])
def cubeTo (k : Nat) : Nat → List (Int × Int)
  | 0 => []
  | x + 1 => cubeTo k x ++ rowTo x k

theorem rowTo_length (x : Nat) : ∀ j, (rowTo x j).length ≤ j
  | 0 => Nat.le_refl _
  | y + 1 => by
    have := rowTo_length x y
    rw [rowTo, List.length_append]
    split <;> simp <;> omega
theorem cubeTo_length (k : Nat) : ∀ x, (cubeTo k x).length ≤ x * k
  | 0 => by simp [cubeTo]
  | x + 1 => by
    have := cubeTo_length k x
    have := rowTo_length x k
    rw [cubeTo, List.length_append, Nat.add_mul]; omega
theorem tab_append (ps qs : List (Int × Int)) (a b : Nat) : tab (ps ++ qs) a b = (tab ps a b || tab qs a b) := by simp [tab]
theorem tab_row (x a b : Nat) : ∀ j, tab (rowTo x j) a b = true ↔ a = x ∧ b < j ∧ x &&& b = x
  | 0 => by simp [rowTo, tab]
  | y + 1 => by
    rw [rowTo, tab_append, Bool.or_eq_true, tab_row x a b y]
    by_cases h : x &&& y = x
    · rw [if_pos h]
      have e : tab [((x : Int), (y : Int))] a b = true ↔ a = x ∧ b = y := by simp [tab]; omega
      rw [e]
      constructor
      · rintro (⟨h1, h2, h3⟩ | ⟨h1, h2⟩)
        · exact ⟨h1, by omega, h3⟩
        · subst h2; exact ⟨h1, by omega, h⟩
      · rintro ⟨h1, h2, h3⟩
        by_cases e2 : b = y
        · exact Or.inr ⟨h1, e2⟩
        · exact Or.inl ⟨h1, by omega, h3⟩
    · rw [if_neg h]
      have e : tab [] a b = false := rfl
      rw [e]
      constructor
      · rintro (⟨h1, h2, h3⟩ | h1)
        · exact ⟨h1, by omega, h3⟩
        · cases h1
      · rintro ⟨h1, h2, h3⟩
        have : b ≠ y := fun e2 => h (by rw [← e2]; exact h3)
        exact Or.inl ⟨h1, by omega, h3⟩
theorem tab_cube (k a b : Nat) : ∀ x, tab (cubeTo k x) a b = true ↔ a < x ∧ b < k ∧ a &&& b = a
  | 0 => by simp [cubeTo, tab]
  | x + 1 => by
    rw [cubeTo, tab_append, Bool.or_eq_true, tab_cube k a b x, tab_row]
    constructor
    · rintro (⟨h1, h2, h3⟩ | ⟨h1, h2, h3⟩)
      · exact ⟨by omega, h2, h3⟩
      · subst h1; exact ⟨by omega, h2, h3⟩
    · rintro ⟨h1, h2, h3⟩
      by_cases e : a = x
      · subst e; exact Or.inr ⟨rfl, h2, h3⟩
      · exact Or.inl ⟨by omega, h2, h3⟩
theorem good_row (n x : Nat) (hx : x < n) : ∀ j, j ≤ n → goodB n (rowTo x j) = true
  | 0, _ => rfl
  | y + 1, h => by
    have := good_row n x hx y (by omega)
    simp only [goodB] at this
    simp only [rowTo, goodB, List.all_append, this]
    split
    · simp [hasB]; omega
    · rfl
theorem good_cube (n : Nat) : ∀ x, x ≤ n → goodB n (cubeTo n x) = true
  | 0, _ => rfl
  | x + 1, h => by
    have h1 := good_cube n x (by omega)
    have h2 := good_row n x (by omega) n (Nat.le_refl _)
    simp only [goodB] at h1 h2
    simp only [cubeTo, goodB, List.all_append, h1, h2]; rfl

theorem cube_iff {k : Nat} {U D : Nat → Nat → Bool} (h : IsTab k (cubeTo k k) U D) (a b : Nat) (ha : a < k) (hb : b < k) : U a b = true ↔ a &&& b = a := by
  refine h.eq (fun a b => a &&& b = a) (fun a _ => Nat.and_self a) (fun a _ b _ c _ h1 h2 => ?_) (fun a _ b _ h => ((tab_cube k a b k).1 h).2.2) (fun a b ha hb h => .one ⟨ha, hb, (tab_cube k a b k).2 ⟨ha, hb, h⟩⟩) a b ha hb
  rw [sub_bits] at *
  exact fun i hi => h2 i (h1 i hi)

theorem or_lub {n : Nat} {U : Nat → Nat → Bool} {t : Nat} (hn : n = 2 ^ t) (e : ∀ a b, a < n → b < n → (U a b = true ↔ a &&& b = a)) {a b : Nat} (ha : a < n) (hb : b < n) : Lub n U a b (a ||| b) := by
  have hlt : a ||| b < n := by rw [hn] at *; exact Nat.or_lt_two_pow ha hb
  refine ⟨hlt, (e _ _ ha hlt).2 (sub_bits.2 fun i hi => by rw [Nat.testBit_or, hi]; rfl), (e _ _ hb hlt).2 (sub_bits.2 fun i hi => by rw [Nat.testBit_or, hi]; simp), fun d hd h1 h2 => ?_⟩
  rw [e a d ha hd, sub_bits] at h1
  rw [e b d hb hd, sub_bits] at h2
  rw [e _ d hlt hd, sub_bits]
  intro i hi
  rw [Nat.testBit_or, Bool.or_eq_true] at hi
  rcases hi with hi | hi
  · exact h1 i hi
  · exact h2 i hi
theorem and_glb {n : Nat} {U : Nat → Nat → Bool} (e : ∀ a b, a < n → b < n → (U a b = true ↔ a &&& b = a)) {a b : Nat} (ha : a < n) (hb : b < n) : Glb n U a b (a &&& b) := by
  have hlt : a &&& b < n := Nat.lt_of_le_of_lt Nat.and_le_left ha
  refine ⟨hlt, (e _ _ hlt ha).2 (sub_bits.2 fun i hi => by rw [Nat.testBit_and, Bool.and_eq_true] at hi; exact hi.1), (e _ _ hlt hb).2 (sub_bits.2 fun i hi => by rw [Nat.testBit_and, Bool.and_eq_true] at hi; exact hi.2), fun d hd h1 h2 => ?_⟩
  rw [e d a hd ha, sub_bits] at h1
  rw [e d b hd hb, sub_bits] at h2
  rw [e d _ hd hlt, sub_bits]
  intro i hi
  rw [Nat.testBit_and, h1 i hi, h2 i hi]; rfl
theorem cube_lat {k t : Nat} (hk : k = 2 ^ t) (h16 : k ≤ 16) {U D : Nat → Nat → Bool} (h : IsTab k (cubeTo k k) U D) : IsLat k U := by
  have e := cube_iff h
  refine ⟨h.one_le, h16, h.within, h.refl, fun a b c ha hb hc h1 h2 => h.trans a b ha hb h1 c (by omega) h2, fun a b ha hb h1 h2 => ?_, fun a b ha hb => ⟨_, or_lub hk e ha hb⟩, fun a b ha hb => ⟨_, and_glb e ha hb⟩⟩
  rw [e a b ha hb] at h1; rw [e b a hb ha] at h2
  rw [← h1, Nat.and_comm, h2]

set_option maxRecDepth 100000 in
set_option maxHeartbeats 1000000 in
theorem lattCubes_at (n a b : Int) (w : World) (n0 : 0 ≤ n) (n1 : n < 256) (a0 : 0 ≤ a) (a1 : a < 256) (b0 : 0 ≤ b) (b1 : b < 256) :
    Calls Try.prog 7 #[.int .u8 n, .int .u8 a, .int .u8 b] w fun e w' => e = .returned (.bool true) ∧ Below w.heap.size w w' := by
  go_enter Try.func7, Try.ntmps7
  go_wp2_with fail
  refine (shown_at w).mono ?_
  rintro e w1 ⟨rfl, hb1⟩
  have HB1 := Lib.hid hb1
  clear hb1
  go_wp2_with fail
  obtain ⟨t, ht, ht4⟩ : ∃ t : Nat, n % 5 = (t : Int) ∧ t ≤ 4 := ⟨(n % 5).toNat, by omega, by omega⟩
  rw [ht]
  clear ht
  go_loop [9, 10] (fun kv i => ∃ j K : Nat, j ≤ t ∧ i = .int .i64 j ∧ kv = .int .i64 K ∧ K = 2 ^ j) (fun _ i => t - (intOf i).toNat)
  case atStart => exact ⟨0, 1, Nat.zero_le _, rfl, rfl, rfl⟩
  case round =>
    obtain ⟨j, K, hj, rfl, rfl, hK⟩ := hrel
    have hK16 : K ≤ 16 := by
      rw [hK]
      have : (2 : Nat) ^ j ≤ 2 ^ 4 := Nat.pow_le_pow_right (by decide) (by omega)
      exact this
    have HK := Lib.hid hK
    clear hK
    by_cases hlt : j < t
    · go_wp2
      go_round
      case rel => exact ⟨j + 1, 2 * K, by omega, by go_num, by go_num, by rw [Nat.pow_succ, ← HK.out]; omega⟩
      case measure => simp [intOf]; omega
    · obtain rfl : t = j := by omega
      obtain ⟨k, hk⟩ : ∃ k, k = K := ⟨K, rfl⟩
      subst hk
      have hk0 : 1 ≤ k := by rw [HK.out]; exact Nat.one_le_two_pow
      go_wp2
      go_loopw [11, 12] (fun v i wr => ∃ x : Nat, x ≤ k ∧ i = .int .i64 x ∧ OwnPairs wr w.heap.size v (cubeTo k x) ∧ Below w.heap.size w wr) (fun _ i _ => k - (intOf i).toNat)
      case atStart => exact ⟨0, Nat.zero_le _, rfl, OwnPairs.nil _ _, HB1.out⟩
      case round =>
        obtain ⟨x, hx, rfl, hown, hbr⟩ := hrel
        have HO := Lib.hid hown
        have HB := Lib.hid hbr
        clear hown hbr
        by_cases hlx : x < k
        · go_wp2
          go_loopw [11, 13] (fun v i wr => ∃ y : Nat, y ≤ k ∧ i = .int .i64 y ∧ OwnPairs wr w.heap.size v (cubeTo k x ++ rowTo x y) ∧ Below w.heap.size w wr) (fun _ i _ => k - (intOf i).toNat)
          case atStart => exact ⟨0, Nat.zero_le _, rfl, by rw [rowTo, List.append_nil]; exact HO.out, HB.out⟩
          case round =>
            clear HO HB
            obtain ⟨y, hy, rfl, hown, hbr⟩ := hrel
            have HO := Lib.hid hown
            have HB := Lib.hid hbr
            by_cases hly : y < k
            · have hand := i64_and x y (by omega) (by omega)
              have hlen : (cubeTo k x ++ rowTo x y).length ≤ 1000 := by
                have h1 := cubeTo_length k x
                have h2 := rowTo_length x y
                have h3 : x * k ≤ 16 * 16 := Nat.mul_le_mul (by omega) hK16
                rw [List.length_append]; omega
              by_cases hsub : x &&& y = x
              · have ht1 : (bits BinOp.and IntKind.i64 (x : Int) (y : Int) == (x : Int)) = true := by rw [hand, hsub]; simp
                have HS := Lib.hid hsub
                clear hand hsub
                generalize hqs : cubeTo k x ++ rowTo x y = qs at *
                have HQ := Lib.hid hqs
                clear hqs
                go_wp2_with (first | (at_builtin; refine wpList_append_pairs rfl _ _ rfl w.heap.size _ qs rfl (hown.alloc _) (some ⟨wr.heap.size, 0, none⟩) 1 [((x : Int), (y : Int))] 1 rfl rfl ?c1 ?c2 ?c3 ?c4 ?_))
                case c1 => exact PairsAt.lit1 wr _ _
                case c2 => intro h; cases h
                case c3 => simp; omega
                case c4 => have := hbr.size; simp; omega
                · intro v' w3 hown' hgrow
                  have HO3 : Hid (OwnPairs w3 w.heap.size v' (cubeTo k x ++ rowTo x (y + 1))) := by
                    rw [rowTo, if_pos HS.out, ← List.append_assoc, HQ.out]; exact hown'
                  have HB3 : Hid (Below w.heap.size w w3) := (hbr.alloc hbr.size _).grown hgrow (by simp; have := hbr.size; omega) (OwnPairs.lt hown)
                  clear hown' hgrow hown hbr HB HO
                  go_wp2
                  go_roundw
                  case rel => exact ⟨y + 1, by omega, by go_num, HO3.out, HB3.out⟩
                  case measure => simp [intOf]; omega
              · have ht1 : (bits BinOp.and IntKind.i64 (x : Int) (y : Int) == (x : Int)) = false := by rw [hand]; simp; omega
                have HS := Lib.hid hsub
                clear hand hsub hown hbr
                go_wp2
                go_roundw
                case rel => exact ⟨y + 1, by omega, by go_num, by rw [rowTo, if_neg HS.out, List.append_nil]; exact HO.out, HB.out⟩
                case measure => simp [intOf]; omega
            · obtain rfl : y = k := by omega
              clear hown hbr
              go_wp2
              go_roundw
              case rel => exact ⟨x + 1, by omega, by go_num, HO.out, HB.out⟩
              case measure => simp [intOf]; omega
        · obtain rfl : k = x := by omega
          obtain ⟨qs, hqs⟩ : ∃ qs, qs = cubeTo k k := ⟨_, rfl⟩
          have hown := HO.out
          rw [← hqs] at hown
          have hl : qs.length ≤ maxLen := by
            have h1 := cubeTo_length k k
            have h3 : k * k ≤ 16 * 16 := Nat.mul_le_mul hK16 hK16
            rw [hqs]; unfold maxLen; omega
          have HQ := Lib.hid hqs
          obtain ⟨sa, cap, rfl, hc1, hc2, hc3, hp⟩ := hown.pairs
          clear hown HO hqs hc1 hc2 hc3
          go_wp2_with fail
          with_reducible refine (new_at k sa cap qs wr hl hp).mono ?_
          rintro e w3 hpost
          rw [HQ.out] at hpost
          obtain ⟨hb3, lb, U, D, hlb, rfl, M⟩ := NewPost.ok hpost (by have := good_cube k k (Nat.le_refl _); simp [okArgs]; exact ⟨by omega, this⟩) (fun U D h => cube_lat HK.out hK16 h)
          have HBB : Hid (Below w.heap.size w w3) := HB.out.trans (hb3.mono HB.out.size)
          clear hpost hb3 hp HB HB1 hl hlb
          go_wp2_with fail
          obtain ⟨X, hX, hXN⟩ := mod_level a k hk0
          obtain ⟨Y, hY, hYN⟩ := mod_level b k hk0
          rw [hX, hY]
          clear hX hY
          have e := cube_iff M.tab
          have EB : Hid (cover U (below k) = 0) := bottom_eq M.lat (c := 0) (by omega) (fun i hi => (e 0 i (by omega) hi).2 (Nat.zero_and i))
          have ET : Hid (cover D (below k) = (k : Int) - 1) := by
            have h1 : k - 1 < k := by omega
            have := top_eq M.lat M.tab.down (c := k - 1) h1 (fun i hi => (e i _ hi h1).2 (by
              rw [HK.out] at hi ⊢
              rw [Nat.and_two_pow_sub_one_of_lt_two_pow hi]))
            show _ = _
            rw [this]; omega
          obtain ⟨o, ho⟩ : ∃ o, o = X ||| Y := ⟨_, rfl⟩
          obtain ⟨q, hq⟩ : ∃ q, q = X &&& Y := ⟨_, rfl⟩
          have EJ : Hid (joinB k U X Y = (o : Int)) := by show _ = _; rw [ho]; exact M.join hXN hYN (or_lub HK.out e hXN hYN)
          have EM : Hid (joinB k D X Y = (q : Int)) := by show _ = _; rw [hq]; exact M.meet hXN hYN (and_glb e hXN hYN)
          have EL : Hid (leqB k U X Y = decide (q = X)) := by
            show _ = _
            rw [M.leq hXN hYN, Bool.eq_iff_iff, e X Y hXN hYN, hq]; simp
          have hor : bits BinOp.or IntKind.i64 (X : Int) (Y : Int) = (o : Int) := by rw [ho]; exact i64_or X Y (by omega) (by omega)
          have hand : bits BinOp.and IntKind.i64 (X : Int) (Y : Int) = (q : Int) := by rw [hq]; exact i64_and X Y (by omega) (by omega)
          have L := M.at_
          have hle : (k : Int) ≤ 16 := by omega
          have hle2 : k ≤ 16 := by omega
          clear e M ho hq HQ
          by_cases hqx : q = X
          · subst hqx
            rw [decide_eq_true rfl] at EL
            go_wp2_with (first | (go_at_call 19; (with_reducible refine (bottom_is lb k 0 U D _ hle2 ?_ EB.out).mono ?_); (first | exact L | exact L.drewN _); rintro e w' ⟨rfl, m, rfl⟩) | (go_at_call 20; (with_reducible refine (top_is lb k (k - 1) U D _ hle2 ?_ ET.out).mono ?_); (first | exact L | exact L.drewN _); rintro e w' ⟨rfl, m, rfl⟩) | (go_at_call 17; (with_reducible refine (join_is lb k q Y o U D _ hle ?_ EJ.out).mono ?_); (first | exact L | exact L.drewN _); rintro e w' ⟨rfl, m, rfl⟩) | (go_at_call 18; (with_reducible refine (meet_is lb k q Y q U D _ hle ?_ EM.out).mono ?_); (first | exact L | exact L.drewN _); rintro e w' ⟨rfl, m, rfl⟩) | (go_at_call 16; (with_reducible refine (leq_is lb k q Y U D true _ hle ?_ EL.out).mono ?_); (first | exact L | exact L.drewN _); rintro e w' ⟨rfl, m, rfl⟩))
            go_ret
            exact ⟨rfl, below_draws HBB.out _⟩
          · rw [decide_eq_false hqx] at EL
            have hq1 : (q == X) = false := by simpa using hqx
            have hq2 : ((q : Int) == (X : Int)) = false := by simp; omega
            go_wp2_with (first | (go_at_call 19; (with_reducible refine (bottom_is lb k 0 U D _ hle2 ?_ EB.out).mono ?_); (first | exact L | exact L.drewN _); rintro e w' ⟨rfl, m, rfl⟩) | (go_at_call 20; (with_reducible refine (top_is lb k (k - 1) U D _ hle2 ?_ ET.out).mono ?_); (first | exact L | exact L.drewN _); rintro e w' ⟨rfl, m, rfl⟩) | (go_at_call 17; (with_reducible refine (join_is lb k X Y o U D _ hle ?_ EJ.out).mono ?_); (first | exact L | exact L.drewN _); rintro e w' ⟨rfl, m, rfl⟩) | (go_at_call 18; (with_reducible refine (meet_is lb k X Y q U D _ hle ?_ EM.out).mono ?_); (first | exact L | exact L.drewN _); rintro e w' ⟨rfl, m, rfl⟩) | (go_at_call 16; (with_reducible refine (leq_is lb k X Y U D false _ hle ?_ EL.out).mono ?_); (first | exact L | exact L.drewN _); rintro e w' ⟨rfl, m, rfl⟩))
            go_ret
            exact ⟨rfl, below_draws HBB.out _⟩
end Go.Proofs.Ytgkbmdlbljjbfaa
