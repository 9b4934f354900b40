/-
  The law LattOrders: its walk.
-/
import Derived.Test.YtgkbmdlbljjbfaaOrdersM
import Derived.Test.YtgkbmdlbljjbfaaLaw1
namespace Go.Proofs.Ytgkbmdlbljjbfaa
open Go.RowKit

/-- A region that draws its order, in a family of worlds. -/
theorem wp_region_fam {P : Program} {id : Nat} {Q : Exit → Act → World → Prop} {a : Act} {w : World} {l : List Oper} {I : Type} (F : I → World) (n0 : I) (h0 : w.drew = F n0) (hm : P.follows .mixedOrders = true) (hB : Region.lexB .any l.toArray = true)
    (h : wpQuiet P l.toArray (fun w' => ∃ n, w' = F n) (fun a' => ∀ w', (∃ n, w' = F n) → Q .normal a' w') l a) : (Code.region id l.toArray true).wp P Q a w :=
  wp_region_quiet (C := fun w' => ∃ n, w' = F n) hm hB ⟨n0, h0⟩ (by simpa using h)

/-- All worlds in which nothing that is here has turned. -/
theorem later_family (w : World) : ∃ (I : Type) (_ : Nonempty I) (F : I → World) (n0 : I), w.drew = F n0 ∧ (∀ n, Below w.heap.size w (F n)) ∧ ∀ n w', Below (F n).heap.size (F n) w' → ∃ m, w' = F m :=
  ⟨{ w' : World // Below w.heap.size w w' }, ⟨⟨w, Below.refl _ _⟩⟩, Subtype.val, ⟨w.drew, (Below.refl _ _).drew⟩, rfl, fun n => n.2, fun n w' h => ⟨⟨w', n.2.trans (h.mono n.2.size)⟩, rfl⟩⟩

/-- A contract over such a family. -/
theorem Calls.fam {P : Program} {f : FuncId} {args : Array Value} {I : Type} {F : I → World} {v : Value} (hc : ∀ n w', Below (F n).heap.size (F n) w' → ∃ m, w' = F m) (n : I)
    (h : Calls P f args (F n) (Gets (F n) v)) : Calls P f args (F n) fun e w'' => e = .returned v ∧ ∃ m, w'' = F m :=
  h.mono fun _ _ hg => ⟨hg.1, hc n _ hg.2⟩
theorem Reads.gets {w w' : World} {v : Value} {e : Ending} (h : Reads w v e w') : Gets w v e w' := by
  obtain ⟨rfl, m, rfl⟩ := h
  exact ⟨rfl, below_draws (Below.refl _ _) m⟩

theorem post_agree {w w2 w' w2' : World} {n : Int} {ps : List (Int × Int)} {e e2 : Ending} (h : NewPost w n ps e w') (k : RNewPost w2 n ps e2 w2') :
    (∃ c : Int, (c = 1 ∨ c = 4) ∧ e = .returned (.tuple #[.pointer none, .int .i64 c]) ∧ e2 = .returned (.tuple #[.agg #[.slice none 0 0], .int .i64 c])) ∨
    ∃ (N lb g cp : Nat) (U D : Nat → Nat → Bool) (r c : Nat → Nat), n = N ∧ e = .returned (.tuple #[.pointer (some ⟨lb, 0, none⟩), .int .i64 0]) ∧ Made w' N ps lb U D ∧ w.heap.size ≤ lb ∧
      GridAt w2' g r c N (War (baseTab ps) N) ∧ e2 = .returned (.tuple #[.agg #[.slice (some ⟨g, 0, none⟩) N cp], .int .i64 0]) := by
  obtain ⟨_, h⟩ := h
  obtain ⟨_, k⟩ := k
  rcases h with ⟨h1, h2⟩ | ⟨h1, N, U, D, hn, ht, h⟩
  · rcases k with ⟨_, k2⟩ | ⟨k1, _⟩
    · exact Or.inl ⟨1, Or.inl rfl, h2, k2⟩
    · rw [h1] at k1; cases k1
  · rcases k with ⟨k1, _⟩ | ⟨_, N', g, cp, r, c, hn', _, _, G, k⟩
    · rw [h1] at k1; cases k1
    · obtain rfl : N = N' := by omega
      rcases h with ⟨hf, he⟩ | ⟨hf, lb, h3, h4, h5, h6⟩
      · rcases k with ⟨_, k2⟩ | ⟨k1, _⟩
        · exact Or.inl ⟨4, Or.inr rfl, he, k2⟩
        · have := (flags_iff ht).2 ((refOk_iff ht).1 k1)
          rw [hf] at this; cases this
      · rcases k with ⟨k1, _⟩ | ⟨_, k2⟩
        · have := (refOk_iff ht).2 ((flags_iff ht).1 hf)
          rw [k1] at this; cases this
        · exact Or.inr ⟨N, lb, g, cp, U, D, r, c, hn, h5, ⟨h4, by rw [← hn]; exact h6, ht, (flags_iff ht).1 hf, by rw [← hn]; exact okArgs_good h1⟩, h3, G, k2⟩

set_option maxRecDepth 100000 in
set_option maxHeartbeats 1000000 in
theorem lattOrders_at (n a b : Int) (sa : Option Addr) (cap : Nat) (ps : List (Int × Int)) (w : World)
    (hc : ps.length ≤ cap) (hm : cap ≤ maxLen) (hp : PairsAt w sa ps) :
    Calls Try.prog 3 #[.int .i64 n, .slice sa ps.length cap, .int .i64 a, .int .i64 b] w fun e w' => e = .returned (.bool true) ∧ Below w.heap.size w w' := by
  go_enter Try.func3, Try.ntmps3
  go_wp2_with fail
  refine (shown_at w).mono ?_
  rintro e w1 ⟨rfl, hb1⟩
  have hp1 := hp.below hb1
  have HB1 := Lib.hid hb1
  clear hb1 hp
  go_wp2_with fail
  refine (few_at sa cap ps w1 hc hm hp1).mono ?_
  rintro e w2 ⟨rfl, hp2, hl2, rfl⟩
  obtain ⟨qs, hqs⟩ : ∃ qs, qs = ps.take 100 := ⟨_, rfl⟩
  rw [← hqs] at hp2 hl2 ⊢
  clear hqs hp1
  go_wp2_with fail
  have hq : qs.length ≤ maxLen := by unfold maxLen; omega
  refine (new_at n sa cap qs w1 hq hp2).mono ?_
  rintro e w3 hpost
  have hb3 := hpost.1
  have hp3 := hp2.below hb3
  obtain ⟨v3, p3, hv3⟩ : ∃ p c, e = .returned (.tuple #[.pointer p, .int .i64 c]) := by
    obtain ⟨_, ⟨c, _, he⟩ | ⟨_, b, _, _, _, _, he, _⟩⟩ := hpost.cases
    · exact ⟨_, _, he⟩
    · exact ⟨_, _, he⟩
  subst hv3
  have HB3 := Lib.hid hb3
  have HP := Lib.hid hpost
  clear hp2 hb3 hpost
  go_wp2_with fail
  refine (rnew_at n sa cap qs w3 hq hp3).mono ?_
  rintro e2 w4 kpost
  have hb4 := kpost.1
  have HB4 : Hid (Below w.heap.size w w4) := (HB1.out.trans (HB3.out.mono HB1.out.size)).trans (hb4.mono (HB1.out.trans (HB3.out.mono HB1.out.size)).size)
  rcases post_agree HP.out kpost with ⟨cc, h1, he, rfl⟩ | ⟨N, lb, g, cp, U, D, r, c, rfl, he, M, hlb, G, rfl⟩
  · simp only [Ending.returned.injEq, Value.tuple.injEq, Array.mk.injEq, List.cons.injEq, Value.pointer.injEq, Value.int.injEq, true_and, and_true] at he
    obtain ⟨rfl, rfl⟩ := he
    clear HP kpost hp3 HB3 hb4
    rcases h1 with rfl | rfl
    · go_wp2_with (first | (go_at_call 15; (with_reducible refine (len_nil _).mono ?_); rintro e w' ⟨rfl, m, rfl⟩) | (go_at_call 16; (with_reducible refine (leq_nil a b _).mono ?_); rintro e w' ⟨rfl, m, rfl⟩) | (go_at_call 17; (with_reducible refine (join_nil a b _).mono ?_); rintro e w' ⟨rfl, m, rfl⟩) | (go_at_call 18; (with_reducible refine (meet_nil a b _).mono ?_); rintro e w' ⟨rfl, m, rfl⟩) | (go_at_call 19; (with_reducible refine (bottom_nil _).mono ?_); rintro e w' ⟨rfl, m, rfl⟩) | (go_at_call 20; (with_reducible refine (top_nil _).mono ?_); rintro e w' ⟨rfl, m, rfl⟩))
      go_ret
      exact ⟨rfl, below_draws (HB4.out.alloc HB4.out.size _) _⟩
    · go_wp2_with (first | (go_at_call 15; (with_reducible refine (len_nil _).mono ?_); rintro e w' ⟨rfl, m, rfl⟩) | (go_at_call 16; (with_reducible refine (leq_nil a b _).mono ?_); rintro e w' ⟨rfl, m, rfl⟩) | (go_at_call 17; (with_reducible refine (join_nil a b _).mono ?_); rintro e w' ⟨rfl, m, rfl⟩) | (go_at_call 18; (with_reducible refine (meet_nil a b _).mono ?_); rintro e w' ⟨rfl, m, rfl⟩) | (go_at_call 19; (with_reducible refine (bottom_nil _).mono ?_); rintro e w' ⟨rfl, m, rfl⟩) | (go_at_call 20; (with_reducible refine (top_nil _).mono ?_); rintro e w' ⟨rfl, m, rfl⟩))
      go_ret
      exact ⟨rfl, below_draws (HB4.out.alloc HB4.out.size _) _⟩
  · simp only [Ending.returned.injEq, Value.tuple.injEq, Array.mk.injEq, List.cons.injEq, Value.pointer.injEq, Value.int.injEq, true_and, and_true] at he
    obtain ⟨rfl, rfl⟩ := he
    have M4 := M.later hb4
    have hN1 := M.lat.pos
    have hN2 := M.lat.le
    have hle : (N : Int) ≤ 16 := by omega
    clear HP kpost hp3 HB3 hb4 M hlb
    go_wp2
    obtain ⟨bx, hbxe⟩ : ∃ bx, bx = w4.heap.size := ⟨_, rfl⟩
    obtain ⟨w5, hw5⟩ : ∃ w5, w5 = w4.alloc (Obj.cells #[Value.slice (some { block := g, off := 0 }) N cp] 31) := ⟨_, rfl⟩
    rw [← hw5, ← hbxe]
    have hb5 : Below w4.heap.size w4 w5 := by rw [hw5]; exact (Below.refl _ _).alloc (Nat.le_refl _) _
    have HBX : Hid (w5.cell? ⟨bx, 0, none⟩ = some (.slice (some ⟨g, 0, none⟩) N cp)) := by rw [hw5, hbxe]; exact World.cell?_alloc_new w4 _ _ 0
    have hbl : bx < w5.heap.size := by rw [hw5, hbxe]; simp
    have HM5 := Lib.hid (M4.later hb5)
    have HG5 := Lib.hid (G.below hb5)
    have HB5 : Hid (Below w.heap.size w w5) := HB4.out.trans (hb5.mono HB4.out.size)
    obtain ⟨W, hW⟩ : ∃ W, W = War (baseTab qs) N := ⟨_, rfl⟩
    rw [← hW] at HG5
    have HLS : Hid (∀ x y, leqB N W x y = leqB N U x y) := fun x y => by rw [hW]; exact leq_same M4.tab x y
    have HJS : Hid (∀ x y, refJoin (leqB N W) N x y = joinB N U x y) := fun x y => by rw [hW]; exact join_same M4 x y
    have HMS : Hid (∀ x y, refJoin (fun x y => leqB N W y x) N x y = joinB N D x y) := fun x y => by rw [hW]; exact meet_same M4 x y
    have HBS : Hid (firstFrom (fun c => allTo (fun d => W c d) N) 0 N = cover U (below N)) := by show _ = _; rw [hW]; exact bottom_same M4
    have HTS : Hid (firstFrom (fun c => allTo (fun d => W d c) N) 0 N = cover D (below N)) := by show _ = _; rw [hW]; exact top_same M4
    clear hw5 hbxe hb5 HB4 M4 G hW
    go_loopw [15] (fun i wr => ∃ x : Int, i = .int .i64 x ∧ -1 ≤ x ∧ x ≤ (N : Int) + 1 ∧ Below w5.heap.size w5 wr) (fun i _ => ((N : Int) + 1 - intOf i).toNat)
    case atStart => exact ⟨-1, rfl, by omega, by omega, Below.refl _ _⟩
    case round =>
      obtain ⟨x, rfl, hx1, hx2, hb⟩ := hrel
      have HB := Lib.hid hb
      clear hb
      by_cases hlx : x ≤ (N : Int)
      · go_wp2
        go_loopw [16] (fun i wr => ∃ y : Int, i = .int .i64 y ∧ -1 ≤ y ∧ y ≤ (N : Int) + 1 ∧ Below w5.heap.size w5 wr) (fun i _ => ((N : Int) + 1 - intOf i).toNat)
        case atStart => exact ⟨-1, rfl, by omega, by omega, HB.out⟩
        case round =>
          clear HB
          obtain ⟨y, rfl, hy1, hy2, hb⟩ := hrel
          by_cases hly : y ≤ (N : Int)
          · obtain ⟨I, inst, F, n0, hF0, hFb, hFc⟩ := later_family wr
            have hF5 : ∀ i, Below w5.heap.size w5 (F i) := fun i => hb.trans ((hFb i).mono hb.size)
            have hbox : ∀ i, (F i).cell? ⟨bx, 0, none⟩ = some (.slice (some ⟨g, 0, none⟩) N cp) := fun i => by rw [(hF5 i).cell (p := ⟨bx, 0, none⟩) hbl]; exact HBX.out
            obtain ⟨lv, hlv⟩ : ∃ lv, leqB N U x y = lv := ⟨_, rfl⟩
            obtain ⟨jv, hjv⟩ : ∃ jv, joinB N U x y = jv := ⟨_, rfl⟩
            obtain ⟨mv, hmv⟩ : ∃ mv, joinB N D x y = mv := ⟨_, rfl⟩
            have C1 := Lib.hid (fun i => Calls.fam hFc i ((leq_is lb N x y U D lv (F i) hle (HM5.out.later (hF5 i)).at_ hlv).mono fun _ _ h => h.gets))
            have C2 := Lib.hid (fun i => Calls.fam hFc i (rleq_is g N cp r c W x y lv (F i) (HG5.out.below (hF5 i)) (by rw [HLS.out]; exact hlv)))
            have C3 := Lib.hid (fun i => Calls.fam hFc i ((join_is lb N x y jv U D (F i) hle (HM5.out.later (hF5 i)).at_ hjv).mono fun _ _ h => h.gets))
            have C4 := Lib.hid (fun i => Calls.fam hFc i (by have := rjoin_at g N cp r c W x y (F i) hN2 (HG5.out.below (hF5 i)); rw [HJS.out, hjv] at this; exact this))
            have C5 := Lib.hid (fun i => Calls.fam hFc i ((meet_is lb N x y mv U D (F i) hle (HM5.out.later (hF5 i)).at_ hmv).mono fun _ _ h => h.gets))
            have C6 := Lib.hid (fun i => Calls.fam hFc i (by have := rmeet_at g N cp r c W x y (F i) hN2 (HG5.out.below (hF5 i)); rw [HMS.out, hmv] at this; exact this))
            have HF5 := Lib.hid hF5
            clear hlv hjv hmv hb hFb hFc hF5
            go_wp2
            refine wp_region_fam F n0 hF0 (by kernel_rfl) (by kernel_rfl) ?_
            clear hF0
            repeat (go_big_quiet_step (first | (go_at_call 16; exact C1.out _) | (go_at_call 21; exact C2.out _) | (go_at_call 17; exact C3.out _) | (go_at_call 22; exact C4.out _) | (go_at_call 18; exact C5.out _) | (go_at_call 23; exact C6.out _)))
            refine wpQuiet_nil ?_
            intro _ hw'
            obtain ⟨nq, hw''⟩ := hw'
            subst hw''
            go_wp2
            go_roundw
            case rel => exact ⟨y + 1, by go_num, by omega, by omega, HF5.out nq⟩
            case measure => simp [intOf]; omega
          · have hly1 : decide (y ≤ (N : Int)) = false := by simpa using hly
            have HB := Lib.hid hb
            clear hb
            go_wp2
            go_roundw
            case rel => exact ⟨x + 1, by go_num, by omega, by omega, HB.out⟩
            case measure => simp [intOf]; omega
      · have hlx1 : decide (x ≤ (N : Int)) = false := by simpa using hlx
        have hb := HB.out
        obtain ⟨I, inst, F, n0, hF0, hFb, hFc⟩ := later_family wr
        have hF5 : ∀ i, Below w5.heap.size w5 (F i) := fun i => hb.trans ((hFb i).mono hb.size)
        have hbox : ∀ i, (F i).cell? ⟨bx, 0, none⟩ = some (.slice (some ⟨g, 0, none⟩) N cp) := fun i => by rw [(hF5 i).cell (p := ⟨bx, 0, none⟩) hbl]; exact HBX.out
        obtain ⟨lv, hlv⟩ : ∃ lv, leqB N U a b = lv := ⟨_, rfl⟩
        obtain ⟨bv, hbv⟩ : ∃ bv, cover U (below N) = bv := ⟨_, rfl⟩
        obtain ⟨tv, htv⟩ : ∃ tv, cover D (below N) = tv := ⟨_, rfl⟩
        have C0 := Lib.hid (fun i => Calls.fam hFc i ((len_at lb N (F i) (HM5.out.later (hF5 i)).at_.len).mono fun _ _ h => h.gets))
        have C1 := Lib.hid (fun i => Calls.fam hFc i ((leq_is lb N a b U D lv (F i) hle (HM5.out.later (hF5 i)).at_ hlv).mono fun _ _ h => h.gets))
        have C2 := Lib.hid (fun i => Calls.fam hFc i (rleq_is g N cp r c W a b lv (F i) (HG5.out.below (hF5 i)) (by rw [HLS.out]; exact hlv)))
        have C3 := Lib.hid (fun i => Calls.fam hFc i ((bottom_is lb N bv U D (F i) hN2 (HM5.out.later (hF5 i)).at_ hbv).mono fun _ _ h => h.gets))
        have C4 := Lib.hid (fun i => Calls.fam hFc i (by have := rbottom_at g N cp r c W (F i) hN2 (HG5.out.below (hF5 i)); rw [HBS.out, hbv] at this; exact this))
        have C5 := Lib.hid (fun i => Calls.fam hFc i ((top_is lb N tv U D (F i) hN2 (HM5.out.later (hF5 i)).at_ htv).mono fun _ _ h => h.gets))
        have C6 := Lib.hid (fun i => Calls.fam hFc i (by have := rtop_at g N cp r c W (F i) hN2 (HG5.out.below (hF5 i)); rw [HTS.out, htv] at this; exact this))
        have HF5 := Lib.hid hF5
        clear hlv hbv htv hb hFb hFc hF5
        go_wp2
        refine wp_region_fam F n0 hF0 (by kernel_rfl) (by kernel_rfl) ?_
        clear hF0
        repeat (go_big_quiet_step (first | (go_at_call 15; exact C0.out _) | (go_at_call 16; exact C1.out _) | (go_at_call 21; exact C2.out _) | (go_at_call 19; exact C3.out _) | (go_at_call 24; exact C4.out _) | (go_at_call 20; exact C5.out _) | (go_at_call 25; exact C6.out _)))
        refine wpQuiet_nil ?_
        intro _ hw'
        obtain ⟨nq, hw''⟩ := hw'
        subst hw''
        go_wp2
        go_ret
        exact ⟨rfl, HB5.out.trans ((HF5.out nq).mono HB5.out.size)⟩
end Go.Proofs.Ytgkbmdlbljjbfaa
