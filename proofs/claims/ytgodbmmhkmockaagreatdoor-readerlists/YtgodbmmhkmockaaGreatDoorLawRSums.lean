/-
  ReaderSums: sums of figures are read from the left; products bind more.
-/
import Derived.Test.YtgodbmmhkmockaaGreatDoorRShown
import Derived.Test.YtgodbmmhkmockaaGreatDoorReadY
import Derived.Test.YtgodbmmhkmockaaGreatDoorLast
import Derived.Deep.RegionHeld3
import Derived.Deep.Quiet
namespace Go.Proofs.YtgodbmmhkmockaaGreatDoor
open Go.RowKit Go.Maps
set_option linter.unusedVariables false
set_option linter.unusedSimpArgs false

/-- Bytes in memory. -/
def U8At (w : World) (a : Option Addr) (bs : List UInt8) : Prop := ∀ i c, bs[i]? = some c → ∃ ad, a = some ad ∧ ad.block < w.heap.size ∧ w.cell? (ad.add i) = some (.int .u8 (c.toNat : Int))
theorem U8At.below {w w' : World} {a : Option Addr} {bs : List UInt8} (h : U8At w a bs) (hb : Below w.heap.size w w') : U8At w' a bs := fun i c hc => by
  obtain ⟨ad, h1, h2, h3⟩ := h i c hc
  exact ⟨ad, h1, Nat.lt_of_lt_of_le h2 hb.size, (hb.cell (p := ad.add i) (by rw [show (ad.add i).block = ad.block by unfold Addr.add; split <;> rfl]; exact h2)).trans h3⟩
theorem one_text7 {W : World} {B : Nat} {c : UInt8} (h : W.cell? ⟨B, 0, none⟩ = some (.int .u8 (c.toNat : Int))) : (convert 30 9 (.slice (some ⟨B, 0, none⟩) 1 1)).run Tryz.prog W = .ok (.string (strV [c])) W := by
  refine run_convert_bytes_back W 30 9 5 ⟨B, 0, none⟩ 1 [c] Tryz.underlying30 Tryz.underlying5 Tryz.underlying9 (fun j hj => ?_)
  have : j = 0 := by simpa using hj
  subst this
  exact h
theorem rd_app (a b : ByteArray) : (a ++ b).data.toList = a.data.toList ++ b.data.toList := by
  rw [ByteArray.data_append]; simp
theorem one_has {w : World} {v : Value} {x : Tm} (hk : HasTs w v [x]) : ∃ b o cap k n s a l c, v = .slice (some ⟨b, o, none⟩) 1 cap ∧ b < w.heap.size ∧
    w.cell? ⟨b, o, none⟩ = some (.int .i64 k) ∧ w.cell? ⟨b, o + 1, none⟩ = some (.int .i64 n) ∧ w.cell? ⟨b, o + 2, none⟩ = some (.string s) ∧ w.cell? ⟨b, o + 3, none⟩ = some (.slice a l c) ∧ Has w (.agg #[.int .i64 k, .int .i64 n, .string s, .slice a l c]) x := by
  obtain ⟨a, cap, rfl, hl, hm, ha, hx⟩ := hk
  obtain ⟨b, o, k0, n0, s0, a0, l0, c0, rfl, hb, q0, q1, q2, q3, hT0⟩ := hx 0 (by simp)
  exact ⟨b, o, cap, k0, n0, s0, a0, l0, c0, rfl, hb, by simpa using q0, by simpa using q1, by simpa using q2, by simpa using q3, hT0⟩
/-- A term's box, stored whole. -/
theorem set4 {w w9 : World} {m B : Nat} {a0 a1 a2 a3 : Value} {t : TypeId} (h : w9.heap[B]? = some (.cells #[a0, a1, a2, a3] t (0, 0))) (v0 v1 v2 v3 : Value) (hb : Below m w w9) (hm : m ≤ B) :
    ∃ W, W = (((w9.setCell ⟨B, 0, none⟩ v0).setCell ⟨B, 1, none⟩ v1).setCell ⟨B, 2, none⟩ v2).setCell ⟨B, 3, none⟩ v3 ∧ W.heap[B]? = some (.cells #[v0, v1, v2, v3] t (0, 0)) ∧ (∀ b, b ≠ B → W.heap[b]? = w9.heap[b]?) ∧ Below m w W ∧ W.heap.size = w9.heap.size :=
  ⟨_, rfl, four_block h v0 v1 v2 v3, fun b hb => by
    rw [Below.heap_setCell _ ⟨B, 3, none⟩ _ b hb, Below.heap_setCell _ ⟨B, 2, none⟩ _ b hb, Below.heap_setCell _ ⟨B, 1, none⟩ _ b hb, Below.heap_setCell _ ⟨B, 0, none⟩ _ b hb],
    Below.setCell (Below.setCell (Below.setCell (Below.setCell hb (p := ⟨B, 0, none⟩) hm v0) (p := ⟨B, 1, none⟩) hm v1) (p := ⟨B, 2, none⟩) hm v2) (p := ⟨B, 3, none⟩) hm v3, by simp⟩
theorem adk {ad : Addr} (k : Nat) : (ad.add k).block = ad.block := by unfold Addr.add; split <;> rfl
def gT : List UInt8 → List UInt8
  | [] => []
  | b :: r => dgt b :: r.flatMap pcT
def gM : List UInt8 → Tm
  | [] => nM 0
  | b :: r => sumM b r
theorem gT_snoc {l : List UInt8} (h : l ≠ []) (b : UInt8) : gT (l ++ [b]) = gT l ++ pcT b := by
  cases l with
  | nil => exact absurd rfl h
  | cons c l => simp [gT]
theorem gM_snoc {l : List UInt8} (h : l ≠ []) (b : UInt8) : gM (l ++ [b]) = pcM (gM l) b := by
  cases l with
  | nil => exact absurd rfl h
  | cons c l => simp [gM, sumM]
theorem gT_len (l : List UInt8) : (gT l).length ≤ 8 * l.length := by
  cases l with
  | nil => simp [gT]
  | cons b l => have := pcs_len l; simp only [gT, List.length_cons]; omega
theorem gM_size (l : List UInt8) : (gM l).size ≤ 1 + 4 * l.length := by
  cases l with
  | nil => show (nM 0).size ≤ _; rw [nM_size]; omega
  | cons b l =>
    have := (pcs_fine l ((Fine.num (b.toNat % 10)).weak (m' := 2) (z' := 1) (by omega) (by omega)) (by omega)).2.1
    show (l.foldl pcM (nM (b.toNat % 10))).size ≤ _
    rw [List.length_cons]; omega
set_option maxRecDepth 100000 in
set_option maxHeartbeats 4000000 in
theorem sums_at (a : Option Addr) (cap : Nat) (bs : List UInt8) (w : World) (hm : bs.length ≤ cap) (hcap : cap ≤ maxLen) (hU : U8At w a bs) (L : Laid w) (T : Tab w) (E : ErrT w) : Calls Tryz.prog 4 #[.slice a bs.length cap] w (Gets w (.bool true)) := by
  have hsh := shown7_at w L T E
  have hn0 := fun W => num_at 0 W ⟨by decide, by decide⟩
  have hz := zeroTerm
  by_cases hbig : bs = [] ∨ 25 < bs.length
  · have hbig' : bs.length = 0 ∨ 25 < bs.length := by rcases hbig with h | h; exact .inl (by rw [h]; rfl); exact .inr h
    have hb0 : (bs.length : Int) = 0 ∨ 25 < (bs.length : Int) := by omega
    clear hbig hbig'
    rcases hb0 with hb0 | hb0
    · have hb0' : ((bs.length : Int) == 0) = true := by rw [beq_iff_eq]; omega
      go_enter Tryz.func4, Tryz.ntmps4
      go_wp2_with (first | (go_at_call 8; refine hsh.mono ?_; rintro e W1 ⟨rfl, hb1⟩))
      go_ret
      exact ⟨rfl, hb1⟩
    · have hb2 : ((bs.length : Int) == 0) = false := by rw [beq_eq_false_iff_ne]; omega
      go_enter Tryz.func4, Tryz.ntmps4
      go_wp2_with (first | (go_at_call 8; refine hsh.mono ?_; rintro e W1 ⟨rfl, hb1⟩))
      go_ret
      exact ⟨rfl, hb1⟩
  · have hne : bs ≠ [] := fun e => hbig (.inl e)
    have hlen : bs.length ≤ 25 := by omega
    have hpos : 0 < bs.length := List.length_pos_iff.2 hne
    have hb0 : ((bs.length : Int) == 0) = false := by rw [beq_eq_false_iff_ne]; omega
    have hb9 : ¬ 25 < (bs.length : Int) := by omega
    clear hbig
    go_enter Tryz.func4, Tryz.ntmps4
    go_wp2_with (first | (go_at_call 8; refine hsh.mono ?_; rintro e W1 ⟨rfl, hb1⟩) | (go_at_call 12; refine (hn0 _).mono ?_; rintro e W2 h4; obtain ⟨k1, m1, s1, a1, l1, c1, rfl, hT1, hb2⟩ := h4.form4))
    have hb2w := bel hb1 hb2
    have hBox0 := alloc_new W2 (.cells #[.int .i64 k1, .int .i64 m1, .string s1, .slice a1 l1 c1] 32)
    have hTT : TmIn (fun b => b < W2.heap.size + 1 ∧ b ≠ W2.heap.size) (W2.alloc (.cells #[.int .i64 k1, .int .i64 m1, .string s1, .slice a1 l1 c1] 32)) (.agg #[.int .i64 k1, .int .i64 m1, .string s1, .slice a1 l1 c1]) (gM []) := TmIn.carry (fun b hb => Below.block (bel_al (Below.refl W2.heap.size W2) _) b hb.2) (fun b hb => ⟨by omega, by omega⟩) hT1
    have hU2 := hU.below hb2w
    clear hT1 h4 hsh hn0
    go_loopg [4, 6] bs.length (fun g x z wr => ∃ (k : Nat) (S : ByteArray) (k1 m1 : Int) (s1 : ByteArray) (a1 : Option Addr) (l1 c1 : Nat), x = .string S ∧ z = .int .i64 k ∧ g + k = bs.length ∧ S.data.toList = gT (bs.take k) ∧ wr.heap[W2.heap.size]? = some (.cells #[.int .i64 k1, .int .i64 m1, .string s1, .slice a1 l1 c1] 32 (0, 0)) ∧ TmIn (fun b => b < wr.heap.size ∧ b ≠ W2.heap.size) wr (.agg #[.int .i64 k1, .int .i64 m1, .string s1, .slice a1 l1 c1]) (gM (bs.take k)) ∧ Below W2.heap.size W2 wr)
    case atStart => exact ⟨0, _, k1, m1, s1, a1, l1, c1, rfl, rfl, by omega, rfl, hBox0, by simpa using hTT, bel_al (Below.refl _ _) _⟩
    case round =>
      clear hTT hBox0
      obtain ⟨k, S, k1, m1, s1, a1, l1, c1, rfl, rfl, hgk, hS, hbx, hTm, hbr⟩ := hrel
      obtain ⟨b0, b1, b2, b3⟩ := tbox_cells hbx
      cases gk with
      | zero =>
        have hkk : ¬ ((k : Int) < (bs.length : Int)) := by omega
        have hke : k = bs.length := by omega
        have htk : bs.take k = bs := by rw [hke, List.take_length]
        rw [htk] at hS hTm
        have hlS := gT_len bs
        have hS9 : S.size ≤ 200 := by
          have h1 := len_of (s := S) rfl
          rw [hS] at h1
          omega
        have hAg : allG (gT bs ++ [46]) 1 = .ok [gM bs] := by
          cases bs with
          | nil => exact absurd rfl hne
          | cons b l => exact sums_ghost b l (by simp at hlen; omega)
        have hbw := bel hb2w hbr
        have hA := all_at (S ++ ByteArray.mk #[46]) (gT bs ++ [46]) (by rw [rd_app, hS]) wr (L.later hbw) (T.later hbw) (E.later hbw) (by rw [ByteArray.size_append]; have : (ByteArray.mk #[46]).size = 1 := rfl; omega) 1
        rw [hAg] at hA
        unfold AllPost at hA
        have hsz : W2.heap.size < wr.heap.size := (Array.getElem?_eq_some_iff.1 hbx).1
        clear hAg htk hS b0 b1 b2 b3
        go_wp2_with (first | (go_at_call 9; refine hA.mono ?_; rintro e W4 ⟨qa, qcap, rfl, hb4, hts⟩))
        have x4 := (hb4.block _ hsz).trans hbx
        have hT4 : Has W4 (.agg #[.int .i64 k1, .int .i64 m1, .string s1, .slice a1 l1 c1]) (gM bs) := hTm.carry (fun b hb => hb4.block b hb.1) (fun b hb => Nat.lt_of_lt_of_le hb.1 hb4.size)
        obtain ⟨lb, lo, lcap, x0, y0, z0, u0, lu0, cu0, hv, hlb, p0, p1, p2, p3, hL0⟩ := one_has hts
        injection hv with hv1 hv2 hv3
        subst hv1 hv3
        have hl4 : W2.heap.size < W4.heap.size := (Array.getElem?_eq_some_iff.1 x4).1
        obtain ⟨I, inst, F, m0, hF0, hFb, hFc⟩ := op_later_family W4
        have hFx := fun i => ((hFb i).block W2.heap.size hl4).trans x4
        have t0 := fun i => (tbox_cells (hFx i)).1
        have t1 := fun i => (tbox_cells (hFx i)).2.1
        have t2 := fun i => (tbox_cells (hFx i)).2.2.1
        have t3 := fun i => (tbox_cells (hFx i)).2.2.2
        have cb := fun i (q : Nat) (u : Value) (hq : W4.cell? ⟨lb, q, none⟩ = some u) => (World.cell?_of_block (a := ⟨lb, q, none⟩) ((hFb i).block lb hlb)).trans hq
        have w0 := fun j => cb j _ _ p0
        have w1 := fun j => cb j _ _ p1
        have w2 := fun j => cb j _ _ p2
        have w3 := fun j => cb j _ _ p3
        have hzz : (gM bs).size ≤ 1000000000000 := by have := gM_size bs; omega
        have hSm : Hid (∀ j, Calls Tryz.prog 14 #[.agg #[.int .i64 x0, .int .i64 y0, .string z0, .slice u0 lu0 cu0], .agg #[.int .i64 k1, .int .i64 m1, .string s1, .slice a1 l1 c1]] (F j) fun e w'' => e = .returned (.bool true) ∧ ∃ m, w'' = F m) :=
          Lib.hid (fun j => (same_at (gM bs) (gM bs) _ _ (F j) (Has.below hL0 (hFb j)) (Has.below hT4 (hFb j)) hzz hzz).mono fun e w' hg => ⟨by rw [hg.1]; simp, hFc j _ hg.2⟩)
        have HB := Lib.hid (And.intro (bel hbw hb4) hFb)
        clear hFx hFb hFc cb p0 p1 p2 p3 hL0 hT4 hTm hts hA x4 hbx
        refine op_region_fam F m0 hF0 (by kernel_rfl) (by kernel_rfl) ?_
        clear hF0
        repeat (go_big_quiet_step (first | (go_at_call 14; (with_reducible exact hSm.out _))))
        refine wpQuiet_nil ?_
        intro _ hw'
        obtain ⟨nq, hw''⟩ := hw'
        subst hw''
        go_wp2_with fail
        go_ret
        exact ⟨rfl, bel HB.out.1 (HB.out.2 nq)⟩
      | succ m =>
        have hk : k < bs.length := by omega
        have hkk : ((k : Int) < (bs.length : Int)) := by omega
        obtain ⟨c, hc⟩ : ∃ c, bs[k]? = some c := ⟨_, List.getElem?_eq_getElem hk⟩
        obtain ⟨ad, rfl, had, hcell⟩ := (hU2.below hbr) k c hc
        obtain ⟨j, hj, hj'⟩ : ∃ j : Nat, j < 10 ∧ (c.toNat : Int) % 10 = j := ⟨c.toNat % 10, by omega, by omega⟩
        have hj9 : (j : Int) < 10 := by omega
        have hj8 : (0 : Int) ≤ (j : Int) := by omega
        have hnj := fun W => num_at j W ⟨by omega, by omega⟩
        have hc9 : (c.toNat : Int) ≤ 255 := by have := c.toNat_lt; omega
        have hS9 : S.size ≤ 200 := by
          have h1 := len_of (s := S) rfl
          have h2 := gT_len (bs.take k)
          rw [hS] at h1
          rw [List.length_take] at h2
          omega
        obtain ⟨g, hg⟩ : ∃ g : UInt8, g = UInt8.ofNat (48 + j) := ⟨_, rfl⟩
        have hgn : (g.toNat : Int) = 48 + j := by rw [hg]; simp [UInt8.toNat_ofNat]; omega
        have hgd : g = dgt c := by rw [hg, dgt]; congr 2; omega
        have cc1 : ∀ (W : World) (A : Obj), (convert 30 9 (.slice (some ⟨W.heap.size + 1, 0, none⟩) 1 1)).run Tryz.prog ((W.alloc A).alloc (.cells #[.int .u8 (48 + (j : Int))] 5)) = .ok (.string (strV [g])) ((W.alloc A).alloc (.cells #[.int .u8 (48 + (j : Int))] 5)) := fun W A => one_text7 (by rw [hgn]; have := alloc_new (W.alloc A) (.cells #[.int .u8 (48 + (j : Int))] 5); simp at this; simp [World.cell?, this])
        have HG := Lib.hid (And.intro hgd hgn)
        have zg : (strV [g]).size = 1 := rfl
        have hS8 := Lib.hid hS
        clear hg hgn hgd hS
        go_upto_region 11 with (first
          | (go_at_call 12; refine (hnj _).mono ?_; rintro e W3 h4; obtain ⟨k3, m3, s3, a3, l3, c3, rfl, hT3, hb3⟩ := h4.form4; have hcA := fun A => ((bel_al hb3 A).cell (p := ad.add k) (by rw [adk]; exact had)).trans hcell))
        have hsz : W2.heap.size < wr.heap.size := (Array.getElem?_eq_some_iff.1 hbx).1
        obtain ⟨V, hV⟩ : ∃ V, V = (W3.alloc (.cells #[.int .i64 k3, .int .i64 m3, .string s3, .slice a3 l3 c3] 32)).alloc (.cells #[.int .u8 (48 + (j : Int))] 5) := ⟨_, rfl⟩
        rw [← hV]
        have hb3V : Below W3.heap.size W3 V := by rw [hV]; exact bel_al (bel_al (Below.refl _ _) _) _
        have hbV := bel hb3 hb3V
        have xT := (hbV.block _ hsz).trans hbx
        have xN : V.heap[W3.heap.size]? = some (.cells #[.int .i64 k3, .int .i64 m3, .string s3, .slice a3 l3 c3] 32 (0, 0)) := by rw [hV]; exact (Below.block (bel_al (Below.refl _ (W3.alloc (.cells #[.int .i64 k3, .int .i64 m3, .string s3, .slice a3 l3 c3] 32))) _) _ (by simp)).trans (alloc_new _ _)
        obtain ⟨t0, t1, t2, t3⟩ := tbox_cells xT
        obtain ⟨n0, n1, n2, n3⟩ := tbox_cells xN
        have fT : ∀ o, V.frozen? ⟨W2.heap.size, o, none⟩ = false := fun o => by simp [World.frozen?, xT]
        have cV := (hbV.cell (p := ad.add k) (by rw [adk]; exact had)).trans hcell
        have hTV : TmIn (fun b => b < V.heap.size ∧ b ≠ W2.heap.size) V (.agg #[.int .i64 k1, .int .i64 m1, .string s1, .slice a1 l1 c1]) (gM (bs.take k)) := TmIn.carry (fun b hb => hbV.block b hb.1) (fun b hb => ⟨Nat.lt_of_lt_of_le hb.1 hbV.size, hb.2⟩) hTm
        have hNV : TmIn (fun b => b < V.heap.size ∧ b ≠ W2.heap.size) V (.agg #[.int .i64 k3, .int .i64 m3, .string s3, .slice a3 l3 c3]) (nM j) := TmIn.carry (fun b hb => hb3V.block b hb.2) (fun b hb => ⟨Nat.lt_of_lt_of_le hb.2 hb3V.size, by have := hb.1; omega⟩) hT3
        have hBV : Below W2.heap.size W2 V := hbr.trans (hbV.mono (by omega))
        have htk : bs.take (k + 1) = bs.take k ++ [c] := by rw [List.take_add_one, hc]; rfl
        have hjc : c.toNat % 10 = j := by omega
        clear hcA cc1 b0 b1 b2 b3 hcell hV hT3 h4 hTm hbx had hnj hb3 hb3V
        by_cases hk0 : k = 0
        · subst hk0
          go_wp2_with fail
          obtain ⟨Z, hZ, zb, zo, zB, zs⟩ := set4 xT (.int .i64 k3) (.int .i64 m3) (.string s3) (.slice a3 l3 c3) hBV (Nat.le_refl _)
          go_roundg m
          case measure => omega
          case rel =>
            rw [← hZ]
            refine ⟨1, strV [g], k3, m3, s3, a3, l3, c3, rfl, by simp, by omega, ?_, zb, ?_, zB⟩
            · rw [htk]; simp [gT, HG.out.1, strV_list]
            · rw [htk]
              show TmIn _ Z _ (nM (c.toNat % 10))
              rw [hjc]
              exact TmIn.carry (fun b hb => zo b hb.2) (fun b hb => ⟨by rw [zs]; exact hb.1, hb.2⟩) hNV
        · have hk1 : ((k : Int) == 0) = false := by rw [beq_eq_false_iff_ne]; omega
          have hnt : bs.take k ≠ [] := by
            intro e
            have := congrArg List.length e
            rw [List.length_take] at this
            rw [List.length_nil] at this
            omega
          have hzT : (gM (bs.take k)).size ≤ 1000 := by
            have h1 := gM_size (bs.take k)
            rw [List.length_take] at h1
            omega
          by_cases h128 : 128 ≤ c.toNat
          · have h128' : (128 : Int) ≤ (c.toNat : Int) := by omega
            have hn2 := fun W => num_at 2 W ⟨by decide, by decide⟩
            have hdr : Below V.heap.size V V.drew := (Below.refl V.heap.size V).drew
            have cellB : ∀ w' (b o : Nat) (v : Value), Below V.heap.size V w' → b < V.heap.size → V.cell? ⟨b, o, none⟩ = some v → w'.cell? ⟨b, o, none⟩ = some v := fun w' b o v h hb hc => (h.cell (p := ⟨b, o, none⟩) hb).trans hc
            have lT : W2.heap.size < V.heap.size := (Array.getElem?_eq_some_iff.1 xT).1
            have lN : W3.heap.size < V.heap.size := (Array.getElem?_eq_some_iff.1 xN).1
            have HS : ∀ w', Below V.heap.size V w' → (w'.cell? ⟨W2.heap.size, 0, none⟩ = some (.int .i64 k1) ∧ w'.cell? ⟨W2.heap.size, 1, none⟩ = some (.int .i64 m1) ∧ w'.cell? ⟨W2.heap.size, 2, none⟩ = some (.string s1) ∧ w'.cell? ⟨W2.heap.size, 3, none⟩ = some (.slice a1 l1 c1) ∧ w'.cell? ⟨W3.heap.size, 0, none⟩ = some (.int .i64 k3) ∧ w'.cell? ⟨W3.heap.size, 1, none⟩ = some (.int .i64 m3) ∧ w'.cell? ⟨W3.heap.size, 2, none⟩ = some (.string s3) ∧ w'.cell? ⟨W3.heap.size, 3, none⟩ = some (.slice a3 l3 c3) ∧ Below V.heap.size V w') := fun w' h =>
              ⟨cellB _ _ _ _ h lT t0, cellB _ _ _ _ h lT t1, cellB _ _ _ _ h lT t2, cellB _ _ _ _ h lT t3, cellB _ _ _ _ h lN n0, cellB _ _ _ _ h lN n1, cellB _ _ _ _ h lN n2, cellB _ _ _ _ h lN n3, h⟩
            have hNh : Has V (.agg #[.int .i64 k3, .int .i64 m3, .string s3, .slice a3 l3 c3]) (nM j) := hNV.carry (fun _ _ => rfl) (fun b hb => hb.1)
            have hTh : Has V (.agg #[.int .i64 k1, .int .i64 m1, .string s1, .slice a1 l1 c1]) (gM (bs.take k)) := hTV.carry (fun _ _ => rfl) (fun b hb => hb.1)
            go_wp2_with fail
            refine wp_region_noPanic ?_
            refine wp_region_last (S := (fun w' => w'.cell? ⟨W2.heap.size, 0, none⟩ = some (.int .i64 k1) ∧ w'.cell? ⟨W2.heap.size, 1, none⟩ = some (.int .i64 m1) ∧ w'.cell? ⟨W2.heap.size, 2, none⟩ = some (.string s1) ∧ w'.cell? ⟨W2.heap.size, 3, none⟩ = some (.slice a1 l1 c1) ∧ w'.cell? ⟨W3.heap.size, 0, none⟩ = some (.int .i64 k3) ∧ w'.cell? ⟨W3.heap.size, 1, none⟩ = some (.int .i64 m3) ∧ w'.cell? ⟨W3.heap.size, 2, none⟩ = some (.string s3) ∧ w'.cell? ⟨W3.heap.size, 3, none⟩ = some (.slice a3 l3 c3) ∧ Below V.heap.size V w')) 7 (by kernel_rfl) (by kernel_rfl) (HS _ hdr) (fun hHeld => ?_)
            simp only [List.take_succ_cons, List.take_zero]
            clear t0 t1 t2 t3 n0 n1 n2 n3
            refine wpAnyH_take (i := 0) (v := ?vv0) rfl (by kernel_rfl) (by kernel_rfl) (by kernel_rfl) (fun _ _ _ h => h) (Or.inl ⟨by rfl, ?hy0⟩) hHeld ?rest0
            case hy0 =>
              intro w0 hSw
              (try dsimp only at hSw)
              go_simp
              try (with_reducible rfl)
            try simp only [Act.put, List.setIfInBounds_toArray, List.set_cons_zero, List.set_cons_succ]
            refine wpAnyH_take (i := 2) (v := ?vv2) rfl (by kernel_rfl) (by kernel_rfl) (by kernel_rfl) (fun _ _ _ h => h) (Or.inl ⟨by rfl, ?hy2⟩) hHeld ?rest2
            case hy2 =>
              intro w0 hSw
              (try dsimp only at hSw)
              go_simp
              try (with_reducible rfl)
            try simp only [Act.put, List.setIfInBounds_toArray, List.set_cons_zero, List.set_cons_succ]
            refine wpAnyH_ready (rs := [1]) (by kernel_rfl) (by simp) ?_
            refine AllReadyH.cons rfl (fun K hK => ?_) AllReadyH.nil
            go_simp
            with_reducible refine (hn2 _).mono ?_
            rintro e W5 h4
            obtain ⟨k5, m5, s5, a5, l5, c5, rfl, hT5, hb5'⟩ := h4.form4
            have hb5 : Below V.heap.size V W5 := bel hdr hb5'
            go_wp2_with fail
            refine hK.out _ _ (HS _ hb5) (fun hHeld2 => ?_)
            clear hK K
            try simp only [Act.put, List.setIfInBounds_toArray, List.set_cons_zero, List.set_cons_succ]
            refine wpAnyH_ready (rs := [3]) (by kernel_rfl) (by simp) ?_
            refine AllReadyH.cons rfl (fun K hK => ?_) AllReadyH.nil
            go_simp
            have hb6 := bel_al hb5 (.cells #[.int .i64 k5, .int .i64 m5, .string s5, .slice a5 l5 c5, .int .i64 k3, .int .i64 m3, .string s3, .slice a3 l3 c3] 32)
            refine hK.out _ _ (HS _ hb6) (fun hHeld3 => ?_)
            clear hK K
            try simp only [Act.put, List.setIfInBounds_toArray, List.set_cons_zero, List.set_cons_succ]
            refine wpAnyH_ready (rs := [4]) (by kernel_rfl) (by simp) ?_
            refine AllReadyH.cons rfl (fun K hK => ?_) AllReadyH.nil
            go_simp
            have hmk := make_at (ByteArray.mk #[42]) _ _ _ (by decide) (two_new (hasNew hT5) (hNh.below hb5)) (by rw [Tm.sizes_cons, Tm.sizes_cons, Tm.sizes_nil, nM_size, Tm.size_mk, Tm.sizes_nil]; omega)
            with_reducible refine hmk.mono ?_
            rintro e W7 h4
            obtain ⟨k7, m7, s7, a7, l7, c7, rfl, hT7, hb7'⟩ := h4.form4
            have hb7 : Below V.heap.size V W7 := bel hb6 hb7'
            go_wp2_with fail
            refine hK.out _ _ (HS _ hb7) (fun hHeld4 => ?_)
            clear hK K
            try simp only [Act.put, List.setIfInBounds_toArray, List.set_cons_zero, List.set_cons_succ]
            refine wpAnyH_ready (rs := [5]) (by kernel_rfl) (by simp) ?_
            refine AllReadyH.cons rfl (fun K hK => ?_) AllReadyH.nil
            go_simp
            have hb8 := bel_al hb7 (.cells #[.int .i64 k1, .int .i64 m1, .string s1, .slice a1 l1 c1, .int .i64 k7, .int .i64 m7, .string s7, .slice a7 l7 c7] 32)
            refine hK.out _ _ (HS _ hb8) (fun hHeld5 => ?_)
            clear hK K
            try simp only [Act.put, List.setIfInBounds_toArray, List.set_cons_zero, List.set_cons_succ]
            refine wpAnyH_ready (rs := [6]) (by kernel_rfl) (by simp) ?_
            refine AllReadyH.cons rfl (fun K hK => ?_) AllReadyH.nil
            go_simp
            have hmk2 := make_at (ByteArray.mk #[43]) _ _ _ (by decide) (two_new (hTh.below hb7) (hasNew hT7)) (by simp only [Tm.sizes_cons, Tm.sizes_nil, nM_size, Tm.size_mk]; omega)
            with_reducible refine hmk2.mono ?_
            rintro e W9 h4
            obtain ⟨k9, m9, s9, a9, l9, c9, rfl, hT9, hb9'⟩ := h4.form4
            have hb9 : Below V.heap.size V W9 := bel hb8 hb9'
            go_wp2_with fail
            refine hK.out _ _ (HS _ hb9) (fun hHeld6 => ?_)
            clear hK K
            try simp only [Act.put, List.setIfInBounds_toArray, List.set_cons_zero, List.set_cons_succ]
            refine wpAnyH_done (by kernel_rfl) ?_ _
            refine last_of_list rfl ?_
            have x9 := (hb9.block _ lT).trans xT
            obtain ⟨y0, y1, y2, y3⟩ := tbox_cells x9
            have f9 : ∀ o, W9.frozen? ⟨W2.heap.size, o, none⟩ = false := fun o => by simp [World.frozen?, x9]
            go_wp2_with fail
            refine NoPanic.normal ?_
            go_wp2_with fail
            obtain ⟨Z, hZ, zb, zo, zB, zs⟩ := set4 x9 (.int .i64 k9) (.int .i64 m9) (.string s9) (.slice a9 l9 c9) (hBV.trans (hb9.mono (by have := hbV.size; omega))) (Nat.le_refl _)
            go_roundg m
            case measure => omega
            case rel =>
              rw [← hZ]
              refine ⟨k + 1, _, k9, m9, s9, a9, l9, c9, rfl, by simp, by omega, ?_, zb, ?_, zB⟩
              · rw [htk, gT_snoc hnt, rd_app, rd_app, hS8.out, HG.out.1]
                unfold pcT
                rw [if_pos h128, strV_list]
                simp
              · rw [htk, gM_snoc hnt]
                unfold pcM
                rw [if_pos h128, hjc]
                exact TmIn.carry (fun b hb => zo b (by have := hb.1; have := hb8.size; simp at *; omega)) (fun b hb => ⟨by rw [zs]; exact hb.2, by have := hb.1; have := hb8.size; simp at *; omega⟩) hT9
          · have h128' : ¬ (128 : Int) ≤ (c.toNat : Int) := by omega
            have hmk := make_at (ByteArray.mk #[45]) _ _ _ (by decide) (two_new (hTV.carry (fun _ _ => rfl) (fun b hb => hb.1)) (hNV.carry (fun _ _ => rfl) (fun b hb => hb.1))) (by rw [Tm.sizes_cons, Tm.sizes_cons, Tm.sizes_nil, nM_size]; omega)
            go_wp2_with (first | (go_at_call 13; refine hmk.mono ?_; rintro e W5 h4; obtain ⟨k5, m5, s5, a5, l5, c5, rfl, hT5, hb5'⟩ := h4.form4; have hb5 := bel (bel_al (Below.refl V.heap.size V) (.cells #[.int .i64 k1, .int .i64 m1, .string s1, .slice a1 l1 c1, .int .i64 k3, .int .i64 m3, .string s3, .slice a3 l3 c3] 32)) hb5'; have x5 := (hb5.block _ (Array.getElem?_eq_some_iff.1 xT).1).trans xT; obtain ⟨y0, y1, y2, y3⟩ := tbox_cells x5; have f5 : ∀ o, W5.frozen? ⟨W2.heap.size, o, none⟩ = false := fun o => by simp [World.frozen?, x5]))
            obtain ⟨Z, hZ, zb, zo, zB, zs⟩ := set4 x5 (.int .i64 k5) (.int .i64 m5) (.string s5) (.slice a5 l5 c5) (hBV.trans (hb5.mono (by have := hbV.size; omega))) (Nat.le_refl _)
            go_roundg m
            case measure => omega
            case rel =>
              rw [← hZ]
              refine ⟨k + 1, _, k5, m5, s5, a5, l5, c5, rfl, by simp, by omega, ?_, zb, ?_, zB⟩
              · rw [htk, gT_snoc hnt, rd_app, rd_app, hS8.out, HG.out.1]
                unfold pcT
                rw [if_neg h128, strV_list]
                simp
              · rw [htk, gM_snoc hnt]
                unfold pcM
                rw [if_neg h128, hjc]
                exact TmIn.carry (fun b hb => zo b (by have := hb.1; have := hbV.size; simp at *; omega)) (fun b hb => ⟨by rw [zs]; exact hb.2, by have := hb.1; have := hbV.size; simp at *; omega⟩) hT5
end Go.Proofs.YtgodbmmhkmockaaGreatDoor
