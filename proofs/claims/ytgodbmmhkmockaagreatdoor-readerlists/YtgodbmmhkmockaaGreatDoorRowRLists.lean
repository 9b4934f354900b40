/-
  ReaderSums: sums of figures are read from the left; products bind more.
-/
import Derived.Test.YtgodbmmhkmockaaGreatDoorRShown
import Derived.Test.YtgodbmmhkmockaaGreatDoorReadY
import Derived.Test.YtgodbmmhkmockaaGreatDoorLast
import Derived.Deep.RegionHeld3
import Derived.Deep.Quiet
import Derived.Test.YtgodbmmhkmockaaGreatDoorReadZ
import Derived.Test.YtgodbmmhkmockaaGreatDoorReadW
import Derived.ChangeSlices
import Derived.OpenShut
import Derived.ChangeOld
import Derived.Below
namespace Go.Proofs.YtgodbmmhkmockaaGreatDoor
open Go.RowKit Go.Maps
set_option linter.unusedVariables false
set_option linter.unusedSimpArgs false

/-- Bytes in memory. -/
def U8At (w : World) (a : Option Addr) (bs : List UInt8) : Prop := ∀ i c, bs[i]? = some c → ∃ ad, a = some ad ∧ ad.block < w.heap.size ∧ w.cell? (ad.add i) = some (.int .u8 (c.toNat : Int))
theorem U8At.below {w w' : World} {a : Option Addr} {bs : List UInt8} (h : U8At w a bs) (hb : Below w.heap.size w w') : U8At w' a bs := fun i c hc => by
  obtain ⟨ad, h1, h2, h3⟩ := h i c hc
  exact ⟨ad, h1, Nat.lt_of_lt_of_le h2 hb.size, (hb.cell (p := ad.add i) (by rw [show (ad.add i).block = ad.block by unfold Addr.add; split <;> rfl]; exact h2)).trans h3⟩
theorem one_text7 {W : World} {B : Nat} {c : UInt8} (h : W.cell? ⟨B, 0, none⟩ = some (.int .u8 (c.toNat : Int))) : (convert 30 9 (.slice (some ⟨B, 0, none⟩) 1 1)).run Tryz.prog W = .ok (.string (strV [c])) W := by
  refine run_convert_bytes_back W 30 9 5 ⟨B, 0, none⟩ 1 [c] Tryz.underlying30 Tryz.underlying5 Tryz.underlying9 (fun j hj => ?_)
  have : j = 0 := by simpa using hj
  subst this
  exact h
theorem rd_app (a b : ByteArray) : (a ++ b).data.toList = a.data.toList ++ b.data.toList := by
  rw [ByteArray.data_append]; simp
theorem one_has {w : World} {v : Value} {x : Tm} (hk : HasTs w v [x]) : ∃ b o cap k n s a l c, v = .slice (some ⟨b, o, none⟩) 1 cap ∧ b < w.heap.size ∧
    w.cell? ⟨b, o, none⟩ = some (.int .i64 k) ∧ w.cell? ⟨b, o + 1, none⟩ = some (.int .i64 n) ∧ w.cell? ⟨b, o + 2, none⟩ = some (.string s) ∧ w.cell? ⟨b, o + 3, none⟩ = some (.slice a l c) ∧ Has w (.agg #[.int .i64 k, .int .i64 n, .string s, .slice a l c]) x := by
  obtain ⟨a, cap, rfl, hl, hm, ha, hx⟩ := hk
  obtain ⟨b, o, k0, n0, s0, a0, l0, c0, rfl, hb, q0, q1, q2, q3, hT0⟩ := hx 0 (by simp)
  exact ⟨b, o, cap, k0, n0, s0, a0, l0, c0, rfl, hb, by simpa using q0, by simpa using q1, by simpa using q2, by simpa using q3, hT0⟩
/-- A term's box, stored whole. -/
theorem set4 {w w9 : World} {m B : Nat} {a0 a1 a2 a3 : Value} {t : TypeId} (h : w9.heap[B]? = some (.cells #[a0, a1, a2, a3] t (0, 0))) (v0 v1 v2 v3 : Value) (hb : Below m w w9) (hm : m ≤ B) :
    ∃ W, W = (((w9.setCell ⟨B, 0, none⟩ v0).setCell ⟨B, 1, none⟩ v1).setCell ⟨B, 2, none⟩ v2).setCell ⟨B, 3, none⟩ v3 ∧ W.heap[B]? = some (.cells #[v0, v1, v2, v3] t (0, 0)) ∧ (∀ b, b ≠ B → W.heap[b]? = w9.heap[b]?) ∧ Below m w W ∧ W.heap.size = w9.heap.size :=
  ⟨_, rfl, four_block h v0 v1 v2 v3, fun b hb => by
    rw [Below.heap_setCell _ ⟨B, 3, none⟩ _ b hb, Below.heap_setCell _ ⟨B, 2, none⟩ _ b hb, Below.heap_setCell _ ⟨B, 1, none⟩ _ b hb, Below.heap_setCell _ ⟨B, 0, none⟩ _ b hb],
    Below.setCell (Below.setCell (Below.setCell (Below.setCell hb (p := ⟨B, 0, none⟩) hm v0) (p := ⟨B, 1, none⟩) hm v1) (p := ⟨B, 2, none⟩) hm v2) (p := ⟨B, 3, none⟩) hm v3, by simp⟩
theorem adk {ad : Addr} (k : Nat) : (ad.add k).block = ad.block := by unfold Addr.add; split <;> rfl
def gT : List UInt8 → List UInt8
  | [] => []
  | b :: r => dgt b :: r.flatMap pcT
def gM : List UInt8 → Tm
  | [] => nM 0
  | b :: r => sumM b r
theorem gT_snoc {l : List UInt8} (h : l ≠ []) (b : UInt8) : gT (l ++ [b]) = gT l ++ pcT b := by
  cases l with
  | nil => exact absurd rfl h
  | cons c l => simp [gT]
theorem gM_snoc {l : List UInt8} (h : l ≠ []) (b : UInt8) : gM (l ++ [b]) = pcM (gM l) b := by
  cases l with
  | nil => exact absurd rfl h
  | cons c l => simp [gM, sumM]
theorem gT_len (l : List UInt8) : (gT l).length ≤ 8 * l.length := by
  cases l with
  | nil => simp [gT]
  | cons b l => have := pcs_len l; simp only [gT, List.length_cons]; omega
theorem gM_size (l : List UInt8) : (gM l).size ≤ 1 + 4 * l.length := by
  cases l with
  | nil => show (nM 0).size ≤ _; rw [nM_size]; omega
  | cons b l =>
    have := (pcs_fine l ((Fine.num (b.toNat % 10)).weak (m' := 2) (z' := 1) (by omega) (by omega)) (by omega)).2.1
    show (l.foldl pcM (nM (b.toNat % 10))).size ≤ _
    rw [List.length_cons]; omega
set_option maxRecDepth 100000 in
set_option maxHeartbeats 4000000 in
theorem sums_at (a : Option Addr) (cap : Nat) (bs : List UInt8) (w : World) (hm : bs.length ≤ cap) (hcap : cap ≤ maxLen) (hU : U8At w a bs) (L : Laid w) (T : Tab w) (E : ErrT w) : Calls Tryz.prog 4 #[.slice a bs.length cap] w (Gets w (.bool true)) := by
  have hsh := shown7_at w L T E
  have hn0 := fun W => num_at 0 W ⟨by decide, by decide⟩
  have hz := zeroTerm
  by_cases hbig : bs = [] ∨ 25 < bs.length
  · have hbig' : bs.length = 0 ∨ 25 < bs.length := by rcases hbig with h | h; exact .inl (by rw [h]; rfl); exact .inr h
    have hb0 : (bs.length : Int) = 0 ∨ 25 < (bs.length : Int) := by omega
    clear hbig hbig'
    rcases hb0 with hb0 | hb0
    · have hb0' : ((bs.length : Int) == 0) = true := by rw [beq_iff_eq]; omega
      go_enter Tryz.func4, Tryz.ntmps4
      go_wp2_with (first | (go_at_call 8; refine hsh.mono ?_; rintro e W1 ⟨rfl, hb1⟩))
      go_ret
      exact ⟨rfl, hb1⟩
    · have hb2 : ((bs.length : Int) == 0) = false := by rw [beq_eq_false_iff_ne]; omega
      go_enter Tryz.func4, Tryz.ntmps4
      go_wp2_with (first | (go_at_call 8; refine hsh.mono ?_; rintro e W1 ⟨rfl, hb1⟩))
      go_ret
      exact ⟨rfl, hb1⟩
  · have hne : bs ≠ [] := fun e => hbig (.inl e)
    have hlen : bs.length ≤ 25 := by omega
    have hpos : 0 < bs.length := List.length_pos_iff.2 hne
    have hb0 : ((bs.length : Int) == 0) = false := by rw [beq_eq_false_iff_ne]; omega
    have hb9 : ¬ 25 < (bs.length : Int) := by omega
    clear hbig
    go_enter Tryz.func4, Tryz.ntmps4
    go_wp2_with (first | (go_at_call 8; refine hsh.mono ?_; rintro e W1 ⟨rfl, hb1⟩) | (go_at_call 12; refine (hn0 _).mono ?_; rintro e W2 h4; obtain ⟨k1, m1, s1, a1, l1, c1, rfl, hT1, hb2⟩ := h4.form4))
    have hb2w := bel hb1 hb2
    have hBox0 := alloc_new W2 (.cells #[.int .i64 k1, .int .i64 m1, .string s1, .slice a1 l1 c1] 32)
    have hTT : TmIn (fun b => b < W2.heap.size + 1 ∧ b ≠ W2.heap.size) (W2.alloc (.cells #[.int .i64 k1, .int .i64 m1, .string s1, .slice a1 l1 c1] 32)) (.agg #[.int .i64 k1, .int .i64 m1, .string s1, .slice a1 l1 c1]) (gM []) := TmIn.carry (fun b hb => Below.block (bel_al (Below.refl W2.heap.size W2) _) b hb.2) (fun b hb => ⟨by omega, by omega⟩) hT1
    have hU2 := hU.below hb2w
    clear hT1 h4 hsh hn0
    go_loopg [4, 6] bs.length (fun g x z wr => ∃ (k : Nat) (S : ByteArray) (k1 m1 : Int) (s1 : ByteArray) (a1 : Option Addr) (l1 c1 : Nat), x = .string S ∧ z = .int .i64 k ∧ g + k = bs.length ∧ S.data.toList = gT (bs.take k) ∧ wr.heap[W2.heap.size]? = some (.cells #[.int .i64 k1, .int .i64 m1, .string s1, .slice a1 l1 c1] 32 (0, 0)) ∧ TmIn (fun b => b < wr.heap.size ∧ b ≠ W2.heap.size) wr (.agg #[.int .i64 k1, .int .i64 m1, .string s1, .slice a1 l1 c1]) (gM (bs.take k)) ∧ Below W2.heap.size W2 wr)
    case atStart => exact ⟨0, _, k1, m1, s1, a1, l1, c1, rfl, rfl, by omega, rfl, hBox0, by simpa using hTT, bel_al (Below.refl _ _) _⟩
    case round =>
      clear hTT hBox0
      obtain ⟨k, S, k1, m1, s1, a1, l1, c1, rfl, rfl, hgk, hS, hbx, hTm, hbr⟩ := hrel
      obtain ⟨b0, b1, b2, b3⟩ := tbox_cells hbx
      cases gk with
      | zero =>
        have hkk : ¬ ((k : Int) < (bs.length : Int)) := by omega
        have hke : k = bs.length := by omega
        have htk : bs.take k = bs := by rw [hke, List.take_length]
        rw [htk] at hS hTm
        have hlS := gT_len bs
        have hS9 : S.size ≤ 200 := by
          have h1 := len_of (s := S) rfl
          rw [hS] at h1
          omega
        have hAg : allG (gT bs ++ [46]) 1 = .ok [gM bs] := by
          cases bs with
          | nil => exact absurd rfl hne
          | cons b l => exact sums_ghost b l (by simp at hlen; omega)
        have hbw := bel hb2w hbr
        have hA := all_at (S ++ ByteArray.mk #[46]) (gT bs ++ [46]) (by rw [rd_app, hS]) wr (L.later hbw) (T.later hbw) (E.later hbw) (by rw [ByteArray.size_append]; have : (ByteArray.mk #[46]).size = 1 := rfl; omega) 1
        rw [hAg] at hA
        unfold AllPost at hA
        have hsz : W2.heap.size < wr.heap.size := (Array.getElem?_eq_some_iff.1 hbx).1
        clear hAg htk hS b0 b1 b2 b3
        go_wp2_with (first | (go_at_call 9; refine hA.mono ?_; rintro e W4 ⟨qa, qcap, rfl, hb4, hts⟩))
        have x4 := (hb4.block _ hsz).trans hbx
        have hT4 : Has W4 (.agg #[.int .i64 k1, .int .i64 m1, .string s1, .slice a1 l1 c1]) (gM bs) := hTm.carry (fun b hb => hb4.block b hb.1) (fun b hb => Nat.lt_of_lt_of_le hb.1 hb4.size)
        obtain ⟨lb, lo, lcap, x0, y0, z0, u0, lu0, cu0, hv, hlb, p0, p1, p2, p3, hL0⟩ := one_has hts
        injection hv with hv1 hv2 hv3
        subst hv1 hv3
        have hl4 : W2.heap.size < W4.heap.size := (Array.getElem?_eq_some_iff.1 x4).1
        obtain ⟨I, inst, F, m0, hF0, hFb, hFc⟩ := op_later_family W4
        have hFx := fun i => ((hFb i).block W2.heap.size hl4).trans x4
        have t0 := fun i => (tbox_cells (hFx i)).1
        have t1 := fun i => (tbox_cells (hFx i)).2.1
        have t2 := fun i => (tbox_cells (hFx i)).2.2.1
        have t3 := fun i => (tbox_cells (hFx i)).2.2.2
        have cb := fun i (q : Nat) (u : Value) (hq : W4.cell? ⟨lb, q, none⟩ = some u) => (World.cell?_of_block (a := ⟨lb, q, none⟩) ((hFb i).block lb hlb)).trans hq
        have w0 := fun j => cb j _ _ p0
        have w1 := fun j => cb j _ _ p1
        have w2 := fun j => cb j _ _ p2
        have w3 := fun j => cb j _ _ p3
        have hzz : (gM bs).size ≤ 1000000000000 := by have := gM_size bs; omega
        have hSm : Hid (∀ j, Calls Tryz.prog 14 #[.agg #[.int .i64 x0, .int .i64 y0, .string z0, .slice u0 lu0 cu0], .agg #[.int .i64 k1, .int .i64 m1, .string s1, .slice a1 l1 c1]] (F j) fun e w'' => e = .returned (.bool true) ∧ ∃ m, w'' = F m) :=
          Lib.hid (fun j => (same_at (gM bs) (gM bs) _ _ (F j) (Has.below hL0 (hFb j)) (Has.below hT4 (hFb j)) hzz hzz).mono fun e w' hg => ⟨by rw [hg.1]; simp, hFc j _ hg.2⟩)
        have HB := Lib.hid (And.intro (bel hbw hb4) hFb)
        clear hFx hFb hFc cb p0 p1 p2 p3 hL0 hT4 hTm hts hA x4 hbx
        refine op_region_fam F m0 hF0 (by kernel_rfl) (by kernel_rfl) ?_
        clear hF0
        repeat (go_big_quiet_step (first | (go_at_call 14; (with_reducible exact hSm.out _))))
        refine wpQuiet_nil ?_
        intro _ hw'
        obtain ⟨nq, hw''⟩ := hw'
        subst hw''
        go_wp2_with fail
        go_ret
        exact ⟨rfl, bel HB.out.1 (HB.out.2 nq)⟩
      | succ m =>
        have hk : k < bs.length := by omega
        have hkk : ((k : Int) < (bs.length : Int)) := by omega
        obtain ⟨c, hc⟩ : ∃ c, bs[k]? = some c := ⟨_, List.getElem?_eq_getElem hk⟩
        obtain ⟨ad, rfl, had, hcell⟩ := (hU2.below hbr) k c hc
        obtain ⟨j, hj, hj'⟩ : ∃ j : Nat, j < 10 ∧ (c.toNat : Int) % 10 = j := ⟨c.toNat % 10, by omega, by omega⟩
        have hj9 : (j : Int) < 10 := by omega
        have hj8 : (0 : Int) ≤ (j : Int) := by omega
        have hnj := fun W => num_at j W ⟨by omega, by omega⟩
        have hc9 : (c.toNat : Int) ≤ 255 := by have := c.toNat_lt; omega
        have hS9 : S.size ≤ 200 := by
          have h1 := len_of (s := S) rfl
          have h2 := gT_len (bs.take k)
          rw [hS] at h1
          rw [List.length_take] at h2
          omega
        obtain ⟨g, hg⟩ : ∃ g : UInt8, g = UInt8.ofNat (48 + j) := ⟨_, rfl⟩
        have hgn : (g.toNat : Int) = 48 + j := by rw [hg]; simp [UInt8.toNat_ofNat]; omega
        have hgd : g = dgt c := by rw [hg, dgt]; congr 2; omega
        have cc1 : ∀ (W : World) (A : Obj), (convert 30 9 (.slice (some ⟨W.heap.size + 1, 0, none⟩) 1 1)).run Tryz.prog ((W.alloc A).alloc (.cells #[.int .u8 (48 + (j : Int))] 5)) = .ok (.string (strV [g])) ((W.alloc A).alloc (.cells #[.int .u8 (48 + (j : Int))] 5)) := fun W A => one_text7 (by rw [hgn]; have := alloc_new (W.alloc A) (.cells #[.int .u8 (48 + (j : Int))] 5); simp at this; simp [World.cell?, this])
        have HG := Lib.hid (And.intro hgd hgn)
        have zg : (strV [g]).size = 1 := rfl
        have hS8 := Lib.hid hS
        clear hg hgn hgd hS
        go_upto_region 11 with (first
          | (go_at_call 12; refine (hnj _).mono ?_; rintro e W3 h4; obtain ⟨k3, m3, s3, a3, l3, c3, rfl, hT3, hb3⟩ := h4.form4; have hcA := fun A => ((bel_al hb3 A).cell (p := ad.add k) (by rw [adk]; exact had)).trans hcell))
        have hsz : W2.heap.size < wr.heap.size := (Array.getElem?_eq_some_iff.1 hbx).1
        obtain ⟨V, hV⟩ : ∃ V, V = (W3.alloc (.cells #[.int .i64 k3, .int .i64 m3, .string s3, .slice a3 l3 c3] 32)).alloc (.cells #[.int .u8 (48 + (j : Int))] 5) := ⟨_, rfl⟩
        rw [← hV]
        have hb3V : Below W3.heap.size W3 V := by rw [hV]; exact bel_al (bel_al (Below.refl _ _) _) _
        have hbV := bel hb3 hb3V
        have xT := (hbV.block _ hsz).trans hbx
        have xN : V.heap[W3.heap.size]? = some (.cells #[.int .i64 k3, .int .i64 m3, .string s3, .slice a3 l3 c3] 32 (0, 0)) := by rw [hV]; exact (Below.block (bel_al (Below.refl _ (W3.alloc (.cells #[.int .i64 k3, .int .i64 m3, .string s3, .slice a3 l3 c3] 32))) _) _ (by simp)).trans (alloc_new _ _)
        obtain ⟨t0, t1, t2, t3⟩ := tbox_cells xT
        obtain ⟨n0, n1, n2, n3⟩ := tbox_cells xN
        have fT : ∀ o, V.frozen? ⟨W2.heap.size, o, none⟩ = false := fun o => by simp [World.frozen?, xT]
        have cV := (hbV.cell (p := ad.add k) (by rw [adk]; exact had)).trans hcell
        have hTV : TmIn (fun b => b < V.heap.size ∧ b ≠ W2.heap.size) V (.agg #[.int .i64 k1, .int .i64 m1, .string s1, .slice a1 l1 c1]) (gM (bs.take k)) := TmIn.carry (fun b hb => hbV.block b hb.1) (fun b hb => ⟨Nat.lt_of_lt_of_le hb.1 hbV.size, hb.2⟩) hTm
        have hNV : TmIn (fun b => b < V.heap.size ∧ b ≠ W2.heap.size) V (.agg #[.int .i64 k3, .int .i64 m3, .string s3, .slice a3 l3 c3]) (nM j) := TmIn.carry (fun b hb => hb3V.block b hb.2) (fun b hb => ⟨Nat.lt_of_lt_of_le hb.2 hb3V.size, by have := hb.1; omega⟩) hT3
        have hBV : Below W2.heap.size W2 V := hbr.trans (hbV.mono (by omega))
        have htk : bs.take (k + 1) = bs.take k ++ [c] := by rw [List.take_add_one, hc]; rfl
        have hjc : c.toNat % 10 = j := by omega
        clear hcA cc1 b0 b1 b2 b3 hcell hV hT3 h4 hTm hbx had hnj hb3 hb3V
        by_cases hk0 : k = 0
        · subst hk0
          go_wp2_with fail
          obtain ⟨Z, hZ, zb, zo, zB, zs⟩ := set4 xT (.int .i64 k3) (.int .i64 m3) (.string s3) (.slice a3 l3 c3) hBV (Nat.le_refl _)
          go_roundg m
          case measure => omega
          case rel =>
            rw [← hZ]
            refine ⟨1, strV [g], k3, m3, s3, a3, l3, c3, rfl, by simp, by omega, ?_, zb, ?_, zB⟩
            · rw [htk]; simp [gT, HG.out.1, strV_list]
            · rw [htk]
              show TmIn _ Z _ (nM (c.toNat % 10))
              rw [hjc]
              exact TmIn.carry (fun b hb => zo b hb.2) (fun b hb => ⟨by rw [zs]; exact hb.1, hb.2⟩) hNV
        · have hk1 : ((k : Int) == 0) = false := by rw [beq_eq_false_iff_ne]; omega
          have hnt : bs.take k ≠ [] := by
            intro e
            have := congrArg List.length e
            rw [List.length_take] at this
            rw [List.length_nil] at this
            omega
          have hzT : (gM (bs.take k)).size ≤ 1000 := by
            have h1 := gM_size (bs.take k)
            rw [List.length_take] at h1
            omega
          by_cases h128 : 128 ≤ c.toNat
          · have h128' : (128 : Int) ≤ (c.toNat : Int) := by omega
            have hn2 := fun W => num_at 2 W ⟨by decide, by decide⟩
            have hdr : Below V.heap.size V V.drew := (Below.refl V.heap.size V).drew
            have cellB : ∀ w' (b o : Nat) (v : Value), Below V.heap.size V w' → b < V.heap.size → V.cell? ⟨b, o, none⟩ = some v → w'.cell? ⟨b, o, none⟩ = some v := fun w' b o v h hb hc => (h.cell (p := ⟨b, o, none⟩) hb).trans hc
            have lT : W2.heap.size < V.heap.size := (Array.getElem?_eq_some_iff.1 xT).1
            have lN : W3.heap.size < V.heap.size := (Array.getElem?_eq_some_iff.1 xN).1
            have HS : ∀ w', Below V.heap.size V w' → (w'.cell? ⟨W2.heap.size, 0, none⟩ = some (.int .i64 k1) ∧ w'.cell? ⟨W2.heap.size, 1, none⟩ = some (.int .i64 m1) ∧ w'.cell? ⟨W2.heap.size, 2, none⟩ = some (.string s1) ∧ w'.cell? ⟨W2.heap.size, 3, none⟩ = some (.slice a1 l1 c1) ∧ w'.cell? ⟨W3.heap.size, 0, none⟩ = some (.int .i64 k3) ∧ w'.cell? ⟨W3.heap.size, 1, none⟩ = some (.int .i64 m3) ∧ w'.cell? ⟨W3.heap.size, 2, none⟩ = some (.string s3) ∧ w'.cell? ⟨W3.heap.size, 3, none⟩ = some (.slice a3 l3 c3) ∧ Below V.heap.size V w') := fun w' h =>
              ⟨cellB _ _ _ _ h lT t0, cellB _ _ _ _ h lT t1, cellB _ _ _ _ h lT t2, cellB _ _ _ _ h lT t3, cellB _ _ _ _ h lN n0, cellB _ _ _ _ h lN n1, cellB _ _ _ _ h lN n2, cellB _ _ _ _ h lN n3, h⟩
            have hNh : Has V (.agg #[.int .i64 k3, .int .i64 m3, .string s3, .slice a3 l3 c3]) (nM j) := hNV.carry (fun _ _ => rfl) (fun b hb => hb.1)
            have hTh : Has V (.agg #[.int .i64 k1, .int .i64 m1, .string s1, .slice a1 l1 c1]) (gM (bs.take k)) := hTV.carry (fun _ _ => rfl) (fun b hb => hb.1)
            go_wp2_with fail
            refine wp_region_noPanic ?_
            refine wp_region_last (S := (fun w' => w'.cell? ⟨W2.heap.size, 0, none⟩ = some (.int .i64 k1) ∧ w'.cell? ⟨W2.heap.size, 1, none⟩ = some (.int .i64 m1) ∧ w'.cell? ⟨W2.heap.size, 2, none⟩ = some (.string s1) ∧ w'.cell? ⟨W2.heap.size, 3, none⟩ = some (.slice a1 l1 c1) ∧ w'.cell? ⟨W3.heap.size, 0, none⟩ = some (.int .i64 k3) ∧ w'.cell? ⟨W3.heap.size, 1, none⟩ = some (.int .i64 m3) ∧ w'.cell? ⟨W3.heap.size, 2, none⟩ = some (.string s3) ∧ w'.cell? ⟨W3.heap.size, 3, none⟩ = some (.slice a3 l3 c3) ∧ Below V.heap.size V w')) 7 (by kernel_rfl) (by kernel_rfl) (HS _ hdr) (fun hHeld => ?_)
            simp only [List.take_succ_cons, List.take_zero]
            clear t0 t1 t2 t3 n0 n1 n2 n3
            refine wpAnyH_take (i := 0) (v := ?vv0) rfl (by kernel_rfl) (by kernel_rfl) (by kernel_rfl) (fun _ _ _ h => h) (Or.inl ⟨by rfl, ?hy0⟩) hHeld ?rest0
            case hy0 =>
              intro w0 hSw
              (try dsimp only at hSw)
              go_simp
              try (with_reducible rfl)
            try simp only [Act.put, List.setIfInBounds_toArray, List.set_cons_zero, List.set_cons_succ]
            refine wpAnyH_take (i := 2) (v := ?vv2) rfl (by kernel_rfl) (by kernel_rfl) (by kernel_rfl) (fun _ _ _ h => h) (Or.inl ⟨by rfl, ?hy2⟩) hHeld ?rest2
            case hy2 =>
              intro w0 hSw
              (try dsimp only at hSw)
              go_simp
              try (with_reducible rfl)
            try simp only [Act.put, List.setIfInBounds_toArray, List.set_cons_zero, List.set_cons_succ]
            refine wpAnyH_ready (rs := [1]) (by kernel_rfl) (by simp) ?_
            refine AllReadyH.cons rfl (fun K hK => ?_) AllReadyH.nil
            go_simp
            with_reducible refine (hn2 _).mono ?_
            rintro e W5 h4
            obtain ⟨k5, m5, s5, a5, l5, c5, rfl, hT5, hb5'⟩ := h4.form4
            have hb5 : Below V.heap.size V W5 := bel hdr hb5'
            go_wp2_with fail
            refine hK.out _ _ (HS _ hb5) (fun hHeld2 => ?_)
            clear hK K
            try simp only [Act.put, List.setIfInBounds_toArray, List.set_cons_zero, List.set_cons_succ]
            refine wpAnyH_ready (rs := [3]) (by kernel_rfl) (by simp) ?_
            refine AllReadyH.cons rfl (fun K hK => ?_) AllReadyH.nil
            go_simp
            have hb6 := bel_al hb5 (.cells #[.int .i64 k5, .int .i64 m5, .string s5, .slice a5 l5 c5, .int .i64 k3, .int .i64 m3, .string s3, .slice a3 l3 c3] 32)
            refine hK.out _ _ (HS _ hb6) (fun hHeld3 => ?_)
            clear hK K
            try simp only [Act.put, List.setIfInBounds_toArray, List.set_cons_zero, List.set_cons_succ]
            refine wpAnyH_ready (rs := [4]) (by kernel_rfl) (by simp) ?_
            refine AllReadyH.cons rfl (fun K hK => ?_) AllReadyH.nil
            go_simp
            have hmk := make_at (ByteArray.mk #[42]) _ _ _ (by decide) (two_new (hasNew hT5) (hNh.below hb5)) (by rw [Tm.sizes_cons, Tm.sizes_cons, Tm.sizes_nil, nM_size, Tm.size_mk, Tm.sizes_nil]; omega)
            with_reducible refine hmk.mono ?_
            rintro e W7 h4
            obtain ⟨k7, m7, s7, a7, l7, c7, rfl, hT7, hb7'⟩ := h4.form4
            have hb7 : Below V.heap.size V W7 := bel hb6 hb7'
            go_wp2_with fail
            refine hK.out _ _ (HS _ hb7) (fun hHeld4 => ?_)
            clear hK K
            try simp only [Act.put, List.setIfInBounds_toArray, List.set_cons_zero, List.set_cons_succ]
            refine wpAnyH_ready (rs := [5]) (by kernel_rfl) (by simp) ?_
            refine AllReadyH.cons rfl (fun K hK => ?_) AllReadyH.nil
            go_simp
            have hb8 := bel_al hb7 (.cells #[.int .i64 k1, .int .i64 m1, .string s1, .slice a1 l1 c1, .int .i64 k7, .int .i64 m7, .string s7, .slice a7 l7 c7] 32)
            refine hK.out _ _ (HS _ hb8) (fun hHeld5 => ?_)
            clear hK K
            try simp only [Act.put, List.setIfInBounds_toArray, List.set_cons_zero, List.set_cons_succ]
            refine wpAnyH_ready (rs := [6]) (by kernel_rfl) (by simp) ?_
            refine AllReadyH.cons rfl (fun K hK => ?_) AllReadyH.nil
            go_simp
            have hmk2 := make_at (ByteArray.mk #[43]) _ _ _ (by decide) (two_new (hTh.below hb7) (hasNew hT7)) (by simp only [Tm.sizes_cons, Tm.sizes_nil, nM_size, Tm.size_mk]; omega)
            with_reducible refine hmk2.mono ?_
            rintro e W9 h4
            obtain ⟨k9, m9, s9, a9, l9, c9, rfl, hT9, hb9'⟩ := h4.form4
            have hb9 : Below V.heap.size V W9 := bel hb8 hb9'
            go_wp2_with fail
            refine hK.out _ _ (HS _ hb9) (fun hHeld6 => ?_)
            clear hK K
            try simp only [Act.put, List.setIfInBounds_toArray, List.set_cons_zero, List.set_cons_succ]
            refine wpAnyH_done (by kernel_rfl) ?_ _
            refine last_of_list rfl ?_
            have x9 := (hb9.block _ lT).trans xT
            obtain ⟨y0, y1, y2, y3⟩ := tbox_cells x9
            have f9 : ∀ o, W9.frozen? ⟨W2.heap.size, o, none⟩ = false := fun o => by simp [World.frozen?, x9]
            go_wp2_with fail
            refine NoPanic.normal ?_
            go_wp2_with fail
            obtain ⟨Z, hZ, zb, zo, zB, zs⟩ := set4 x9 (.int .i64 k9) (.int .i64 m9) (.string s9) (.slice a9 l9 c9) (hBV.trans (hb9.mono (by have := hbV.size; omega))) (Nat.le_refl _)
            go_roundg m
            case measure => omega
            case rel =>
              rw [← hZ]
              refine ⟨k + 1, _, k9, m9, s9, a9, l9, c9, rfl, by simp, by omega, ?_, zb, ?_, zB⟩
              · rw [htk, gT_snoc hnt, rd_app, rd_app, hS8.out, HG.out.1]
                unfold pcT
                rw [if_pos h128, strV_list]
                simp
              · rw [htk, gM_snoc hnt]
                unfold pcM
                rw [if_pos h128, hjc]
                exact TmIn.carry (fun b hb => zo b (by have := hb.1; have := hb8.size; simp at *; omega)) (fun b hb => ⟨by rw [zs]; exact hb.2, by have := hb.1; have := hb8.size; simp at *; omega⟩) hT9
          · have h128' : ¬ (128 : Int) ≤ (c.toNat : Int) := by omega
            have hmk := make_at (ByteArray.mk #[45]) _ _ _ (by decide) (two_new (hTV.carry (fun _ _ => rfl) (fun b hb => hb.1)) (hNV.carry (fun _ _ => rfl) (fun b hb => hb.1))) (by rw [Tm.sizes_cons, Tm.sizes_cons, Tm.sizes_nil, nM_size]; omega)
            go_wp2_with (first | (go_at_call 13; refine hmk.mono ?_; rintro e W5 h4; obtain ⟨k5, m5, s5, a5, l5, c5, rfl, hT5, hb5'⟩ := h4.form4; have hb5 := bel (bel_al (Below.refl V.heap.size V) (.cells #[.int .i64 k1, .int .i64 m1, .string s1, .slice a1 l1 c1, .int .i64 k3, .int .i64 m3, .string s3, .slice a3 l3 c3] 32)) hb5'; have x5 := (hb5.block _ (Array.getElem?_eq_some_iff.1 xT).1).trans xT; obtain ⟨y0, y1, y2, y3⟩ := tbox_cells x5; have f5 : ∀ o, W5.frozen? ⟨W2.heap.size, o, none⟩ = false := fun o => by simp [World.frozen?, x5]))
            obtain ⟨Z, hZ, zb, zo, zB, zs⟩ := set4 x5 (.int .i64 k5) (.int .i64 m5) (.string s5) (.slice a5 l5 c5) (hBV.trans (hb5.mono (by have := hbV.size; omega))) (Nat.le_refl _)
            go_roundg m
            case measure => omega
            case rel =>
              rw [← hZ]
              refine ⟨k + 1, _, k5, m5, s5, a5, l5, c5, rfl, by simp, by omega, ?_, zb, ?_, zB⟩
              · rw [htk, gT_snoc hnt, rd_app, rd_app, hS8.out, HG.out.1]
                unfold pcT
                rw [if_neg h128, strV_list]
                simp
              · rw [htk, gM_snoc hnt]
                unfold pcM
                rw [if_neg h128, hjc]
                exact TmIn.carry (fun b hb => zo b (by have := hb.1; have := hbV.size; simp at *; omega)) (fun b hb => ⟨by rw [zs]; exact hb.2, by have := hb.1; have := hbV.size; simp at *; omega⟩) hT5
end Go.Proofs.YtgodbmmhkmockaaGreatDoor
namespace Go.Proofs.YtgodbmmhkmockaaGreatDoor
open Go.RowKit Go.Maps
set_option linter.unusedVariables false
set_option linter.unusedSimpArgs false

def lT : List UInt8 → List UInt8
  | [] => []
  | b :: r => dgt b :: r.flatMap lsT
theorem lT_snoc {l : List UInt8} (h : l ≠ []) (b : UInt8) : lT (l ++ [b]) = lT l ++ lsT b := by
  cases l with
  | nil => exact absurd rfl h
  | cons c l => simp [lT]
theorem lT_len (l : List UInt8) : (lT l).length ≤ 3 * l.length := by
  cases l with
  | nil => simp [lT]
  | cons b l => have := lsT_len l; simp only [lT, List.length_cons]; omega
theorem lsM_size (u : Tm) (hu : Fine u 1 1) (l : List UInt8) : (lsM l u).size ≤ 2 * l.length + 1 := (lsM_fine u hu l).2.1
theorem lists_all {bs : List UInt8} {v : Bool} (hl : bs.length ≤ 20) (hv : v = true → bs ≠ []) : allG ((91 :: lT bs) ++ tlT v) 1 = .ok [lsM bs (lsU v)] := by
  cases bs with
  | nil =>
    cases v with
    | true => exact absurd rfl (hv rfl)
    | false => exact empty_ghost
  | cons b l => exact lists_ghost b l v (by simp at hl; omega)
theorem bel' {B : Nat} {a b c : World} (h : Below B a b) (g : Below b.heap.size b c) (hB : B ≤ b.heap.size) : Below B a c := h.trans (g.mono hB)
set_option maxRecDepth 100000 in
set_option maxHeartbeats 4000000 in
theorem lists_f (a : Option Addr) (cap : Nat) (bs : List UInt8) (w : World) (hm : bs.length ≤ cap) (hcap : cap ≤ maxLen) (hlen : bs.length ≤ 20) (hU : U8At w a bs) (L : Laid w) (T : Tab w) (E : ErrT w) : Calls Tryz.prog 5 #[.slice a bs.length cap, .bool false] w (Gets w (.bool true)) := by
  have hsh := shown7_at w L T E
  have hat := fun W => atom_at (ByteArray.mk #[91, 93]) W (by decide)
  have hlt := fun W => let_at 0 W ⟨by decide, by decide⟩
  have hz := zeroTerm
  have hb9 : ¬ 20 < (bs.length : Int) := by omega
  have hgl : (bs.length : Int) - 1 ≤ 100 := by omega
  have hg0 : -1 ≤ (bs.length : Int) - 1 := by omega
  go_enter Tryz.func5, Tryz.ntmps5
  go_wp2_with (first | (go_at_call 8; refine hsh.mono ?_; rintro e W1 ⟨rfl, hb1⟩) | (go_at_call 15; refine (hat _).mono ?_; rintro e W2 h4; obtain ⟨k1, m1, s1, a1, l1, c1, rfl, hT1, hb2⟩ := h4.form4))
  have hb2w := bel hb1 hb2
  have hBox0 := alloc_new W2 (.cells #[.int .i64 k1, .int .i64 m1, .string s1, .slice a1 l1 c1] 32)
  have hTT : TmIn (fun b => b < (W2.alloc (.cells #[.int .i64 k1, .int .i64 m1, .string s1, .slice a1 l1 c1] 32)).heap.size ∧ b ≠ W2.heap.size) (W2.alloc (.cells #[.int .i64 k1, .int .i64 m1, .string s1, .slice a1 l1 c1] 32)) (.agg #[.int .i64 k1, .int .i64 m1, .string s1, .slice a1 l1 c1]) (lsM [] (lsU false)) := TmIn.carry (fun b hb => Below.block (bel_al (Below.refl W2.heap.size W2) _) b hb.2) (fun b hb => ⟨by have := hb.2; simp; omega, by omega⟩) hT1
  have hBB : Below W2.heap.size W2 (W2.alloc (.cells #[.int .i64 k1, .int .i64 m1, .string s1, .slice a1 l1 c1] 32)) := bel_al (Below.refl _ _) _
  have hU2 := hU.below hb2w
  have hu1 : Fine (lsU false) 1 1 := lsU_fine false
  clear hT1 h4 hsh hat hlt
  go_loopg [8] bs.length (fun g z wr => ∃ (i : Int) (k1 m1 : Int) (s1 : ByteArray) (a1 : Option Addr) (l1 c1 : Nat), z = .int .i64 i ∧ (i + 1 = (g : Int) ∧ g ≤ bs.length) ∧ wr.heap[W2.heap.size]? = some (.cells #[.int .i64 k1, .int .i64 m1, .string s1, .slice a1 l1 c1] 32 (0, 0)) ∧ TmIn (fun b => b < wr.heap.size ∧ b ≠ W2.heap.size) wr (.agg #[.int .i64 k1, .int .i64 m1, .string s1, .slice a1 l1 c1]) (lsM (bs.drop g) (lsU false)) ∧ Below W2.heap.size W2 wr)
  case atStart => exact ⟨_, _, _, _, _, _, _, rfl, ⟨by omega, Nat.le_refl _⟩, hBox0, by rw [List.drop_length]; exact hTT, hBB⟩
  case round =>
    clear hTT hBox0
    obtain ⟨i, k1, m1, s1, a1, l1, c1, rfl, ⟨hi, hgl9⟩, hbx, hTm, hbr⟩ := hrel
    cases gk with
    | zero =>
      obtain rfl : i = -1 := by omega
      rw [List.drop_zero] at hTm
      obtain ⟨Wo, rfl⟩ : ∃ Wo, Wo = wr := ⟨_, rfl⟩
      have hbx1 := Lib.hid hbx
      have hTm1 := Lib.hid hTm
      have hsz : W2.heap.size < Wo.heap.size := (Array.getElem?_eq_some_iff.1 hbx).1
      have hUr := hU2.below hbr
      clear hbx hTm
      go_wp2_with fail
      go_loopg [6, 9] bs.length (fun g x z wk => ∃ (k : Nat) (S : ByteArray), x = .string S ∧ z = .int .i64 k ∧ g + k = bs.length ∧ S.data.toList = 91 :: lT (bs.take k) ∧ Below Wo.heap.size Wo wk)
      case atStart => exact ⟨0, _, rfl, rfl, by omega, rfl, Below.refl _ _⟩
      case round =>
        obtain ⟨k, S, rfl, rfl, hgk, hS, hbk⟩ := hrel
        cases gk with
        | zero =>
          have hkk : ¬ ((k : Int) < (bs.length : Int)) := by omega
          have hke : k = bs.length := by omega
          have htk : bs.take k = bs := by rw [hke, List.take_length]
          rw [htk] at hS
          have hlS := lT_len bs
          have hS9 : S.size ≤ 200 := by
            have h1 := len_of (s := S) rfl
            rw [hS, List.length_cons] at h1
            omega
          have hAg := lists_all (v := false) hlen (fun h => by cases h)
          have hbw := bel hb2w (bel hbr hbk)
          have hA := all_at (S ++ ByteArray.mk #[93, 46]) ((91 :: lT bs) ++ tlT false) (by rw [rd_app, hS]; rfl) wr (L.later hbw) (T.later hbw) (E.later hbw) (by rw [ByteArray.size_append]; have : (ByteArray.mk #[93, 46]).size = 2 := rfl; omega) 1
          rw [hAg] at hA
          unfold AllPost at hA
          have hbx := hbx1.out
          have hTm := hTm1.out
          clear hAg htk hS
          go_wp2_with (first | (go_at_call 9; refine hA.mono ?_; rintro e W4 ⟨qa, qcap, rfl, hb4', hts⟩))
          have hb4 := bel hbk hb4'
          have x4 := (hb4.block _ hsz).trans hbx
          have hT4 : Has W4 (.agg #[.int .i64 k1, .int .i64 m1, .string s1, .slice a1 l1 c1]) (lsM bs (lsU false)) := TmIn.carry (fun b hb => hb4.block b hb.1) (fun b hb => Nat.lt_of_lt_of_le hb.1 hb4.size) hTm
          obtain ⟨lb, lo, lcap, x0, y0, z0, u0, lu0, cu0, hv, hlb, p0, p1, p2, p3, hL0⟩ := one_has hts
          injection hv with hv1 hv2 hv3
          subst hv1 hv3
          have hl4 : W2.heap.size < W4.heap.size := (Array.getElem?_eq_some_iff.1 x4).1
          obtain ⟨I, inst, F, m0, hF0, hFb, hFc⟩ := op_later_family W4
          have hFx := fun i => ((hFb i).block W2.heap.size hl4).trans x4
          have t0 := fun i => (tbox_cells (hFx i)).1
          have t1 := fun i => (tbox_cells (hFx i)).2.1
          have t2 := fun i => (tbox_cells (hFx i)).2.2.1
          have t3 := fun i => (tbox_cells (hFx i)).2.2.2
          have cb := fun i (q : Nat) (u : Value) (hq : W4.cell? ⟨lb, q, none⟩ = some u) => (World.cell?_of_block (a := ⟨lb, q, none⟩) ((hFb i).block lb hlb)).trans hq
          have w0 := fun j => cb j _ _ p0
          have w1 := fun j => cb j _ _ p1
          have w2 := fun j => cb j _ _ p2
          have w3 := fun j => cb j _ _ p3
          have hzz : (lsM bs (lsU false)).size ≤ 1000000000000 := by have := lsM_size _ hu1 bs; omega
          have hSm : Hid (∀ j, Calls Tryz.prog 14 #[.agg #[.int .i64 x0, .int .i64 y0, .string z0, .slice u0 lu0 cu0], .agg #[.int .i64 k1, .int .i64 m1, .string s1, .slice a1 l1 c1]] (F j) fun e w'' => e = .returned (.bool true) ∧ ∃ m, w'' = F m) :=
            Lib.hid (fun j => (same_at (lsM bs (lsU false)) (lsM bs (lsU false)) _ _ (F j) (Has.below hL0 (hFb j)) (Has.below hT4 (hFb j)) hzz hzz).mono fun e w' hg => ⟨by rw [hg.1]; simp, hFc j _ hg.2⟩)
          have HB := Lib.hid (And.intro (bel hbw hb4') hFb)
          clear hFx hFb hFc cb p0 p1 p2 p3 hL0 hT4 hTm hts hA x4 hbx
          refine op_region_fam F m0 hF0 (by kernel_rfl) (by kernel_rfl) ?_
          clear hF0
          repeat (go_big_quiet_step (first | (go_at_call 14; (with_reducible exact hSm.out _))))
          refine wpQuiet_nil ?_
          intro _ hw'
          obtain ⟨nq, hw''⟩ := hw'
          subst hw''
          go_wp2_with fail
          go_ret
          exact ⟨rfl, bel HB.out.1 (HB.out.2 nq)⟩
        | succ m =>
          have hk : k < bs.length := by omega
          have hkk : ((k : Int) < (bs.length : Int)) := by omega
          obtain ⟨c, hc⟩ : ∃ c, bs[k]? = some c := ⟨_, List.getElem?_eq_getElem hk⟩
          obtain ⟨ad, rfl, had, hcell⟩ := (hUr.below hbk) k c hc
          obtain ⟨j, hj, hj'⟩ : ∃ j : Nat, j < 10 ∧ (c.toNat : Int) % 10 = j := ⟨c.toNat % 10, by omega, by omega⟩
          have hj9 : (j : Int) < 10 := by omega
          have hj8 : (0 : Int) ≤ (j : Int) := by omega
          have hc9 : (c.toNat : Int) ≤ 255 := by have := c.toNat_lt; omega
          have hS9 : S.size ≤ 200 := by
            have h1 := len_of (s := S) rfl
            have h2 := lT_len (bs.take k)
            rw [hS, List.length_cons] at h1
            rw [List.length_take] at h2
            omega
          obtain ⟨g, hg⟩ : ∃ g : UInt8, g = UInt8.ofNat (48 + j) := ⟨_, rfl⟩
          have hgn : (g.toNat : Int) = 48 + j := by rw [hg]; simp [UInt8.toNat_ofNat]; omega
          have hgd : g = dgt c := by rw [hg, dgt]; congr 2; omega
          have cg : ∀ W : World, (convert 30 9 (.slice (some ⟨W.heap.size, 0, none⟩) 1 1)).run Tryz.prog (W.alloc (.cells #[.int .u8 (48 + (j : Int))] 5)) = .ok (.string (strV [g])) (W.alloc (.cells #[.int .u8 (48 + (j : Int))] 5)) := fun W => one_text7 (by rw [hgn]; have := alloc_new W (.cells #[.int .u8 (48 + (j : Int))] 5); simp only [World.cell?, this]; rfl)
          have HG := Lib.hid (And.intro hgd hgn)
          have zg : (strV [g]).size = 1 := rfl
          have hS8 := Lib.hid hS
          have htk : bs.take (k + 1) = bs.take k ++ [c] := by rw [List.take_add_one, hc]; rfl
          clear hg hgn hgd hS
          by_cases hk0 : k = 0
          · have hk1 : decide ((0 : Int) < (k : Int)) = false := by rw [decide_eq_false_iff_not]; omega
            have HK := Lib.hid hk0
            clear hk0 hk1
            go_wp2_with fail
            · exfalso
              have := HK.out
              omega
            · go_roundg m
              case measure => omega
              case rel =>
                refine ⟨k + 1, _, rfl, by simp, by omega, ?_, bel_al hbk _⟩
                rw [htk, rd_app, hS8.out, HG.out.1, strV_list, HK.out]
                rfl
          · have hk1 : (0 : Int) < (k : Int) := by omega
            have hnt : bs.take k ≠ [] := by
              intro e
              have := congrArg List.length e
              rw [List.length_take, List.length_nil] at this
              omega
            go_wp2_with fail
            go_roundg m
            case measure => omega
            case rel =>
              refine ⟨k + 1, _, rfl, by simp, by omega, ?_, bel_al hbk _⟩
              rw [htk, lT_snoc hnt, rd_app, rd_app, hS8.out, HG.out.1, strV_list]
              simp [lsT]

    | succ m =>
      obtain rfl : i = (m : Int) := by omega
      clear hi
      have hk : m < bs.length := by omega
      obtain ⟨c, hc⟩ : ∃ c, bs[m]? = some c := ⟨_, List.getElem?_eq_getElem hk⟩
      obtain ⟨ad, rfl, had, hcell⟩ := (hU2.below hbr) m c hc
      obtain ⟨j, hj, hj'⟩ : ∃ j : Nat, j < 10 ∧ (c.toNat : Int) % 10 = j := ⟨c.toNat % 10, by omega, by omega⟩
      have hjc : c.toNat % 10 = j := by omega
      have hj9 : (j : Int) < 10 := by omega
      have hj8 : (0 : Int) ≤ (j : Int) := by omega
      have hjm : (c.toNat : Int).tmod 10 = j := by rw [Int.tmod_eq_emod_of_nonneg (by omega)]; exact hj'
      have hjw : IntKind.i64.wrap (j : Int) = j := by rw [IntKind.wrap_i64]; omega
      have hc9 : (c.toNat : Int) ≤ 255 := by have := c.toNat_lt; omega
      have hm9 : (m : Int) < (bs.length : Int) := by omega
      have hm8 : (0 : Int) ≤ (m : Int) := by omega
      have hm7 : (bs.length : Int) ≤ 9223372036854775807 := by omega
      have hnj := fun W => num_at j W ⟨by omega, by omega⟩
      have hdp : bs.drop m = c :: bs.drop (m + 1) := by rw [List.drop_eq_getElem_cons hk]; rw [List.getElem?_eq_getElem hk] at hc; rw [Option.some.inj hc]
      have hzT := lsM_size _ hu1 (bs.drop (m + 1))
      rw [List.length_drop] at hzT
      have hsz : W2.heap.size < wr.heap.size := (Array.getElem?_eq_some_iff.1 hbx).1
      obtain ⟨t0, t1, t2, t3⟩ := tbox_cells hbx
      have cellB : ∀ w' (b o : Nat) (v : Value), Below wr.heap.size wr w' → b < wr.heap.size → wr.cell? ⟨b, o, none⟩ = some v → w'.cell? ⟨b, o, none⟩ = some v := fun w' b o v h hb hc => (h.cell (p := ⟨b, o, none⟩) hb).trans hc
      have HS : ∀ w', Below wr.heap.size wr w' → (w'.cell? (ad.add m) = some (.int .u8 (c.toNat : Int)) ∧ w'.cell? ⟨W2.heap.size, 0, none⟩ = some (.int .i64 k1) ∧ w'.cell? ⟨W2.heap.size, 1, none⟩ = some (.int .i64 m1) ∧ w'.cell? ⟨W2.heap.size, 2, none⟩ = some (.string s1) ∧ w'.cell? ⟨W2.heap.size, 3, none⟩ = some (.slice a1 l1 c1) ∧ Below wr.heap.size wr w') := fun w' h =>
        ⟨(h.cell (p := ad.add m) (by rw [adk]; exact had)).trans hcell, cellB _ _ _ _ h hsz t0, cellB _ _ _ _ h hsz t1, cellB _ _ _ _ h hsz t2, cellB _ _ _ _ h hsz t3, h⟩
      have hTh : Has wr (.agg #[.int .i64 k1, .int .i64 m1, .string s1, .slice a1 l1 c1]) (lsM (bs.drop (m + 1)) (lsU false)) := hTm.carry (fun _ _ => rfl) (fun b hb => hb.1)
      have hdr : Below wr.heap.size wr wr.drew := (Below.refl wr.heap.size wr).drew
      clear t0 t1 t2 t3 cellB hcell
      go_wp2_with fail
      refine wp_region_noPanic ?_
      refine wp_region_last (S := (fun w' => w'.cell? (ad.add m) = some (.int .u8 (c.toNat : Int)) ∧ w'.cell? ⟨W2.heap.size, 0, none⟩ = some (.int .i64 k1) ∧ w'.cell? ⟨W2.heap.size, 1, none⟩ = some (.int .i64 m1) ∧ w'.cell? ⟨W2.heap.size, 2, none⟩ = some (.string s1) ∧ w'.cell? ⟨W2.heap.size, 3, none⟩ = some (.slice a1 l1 c1) ∧ Below wr.heap.size wr w')) 10 (by kernel_rfl) (by kernel_rfl) (HS _ hdr) (fun hHeld => ?_)
      simp only [List.take_succ_cons, List.take_zero]
      refine wpAnyH_take (i := 0) (v := ?vv0) rfl (by kernel_rfl) (by kernel_rfl) (by kernel_rfl) (fun _ _ _ h => h) (Or.inl ⟨by rfl, ?hy0⟩) hHeld ?rest0
      case hy0 =>
        intro w0 hSw
        (try dsimp only at hSw)
        go_simp
        try (with_reducible rfl)
      try simp only [Act.put, List.setIfInBounds_toArray, List.set_cons_zero, List.set_cons_succ]
      refine wpAnyH_take (i := 1) (v := ?vv1) rfl (by kernel_rfl) (by kernel_rfl) (by kernel_rfl) (fun _ _ _ h => h) (Or.inl ⟨by rfl, ?hy1⟩) hHeld ?rest1
      case hy1 =>
        intro w0 hSw
        (try dsimp only at hSw)
        go_simp
        try (with_reducible rfl)
      try simp only [Act.put, List.setIfInBounds_toArray, List.set_cons_zero, List.set_cons_succ]
      refine wpAnyH_take (i := 2) (v := ?vv2) rfl (by kernel_rfl) (by kernel_rfl) (by kernel_rfl) (fun _ _ _ h => h) (Or.inl ⟨by rfl, ?hy2⟩) hHeld ?rest2
      case hy2 =>
        intro w0 hSw
        (try dsimp only at hSw)
        go_simp
        try (with_reducible rfl)
      try simp only [Act.put, List.setIfInBounds_toArray, List.set_cons_zero, List.set_cons_succ]
      refine wpAnyH_take (i := 3) (v := ?vv3) rfl (by kernel_rfl) (by kernel_rfl) (by kernel_rfl) (fun _ _ _ h => h) (Or.inl ⟨by rfl, ?hy3⟩) hHeld ?rest3
      case hy3 =>
        intro w0 hSw
        (try dsimp only at hSw)
        go_simp
        try (with_reducible rfl)
      try simp only [Act.put, List.setIfInBounds_toArray, List.set_cons_zero, List.set_cons_succ]
      refine wpAnyH_take (i := 4) (v := ?vv4) rfl (by kernel_rfl) (by kernel_rfl) (by kernel_rfl) (fun _ _ _ h => h) (Or.inl ⟨by rfl, ?hy4⟩) hHeld ?rest4
      case hy4 =>
        intro w0 hSw
        (try dsimp only at hSw)
        go_simp
        try (with_reducible rfl)
      try simp only [Act.put, List.setIfInBounds_toArray, List.set_cons_zero, List.set_cons_succ]
      refine wpAnyH_take (i := 5) (v := ?vv5) rfl (by kernel_rfl) (by kernel_rfl) (by kernel_rfl) (fun _ _ _ h => h) (Or.inl ⟨by rfl, ?hy5⟩) hHeld ?rest5
      case hy5 =>
        intro w0 hSw
        (try dsimp only at hSw)
        go_simp
        try (with_reducible rfl)
      try simp only [Act.put, List.setIfInBounds_toArray, List.set_cons_zero, List.set_cons_succ]
      refine wpAnyH_take (i := 7) (v := ?vv7) rfl (by kernel_rfl) (by kernel_rfl) (by kernel_rfl) (fun _ _ _ h => h) (Or.inl ⟨by rfl, ?hy7⟩) hHeld ?rest7
      case hy7 =>
        intro w0 hSw
        (try dsimp only at hSw)
        go_simp
        try (with_reducible rfl)
      try simp only [Act.put, List.setIfInBounds_toArray, List.set_cons_zero, List.set_cons_succ]
      refine wpAnyH_ready (rs := [6]) (by kernel_rfl) (by simp) ?_
      refine AllReadyH.cons rfl (fun K hK => ?_) AllReadyH.nil
      go_simp
      with_reducible refine (hnj _).mono ?_
      rintro e W5 h4
      obtain ⟨k5, m5, s5, a5, l5, c5, rfl, hT5, hb5'⟩ := h4.form4
      have hb5 : Below wr.heap.size wr W5 := bel hdr hb5'
      go_wp2_with fail
      refine hK.out _ _ (HS _ hb5) (fun hHeld2 => ?_)
      clear hK K
      try simp only [Act.put, List.setIfInBounds_toArray, List.set_cons_zero, List.set_cons_succ]
      refine wpAnyH_ready (rs := [8]) (by kernel_rfl) (by simp) ?_
      refine AllReadyH.cons rfl (fun K hK => ?_) AllReadyH.nil
      go_simp
      have hb6 := bel_al hb5 (.cells #[.int .i64 k5, .int .i64 m5, .string s5, .slice a5 l5 c5, .int .i64 k1, .int .i64 m1, .string s1, .slice a1 l1 c1] 32)
      refine hK.out _ _ (HS _ hb6) (fun hHeld3 => ?_)
      clear hK K
      try simp only [Act.put, List.setIfInBounds_toArray, List.set_cons_zero, List.set_cons_succ]
      refine wpAnyH_ready (rs := [9]) (by kernel_rfl) (by simp) ?_
      refine AllReadyH.cons rfl (fun K hK => ?_) AllReadyH.nil
      go_simp
      have hmk := make_at (ByteArray.mk #[46]) _ _ _ (by decide) (two_new (hasNew hT5) (hTh.below hb5)) (by simp only [Tm.sizes_cons, Tm.sizes_nil, Tm.size_mk]; omega)
      with_reducible refine hmk.mono ?_
      rintro e W9 h4
      obtain ⟨k9, m9, s9, a9, l9, c9, rfl, hT9, hb9'⟩ := h4.form4
      have hb10 : Below wr.heap.size wr W9 := bel hb6 hb9'
      go_wp2_with fail
      refine hK.out _ _ (HS _ hb10) (fun hHeld6 => ?_)
      clear hK K
      try simp only [Act.put, List.setIfInBounds_toArray, List.set_cons_zero, List.set_cons_succ]
      refine wpAnyH_done (by kernel_rfl) ?_ _
      refine last_of_list rfl ?_
      have x9 := (hb10.block _ hsz).trans hbx
      obtain ⟨y0, y1, y2, y3⟩ := tbox_cells x9
      have f9 : ∀ o, W9.frozen? ⟨W2.heap.size, o, none⟩ = false := fun o => by simp [World.frozen?, x9]
      go_wp2_with fail
      refine NoPanic.normal ?_
      go_wp2_with fail
      obtain ⟨Z, hZ, zb, zo, zB, zs⟩ := set4 x9 (.int .i64 k9) (.int .i64 m9) (.string s9) (.slice a9 l9 c9) (hbr.trans (hb10.mono (by have := hbr.size; omega))) (Nat.le_refl _)
      go_roundg m
      case measure => omega
      case rel =>
        rw [← hZ]
        refine ⟨(m : Int) - 1, k9, m9, s9, a9, l9, c9, rfl, ⟨by omega, by omega⟩, zb, ?_, zB⟩
        rw [hdp]
        show TmIn _ Z _ (.mk 3 0 (strV [46]) [nM (c.toNat % 10), lsM (bs.drop (m + 1)) (lsU false)])
        rw [hjc]
        exact TmIn.carry (fun b hb => zo b (by have := hb.1; have := hb6.size; simp at *; omega)) (fun b hb => ⟨by rw [zs]; exact hb.2, by have := hb.1; have := hb6.size; simp at *; omega⟩) hT9
set_option maxRecDepth 100000 in
set_option maxHeartbeats 4000000 in
theorem lists_t (a : Option Addr) (cap : Nat) (bs : List UInt8) (w : World) (hm : bs.length ≤ cap) (hcap : cap ≤ maxLen) (hlen : bs.length ≤ 20) (hne : bs ≠ []) (hpos : 0 < (bs.length : Int)) (hU : U8At w a bs) (L : Laid w) (T : Tab w) (E : ErrT w) : Calls Tryz.prog 5 #[.slice a bs.length cap, .bool true] w (Gets w (.bool true)) := by
  have hsh := shown7_at w L T E
  have hat := fun W => atom_at (ByteArray.mk #[91, 93]) W (by decide)
  have hlt := fun W => let_at 0 W ⟨by decide, by decide⟩
  have hz := zeroTerm
  have hb9 : ¬ 20 < (bs.length : Int) := by omega
  have hgl : (bs.length : Int) - 1 ≤ 100 := by omega
  have hg0 : -1 ≤ (bs.length : Int) - 1 := by omega
  go_enter Tryz.func5, Tryz.ntmps5
  go_wp2_with (first | (go_at_call 8; refine hsh.mono ?_; rintro e W1 ⟨rfl, hb1⟩) | (go_at_call 15; refine (hat _).mono ?_; rintro e W2 h4; obtain ⟨k1, m1, s1, a1, l1, c1, rfl, hT1, hb2⟩ := h4.form4) | (go_at_call 16; refine (hlt _).mono ?_; rintro e W3 h4; obtain ⟨k3, m3, s3, a3, l3, c3, rfl, hT3, hb3'⟩ := h4.form4; have hb3 := bel (bel_al (Below.refl W2.heap.size W2) (.cells #[.int .i64 k1, .int .i64 m1, .string s1, .slice a1 l1 c1] 32)) hb3'; have x3 := (hb3'.block W2.heap.size (by simp)).trans (alloc_new W2 (.cells #[.int .i64 k1, .int .i64 m1, .string s1, .slice a1 l1 c1] 32)); obtain ⟨y0, y1, y2, y3⟩ := tbox_cells x3; have f3 : ∀ o, W3.frozen? ⟨W2.heap.size, o, none⟩ = false := fun o => by simp [World.frozen?, x3]))
  have hb2w := bel hb1 hb2
  obtain ⟨Z, hZ, hBox0, zo, hBB, zs⟩ := set4 x3 (.int .i64 k3) (.int .i64 m3) (.string s3) (.slice a3 l3 c3) (bel (Below.refl W2.heap.size W2) hb3) (Nat.le_refl _)
  rw [← hZ]
  have hTT : TmIn (fun b => b < Z.heap.size ∧ b ≠ W2.heap.size) Z (.agg #[.int .i64 k3, .int .i64 m3, .string s3, .slice a3 l3 c3]) (lsM [] (lsU true)) := TmIn.carry (fun b hb => zo b (by have := hb.1; simp at *; omega)) (fun b hb => ⟨by rw [zs]; exact hb.2, by have := hb.1; simp at *; omega⟩) hT3
  have hU2 := hU.below hb2w
  have hu1 : Fine (lsU true) 1 1 := lsU_fine true
  clear hT1 h4 hsh hat hlt hZ zo zs
  go_loopg [8] bs.length (fun g z wr => ∃ (i : Int) (k1 m1 : Int) (s1 : ByteArray) (a1 : Option Addr) (l1 c1 : Nat), z = .int .i64 i ∧ (i + 1 = (g : Int) ∧ g ≤ bs.length) ∧ wr.heap[W2.heap.size]? = some (.cells #[.int .i64 k1, .int .i64 m1, .string s1, .slice a1 l1 c1] 32 (0, 0)) ∧ TmIn (fun b => b < wr.heap.size ∧ b ≠ W2.heap.size) wr (.agg #[.int .i64 k1, .int .i64 m1, .string s1, .slice a1 l1 c1]) (lsM (bs.drop g) (lsU true)) ∧ Below W2.heap.size W2 wr)
  case atStart => exact ⟨_, _, _, _, _, _, _, rfl, ⟨by omega, Nat.le_refl _⟩, hBox0, by rw [List.drop_length]; exact hTT, hBB⟩
  case round =>
    clear hTT hBox0
    obtain ⟨i, k1, m1, s1, a1, l1, c1, rfl, ⟨hi, hgl9⟩, hbx, hTm, hbr⟩ := hrel
    cases gk with
    | zero =>
      obtain rfl : i = -1 := by omega
      rw [List.drop_zero] at hTm
      obtain ⟨Wo, rfl⟩ : ∃ Wo, Wo = wr := ⟨_, rfl⟩
      have hbx1 := Lib.hid hbx
      have hTm1 := Lib.hid hTm
      have hsz : W2.heap.size < Wo.heap.size := (Array.getElem?_eq_some_iff.1 hbx).1
      have hUr := hU2.below hbr
      clear hbx hTm
      go_wp2_with fail
      go_loopg [6, 9] bs.length (fun g x z wk => ∃ (k : Nat) (S : ByteArray), x = .string S ∧ z = .int .i64 k ∧ g + k = bs.length ∧ S.data.toList = 91 :: lT (bs.take k) ∧ Below Wo.heap.size Wo wk)
      case atStart => exact ⟨0, _, rfl, rfl, by omega, rfl, Below.refl _ _⟩
      case round =>
        obtain ⟨k, S, rfl, rfl, hgk, hS, hbk⟩ := hrel
        cases gk with
        | zero =>
          have hkk : ¬ ((k : Int) < (bs.length : Int)) := by omega
          have hke : k = bs.length := by omega
          have htk : bs.take k = bs := by rw [hke, List.take_length]
          rw [htk] at hS
          have hlS := lT_len bs
          have hS9 : S.size ≤ 200 := by
            have h1 := len_of (s := S) rfl
            rw [hS, List.length_cons] at h1
            omega
          have hAg := lists_all (v := true) hlen (fun _ => hne)
          have hbw := bel hb2w (bel hbr hbk)
          have hA := all_at (S ++ ByteArray.mk #[124, 84] ++ ByteArray.mk #[93, 46]) ((91 :: lT bs) ++ tlT true) (by rw [rd_app, rd_app, hS]; simp [tlT]) wr (L.later hbw) (T.later hbw) (E.later hbw) (by rw [ByteArray.size_append, ByteArray.size_append]; have : (ByteArray.mk #[93, 46]).size = 2 := rfl; have : (ByteArray.mk #[124, 84]).size = 2 := rfl; omega) 1
          rw [hAg] at hA
          unfold AllPost at hA
          have hbx := hbx1.out
          have hTm := hTm1.out
          clear hAg htk hS
          go_wp2_with (first | (go_at_call 9; refine hA.mono ?_; rintro e W4 ⟨qa, qcap, rfl, hb4', hts⟩))
          have hb4 := bel hbk hb4'
          have x4 := (hb4.block _ hsz).trans hbx
          have hT4 : Has W4 (.agg #[.int .i64 k1, .int .i64 m1, .string s1, .slice a1 l1 c1]) (lsM bs (lsU true)) := TmIn.carry (fun b hb => hb4.block b hb.1) (fun b hb => Nat.lt_of_lt_of_le hb.1 hb4.size) hTm
          obtain ⟨lb, lo, lcap, x0, y0, z0, u0, lu0, cu0, hv, hlb, p0, p1, p2, p3, hL0⟩ := one_has hts
          injection hv with hv1 hv2 hv3
          subst hv1 hv3
          have hl4 : W2.heap.size < W4.heap.size := (Array.getElem?_eq_some_iff.1 x4).1
          obtain ⟨I, inst, F, m0, hF0, hFb, hFc⟩ := op_later_family W4
          have hFx := fun i => ((hFb i).block W2.heap.size hl4).trans x4
          have t0 := fun i => (tbox_cells (hFx i)).1
          have t1 := fun i => (tbox_cells (hFx i)).2.1
          have t2 := fun i => (tbox_cells (hFx i)).2.2.1
          have t3 := fun i => (tbox_cells (hFx i)).2.2.2
          have cb := fun i (q : Nat) (u : Value) (hq : W4.cell? ⟨lb, q, none⟩ = some u) => (World.cell?_of_block (a := ⟨lb, q, none⟩) ((hFb i).block lb hlb)).trans hq
          have w0 := fun j => cb j _ _ p0
          have w1 := fun j => cb j _ _ p1
          have w2 := fun j => cb j _ _ p2
          have w3 := fun j => cb j _ _ p3
          have hzz : (lsM bs (lsU true)).size ≤ 1000000000000 := by have := lsM_size _ hu1 bs; omega
          have hSm : Hid (∀ j, Calls Tryz.prog 14 #[.agg #[.int .i64 x0, .int .i64 y0, .string z0, .slice u0 lu0 cu0], .agg #[.int .i64 k1, .int .i64 m1, .string s1, .slice a1 l1 c1]] (F j) fun e w'' => e = .returned (.bool true) ∧ ∃ m, w'' = F m) :=
            Lib.hid (fun j => (same_at (lsM bs (lsU true)) (lsM bs (lsU true)) _ _ (F j) (Has.below hL0 (hFb j)) (Has.below hT4 (hFb j)) hzz hzz).mono fun e w' hg => ⟨by rw [hg.1]; simp, hFc j _ hg.2⟩)
          have HB := Lib.hid (And.intro (bel hbw hb4') hFb)
          clear hFx hFb hFc cb p0 p1 p2 p3 hL0 hT4 hTm hts hA x4 hbx
          refine op_region_fam F m0 hF0 (by kernel_rfl) (by kernel_rfl) ?_
          clear hF0
          repeat (go_big_quiet_step (first | (go_at_call 14; (with_reducible exact hSm.out _))))
          refine wpQuiet_nil ?_
          intro _ hw'
          obtain ⟨nq, hw''⟩ := hw'
          subst hw''
          go_wp2_with fail
          go_ret
          exact ⟨rfl, bel HB.out.1 (HB.out.2 nq)⟩
        | succ m =>
          have hk : k < bs.length := by omega
          have hkk : ((k : Int) < (bs.length : Int)) := by omega
          obtain ⟨c, hc⟩ : ∃ c, bs[k]? = some c := ⟨_, List.getElem?_eq_getElem hk⟩
          obtain ⟨ad, rfl, had, hcell⟩ := (hUr.below hbk) k c hc
          obtain ⟨j, hj, hj'⟩ : ∃ j : Nat, j < 10 ∧ (c.toNat : Int) % 10 = j := ⟨c.toNat % 10, by omega, by omega⟩
          have hj9 : (j : Int) < 10 := by omega
          have hj8 : (0 : Int) ≤ (j : Int) := by omega
          have hc9 : (c.toNat : Int) ≤ 255 := by have := c.toNat_lt; omega
          have hS9 : S.size ≤ 200 := by
            have h1 := len_of (s := S) rfl
            have h2 := lT_len (bs.take k)
            rw [hS, List.length_cons] at h1
            rw [List.length_take] at h2
            omega
          obtain ⟨g, hg⟩ : ∃ g : UInt8, g = UInt8.ofNat (48 + j) := ⟨_, rfl⟩
          have hgn : (g.toNat : Int) = 48 + j := by rw [hg]; simp [UInt8.toNat_ofNat]; omega
          have hgd : g = dgt c := by rw [hg, dgt]; congr 2; omega
          have cg : ∀ W : World, (convert 30 9 (.slice (some ⟨W.heap.size, 0, none⟩) 1 1)).run Tryz.prog (W.alloc (.cells #[.int .u8 (48 + (j : Int))] 5)) = .ok (.string (strV [g])) (W.alloc (.cells #[.int .u8 (48 + (j : Int))] 5)) := fun W => one_text7 (by rw [hgn]; have := alloc_new W (.cells #[.int .u8 (48 + (j : Int))] 5); simp only [World.cell?, this]; rfl)
          have HG := Lib.hid (And.intro hgd hgn)
          have zg : (strV [g]).size = 1 := rfl
          have hS8 := Lib.hid hS
          have htk : bs.take (k + 1) = bs.take k ++ [c] := by rw [List.take_add_one, hc]; rfl
          clear hg hgn hgd hS
          by_cases hk0 : k = 0
          · have hk1 : decide ((0 : Int) < (k : Int)) = false := by rw [decide_eq_false_iff_not]; omega
            have HK := Lib.hid hk0
            clear hk0 hk1
            go_wp2_with fail
            · exfalso
              have := HK.out
              omega
            · go_roundg m
              case measure => omega
              case rel =>
                refine ⟨k + 1, _, rfl, by simp, by omega, ?_, bel_al hbk _⟩
                rw [htk, rd_app, hS8.out, HG.out.1, strV_list, HK.out]
                rfl
          · have hk1 : (0 : Int) < (k : Int) := by omega
            have hnt : bs.take k ≠ [] := by
              intro e
              have := congrArg List.length e
              rw [List.length_take, List.length_nil] at this
              omega
            go_wp2_with fail
            go_roundg m
            case measure => omega
            case rel =>
              refine ⟨k + 1, _, rfl, by simp, by omega, ?_, bel_al hbk _⟩
              rw [htk, lT_snoc hnt, rd_app, rd_app, hS8.out, HG.out.1, strV_list]
              simp [lsT]

    | succ m =>
      obtain rfl : i = (m : Int) := by omega
      clear hi
      have hk : m < bs.length := by omega
      obtain ⟨c, hc⟩ : ∃ c, bs[m]? = some c := ⟨_, List.getElem?_eq_getElem hk⟩
      obtain ⟨ad, rfl, had, hcell⟩ := (hU2.below hbr) m c hc
      obtain ⟨j, hj, hj'⟩ : ∃ j : Nat, j < 10 ∧ (c.toNat : Int) % 10 = j := ⟨c.toNat % 10, by omega, by omega⟩
      have hjc : c.toNat % 10 = j := by omega
      have hj9 : (j : Int) < 10 := by omega
      have hj8 : (0 : Int) ≤ (j : Int) := by omega
      have hjm : (c.toNat : Int).tmod 10 = j := by rw [Int.tmod_eq_emod_of_nonneg (by omega)]; exact hj'
      have hjw : IntKind.i64.wrap (j : Int) = j := by rw [IntKind.wrap_i64]; omega
      have hc9 : (c.toNat : Int) ≤ 255 := by have := c.toNat_lt; omega
      have hm9 : (m : Int) < (bs.length : Int) := by omega
      have hm8 : (0 : Int) ≤ (m : Int) := by omega
      have hm7 : (bs.length : Int) ≤ 9223372036854775807 := by omega
      have hnj := fun W => num_at j W ⟨by omega, by omega⟩
      have hdp : bs.drop m = c :: bs.drop (m + 1) := by rw [List.drop_eq_getElem_cons hk]; rw [List.getElem?_eq_getElem hk] at hc; rw [Option.some.inj hc]
      have hzT := lsM_size _ hu1 (bs.drop (m + 1))
      rw [List.length_drop] at hzT
      have hsz : W2.heap.size < wr.heap.size := (Array.getElem?_eq_some_iff.1 hbx).1
      obtain ⟨t0, t1, t2, t3⟩ := tbox_cells hbx
      have cellB : ∀ w' (b o : Nat) (v : Value), Below wr.heap.size wr w' → b < wr.heap.size → wr.cell? ⟨b, o, none⟩ = some v → w'.cell? ⟨b, o, none⟩ = some v := fun w' b o v h hb hc => (h.cell (p := ⟨b, o, none⟩) hb).trans hc
      have HS : ∀ w', Below wr.heap.size wr w' → (w'.cell? (ad.add m) = some (.int .u8 (c.toNat : Int)) ∧ w'.cell? ⟨W2.heap.size, 0, none⟩ = some (.int .i64 k1) ∧ w'.cell? ⟨W2.heap.size, 1, none⟩ = some (.int .i64 m1) ∧ w'.cell? ⟨W2.heap.size, 2, none⟩ = some (.string s1) ∧ w'.cell? ⟨W2.heap.size, 3, none⟩ = some (.slice a1 l1 c1) ∧ Below wr.heap.size wr w') := fun w' h =>
        ⟨(h.cell (p := ad.add m) (by rw [adk]; exact had)).trans hcell, cellB _ _ _ _ h hsz t0, cellB _ _ _ _ h hsz t1, cellB _ _ _ _ h hsz t2, cellB _ _ _ _ h hsz t3, h⟩
      have hTh : Has wr (.agg #[.int .i64 k1, .int .i64 m1, .string s1, .slice a1 l1 c1]) (lsM (bs.drop (m + 1)) (lsU true)) := hTm.carry (fun _ _ => rfl) (fun b hb => hb.1)
      have hdr : Below wr.heap.size wr wr.drew := (Below.refl wr.heap.size wr).drew
      clear t0 t1 t2 t3 cellB hcell
      go_wp2_with fail
      refine wp_region_noPanic ?_
      refine wp_region_last (S := (fun w' => w'.cell? (ad.add m) = some (.int .u8 (c.toNat : Int)) ∧ w'.cell? ⟨W2.heap.size, 0, none⟩ = some (.int .i64 k1) ∧ w'.cell? ⟨W2.heap.size, 1, none⟩ = some (.int .i64 m1) ∧ w'.cell? ⟨W2.heap.size, 2, none⟩ = some (.string s1) ∧ w'.cell? ⟨W2.heap.size, 3, none⟩ = some (.slice a1 l1 c1) ∧ Below wr.heap.size wr w')) 10 (by kernel_rfl) (by kernel_rfl) (HS _ hdr) (fun hHeld => ?_)
      simp only [List.take_succ_cons, List.take_zero]
      refine wpAnyH_take (i := 0) (v := ?vv0) rfl (by kernel_rfl) (by kernel_rfl) (by kernel_rfl) (fun _ _ _ h => h) (Or.inl ⟨by rfl, ?hy0⟩) hHeld ?rest0
      case hy0 =>
        intro w0 hSw
        (try dsimp only at hSw)
        go_simp
        try (with_reducible rfl)
      try simp only [Act.put, List.setIfInBounds_toArray, List.set_cons_zero, List.set_cons_succ]
      refine wpAnyH_take (i := 1) (v := ?vv1) rfl (by kernel_rfl) (by kernel_rfl) (by kernel_rfl) (fun _ _ _ h => h) (Or.inl ⟨by rfl, ?hy1⟩) hHeld ?rest1
      case hy1 =>
        intro w0 hSw
        (try dsimp only at hSw)
        go_simp
        try (with_reducible rfl)
      try simp only [Act.put, List.setIfInBounds_toArray, List.set_cons_zero, List.set_cons_succ]
      refine wpAnyH_take (i := 2) (v := ?vv2) rfl (by kernel_rfl) (by kernel_rfl) (by kernel_rfl) (fun _ _ _ h => h) (Or.inl ⟨by rfl, ?hy2⟩) hHeld ?rest2
      case hy2 =>
        intro w0 hSw
        (try dsimp only at hSw)
        go_simp
        try (with_reducible rfl)
      try simp only [Act.put, List.setIfInBounds_toArray, List.set_cons_zero, List.set_cons_succ]
      refine wpAnyH_take (i := 3) (v := ?vv3) rfl (by kernel_rfl) (by kernel_rfl) (by kernel_rfl) (fun _ _ _ h => h) (Or.inl ⟨by rfl, ?hy3⟩) hHeld ?rest3
      case hy3 =>
        intro w0 hSw
        (try dsimp only at hSw)
        go_simp
        try (with_reducible rfl)
      try simp only [Act.put, List.setIfInBounds_toArray, List.set_cons_zero, List.set_cons_succ]
      refine wpAnyH_take (i := 4) (v := ?vv4) rfl (by kernel_rfl) (by kernel_rfl) (by kernel_rfl) (fun _ _ _ h => h) (Or.inl ⟨by rfl, ?hy4⟩) hHeld ?rest4
      case hy4 =>
        intro w0 hSw
        (try dsimp only at hSw)
        go_simp
        try (with_reducible rfl)
      try simp only [Act.put, List.setIfInBounds_toArray, List.set_cons_zero, List.set_cons_succ]
      refine wpAnyH_take (i := 5) (v := ?vv5) rfl (by kernel_rfl) (by kernel_rfl) (by kernel_rfl) (fun _ _ _ h => h) (Or.inl ⟨by rfl, ?hy5⟩) hHeld ?rest5
      case hy5 =>
        intro w0 hSw
        (try dsimp only at hSw)
        go_simp
        try (with_reducible rfl)
      try simp only [Act.put, List.setIfInBounds_toArray, List.set_cons_zero, List.set_cons_succ]
      refine wpAnyH_take (i := 7) (v := ?vv7) rfl (by kernel_rfl) (by kernel_rfl) (by kernel_rfl) (fun _ _ _ h => h) (Or.inl ⟨by rfl, ?hy7⟩) hHeld ?rest7
      case hy7 =>
        intro w0 hSw
        (try dsimp only at hSw)
        go_simp
        try (with_reducible rfl)
      try simp only [Act.put, List.setIfInBounds_toArray, List.set_cons_zero, List.set_cons_succ]
      refine wpAnyH_ready (rs := [6]) (by kernel_rfl) (by simp) ?_
      refine AllReadyH.cons rfl (fun K hK => ?_) AllReadyH.nil
      go_simp
      with_reducible refine (hnj _).mono ?_
      rintro e W5 h4
      obtain ⟨k5, m5, s5, a5, l5, c5, rfl, hT5, hb5'⟩ := h4.form4
      have hb5 : Below wr.heap.size wr W5 := bel hdr hb5'
      go_wp2_with fail
      refine hK.out _ _ (HS _ hb5) (fun hHeld2 => ?_)
      clear hK K
      try simp only [Act.put, List.setIfInBounds_toArray, List.set_cons_zero, List.set_cons_succ]
      refine wpAnyH_ready (rs := [8]) (by kernel_rfl) (by simp) ?_
      refine AllReadyH.cons rfl (fun K hK => ?_) AllReadyH.nil
      go_simp
      have hb6 := bel_al hb5 (.cells #[.int .i64 k5, .int .i64 m5, .string s5, .slice a5 l5 c5, .int .i64 k1, .int .i64 m1, .string s1, .slice a1 l1 c1] 32)
      refine hK.out _ _ (HS _ hb6) (fun hHeld3 => ?_)
      clear hK K
      try simp only [Act.put, List.setIfInBounds_toArray, List.set_cons_zero, List.set_cons_succ]
      refine wpAnyH_ready (rs := [9]) (by kernel_rfl) (by simp) ?_
      refine AllReadyH.cons rfl (fun K hK => ?_) AllReadyH.nil
      go_simp
      have hmk := make_at (ByteArray.mk #[46]) _ _ _ (by decide) (two_new (hasNew hT5) (hTh.below hb5)) (by simp only [Tm.sizes_cons, Tm.sizes_nil, Tm.size_mk]; omega)
      with_reducible refine hmk.mono ?_
      rintro e W9 h4
      obtain ⟨k9, m9, s9, a9, l9, c9, rfl, hT9, hb9'⟩ := h4.form4
      have hb10 : Below wr.heap.size wr W9 := bel hb6 hb9'
      go_wp2_with fail
      refine hK.out _ _ (HS _ hb10) (fun hHeld6 => ?_)
      clear hK K
      try simp only [Act.put, List.setIfInBounds_toArray, List.set_cons_zero, List.set_cons_succ]
      refine wpAnyH_done (by kernel_rfl) ?_ _
      refine last_of_list rfl ?_
      have x9 := (hb10.block _ hsz).trans hbx
      obtain ⟨y0, y1, y2, y3⟩ := tbox_cells x9
      have f9 : ∀ o, W9.frozen? ⟨W2.heap.size, o, none⟩ = false := fun o => by simp [World.frozen?, x9]
      go_wp2_with fail
      refine NoPanic.normal ?_
      go_wp2_with fail
      obtain ⟨Z, hZ, zb, zo, zB, zs⟩ := set4 x9 (.int .i64 k9) (.int .i64 m9) (.string s9) (.slice a9 l9 c9) (hbr.trans (hb10.mono (by have := hbr.size; omega))) (Nat.le_refl _)
      go_roundg m
      case measure => omega
      case rel =>
        rw [← hZ]
        refine ⟨(m : Int) - 1, k9, m9, s9, a9, l9, c9, rfl, ⟨by omega, by omega⟩, zb, ?_, zB⟩
        rw [hdp]
        show TmIn _ Z _ (.mk 3 0 (strV [46]) [nM (c.toNat % 10), lsM (bs.drop (m + 1)) (lsU true)])
        rw [hjc]
        exact TmIn.carry (fun b hb => zo b (by have := hb.1; have := hb6.size; simp at *; omega)) (fun b hb => ⟨by rw [zs]; exact hb.2, by have := hb.1; have := hb6.size; simp at *; omega⟩) hT9
set_option maxRecDepth 100000 in
set_option maxHeartbeats 4000000 in
theorem lists_e (a : Option Addr) (cap : Nat) (bs : List UInt8) (w : World) (hm : bs.length ≤ cap) (hcap : cap ≤ maxLen) (hlen : bs.length ≤ 20) (hne : bs = []) (hpos : (bs.length : Int) = 0) (hU : U8At w a bs) (L : Laid w) (T : Tab w) (E : ErrT w) : Calls Tryz.prog 5 #[.slice a bs.length cap, .bool true] w (Gets w (.bool true)) := by
  have hsh := shown7_at w L T E
  have hat := fun W => atom_at (ByteArray.mk #[91, 93]) W (by decide)
  have hlt := fun W => let_at 0 W ⟨by decide, by decide⟩
  have hz := zeroTerm
  have hb9 : ¬ 20 < (bs.length : Int) := by omega
  have hgl : (bs.length : Int) - 1 ≤ 100 := by omega
  have hg0 : -1 ≤ (bs.length : Int) - 1 := by omega
  go_enter Tryz.func5, Tryz.ntmps5
  go_wp2_with (first | (go_at_call 8; refine hsh.mono ?_; rintro e W1 ⟨rfl, hb1⟩) | (go_at_call 15; refine (hat _).mono ?_; rintro e W2 h4; obtain ⟨k1, m1, s1, a1, l1, c1, rfl, hT1, hb2⟩ := h4.form4))
  have hb2w := bel hb1 hb2
  have hBox0 := alloc_new W2 (.cells #[.int .i64 k1, .int .i64 m1, .string s1, .slice a1 l1 c1] 32)
  have hTT : TmIn (fun b => b < (W2.alloc (.cells #[.int .i64 k1, .int .i64 m1, .string s1, .slice a1 l1 c1] 32)).heap.size ∧ b ≠ W2.heap.size) (W2.alloc (.cells #[.int .i64 k1, .int .i64 m1, .string s1, .slice a1 l1 c1] 32)) (.agg #[.int .i64 k1, .int .i64 m1, .string s1, .slice a1 l1 c1]) (lsM [] (lsU false)) := TmIn.carry (fun b hb => Below.block (bel_al (Below.refl W2.heap.size W2) _) b hb.2) (fun b hb => ⟨by have := hb.2; simp; omega, by omega⟩) hT1
  have hBB : Below W2.heap.size W2 (W2.alloc (.cells #[.int .i64 k1, .int .i64 m1, .string s1, .slice a1 l1 c1] 32)) := bel_al (Below.refl _ _) _
  have hU2 := hU.below hb2w
  have hu1 : Fine (lsU false) 1 1 := lsU_fine false
  clear hT1 h4 hsh hat hlt
  go_loopg [8] bs.length (fun g z wr => ∃ (i : Int) (k1 m1 : Int) (s1 : ByteArray) (a1 : Option Addr) (l1 c1 : Nat), z = .int .i64 i ∧ (i + 1 = (g : Int) ∧ g ≤ bs.length) ∧ wr.heap[W2.heap.size]? = some (.cells #[.int .i64 k1, .int .i64 m1, .string s1, .slice a1 l1 c1] 32 (0, 0)) ∧ TmIn (fun b => b < wr.heap.size ∧ b ≠ W2.heap.size) wr (.agg #[.int .i64 k1, .int .i64 m1, .string s1, .slice a1 l1 c1]) (lsM (bs.drop g) (lsU false)) ∧ Below W2.heap.size W2 wr)
  case atStart => exact ⟨_, _, _, _, _, _, _, rfl, ⟨by omega, Nat.le_refl _⟩, hBox0, by rw [List.drop_length]; exact hTT, hBB⟩
  case round =>
    clear hTT hBox0
    obtain ⟨i, k1, m1, s1, a1, l1, c1, rfl, ⟨hi, hgl9⟩, hbx, hTm, hbr⟩ := hrel
    cases gk with
    | zero =>
      obtain rfl : i = -1 := by omega
      rw [List.drop_zero] at hTm
      obtain ⟨Wo, rfl⟩ : ∃ Wo, Wo = wr := ⟨_, rfl⟩
      have hbx1 := Lib.hid hbx
      have hTm1 := Lib.hid hTm
      have hsz : W2.heap.size < Wo.heap.size := (Array.getElem?_eq_some_iff.1 hbx).1
      have hUr := hU2.below hbr
      clear hbx hTm
      go_wp2_with fail
      go_loopg [6, 9] bs.length (fun g x z wk => ∃ (k : Nat) (S : ByteArray), x = .string S ∧ z = .int .i64 k ∧ g + k = bs.length ∧ S.data.toList = 91 :: lT (bs.take k) ∧ Below Wo.heap.size Wo wk)
      case atStart => exact ⟨0, _, rfl, rfl, by omega, rfl, Below.refl _ _⟩
      case round =>
        obtain ⟨k, S, rfl, rfl, hgk, hS, hbk⟩ := hrel
        cases gk with
        | zero =>
          have hkk : ¬ ((k : Int) < (bs.length : Int)) := by omega
          have hke : k = bs.length := by omega
          have htk : bs.take k = bs := by rw [hke, List.take_length]
          rw [htk] at hS
          have hlS := lT_len bs
          have hS9 : S.size ≤ 200 := by
            have h1 := len_of (s := S) rfl
            rw [hS, List.length_cons] at h1
            omega
          have hAg := lists_all (v := false) hlen (fun h => by cases h)
          have hbw := bel hb2w (bel hbr hbk)
          have hA := all_at (S ++ ByteArray.mk #[93, 46]) ((91 :: lT bs) ++ tlT false) (by rw [rd_app, hS]; rfl) wr (L.later hbw) (T.later hbw) (E.later hbw) (by rw [ByteArray.size_append]; have : (ByteArray.mk #[93, 46]).size = 2 := rfl; omega) 1
          rw [hAg] at hA
          unfold AllPost at hA
          have hbx := hbx1.out
          have hTm := hTm1.out
          clear hAg htk hS
          go_wp2_with (first | (go_at_call 9; refine hA.mono ?_; rintro e W4 ⟨qa, qcap, rfl, hb4', hts⟩))
          have hb4 := bel hbk hb4'
          have x4 := (hb4.block _ hsz).trans hbx
          have hT4 : Has W4 (.agg #[.int .i64 k1, .int .i64 m1, .string s1, .slice a1 l1 c1]) (lsM bs (lsU false)) := TmIn.carry (fun b hb => hb4.block b hb.1) (fun b hb => Nat.lt_of_lt_of_le hb.1 hb4.size) hTm
          obtain ⟨lb, lo, lcap, x0, y0, z0, u0, lu0, cu0, hv, hlb, p0, p1, p2, p3, hL0⟩ := one_has hts
          injection hv with hv1 hv2 hv3
          subst hv1 hv3
          have hl4 : W2.heap.size < W4.heap.size := (Array.getElem?_eq_some_iff.1 x4).1
          obtain ⟨I, inst, F, m0, hF0, hFb, hFc⟩ := op_later_family W4
          have hFx := fun i => ((hFb i).block W2.heap.size hl4).trans x4
          have t0 := fun i => (tbox_cells (hFx i)).1
          have t1 := fun i => (tbox_cells (hFx i)).2.1
          have t2 := fun i => (tbox_cells (hFx i)).2.2.1
          have t3 := fun i => (tbox_cells (hFx i)).2.2.2
          have cb := fun i (q : Nat) (u : Value) (hq : W4.cell? ⟨lb, q, none⟩ = some u) => (World.cell?_of_block (a := ⟨lb, q, none⟩) ((hFb i).block lb hlb)).trans hq
          have w0 := fun j => cb j _ _ p0
          have w1 := fun j => cb j _ _ p1
          have w2 := fun j => cb j _ _ p2
          have w3 := fun j => cb j _ _ p3
          have hzz : (lsM bs (lsU false)).size ≤ 1000000000000 := by have := lsM_size _ hu1 bs; omega
          have hSm : Hid (∀ j, Calls Tryz.prog 14 #[.agg #[.int .i64 x0, .int .i64 y0, .string z0, .slice u0 lu0 cu0], .agg #[.int .i64 k1, .int .i64 m1, .string s1, .slice a1 l1 c1]] (F j) fun e w'' => e = .returned (.bool true) ∧ ∃ m, w'' = F m) :=
            Lib.hid (fun j => (same_at (lsM bs (lsU false)) (lsM bs (lsU false)) _ _ (F j) (Has.below hL0 (hFb j)) (Has.below hT4 (hFb j)) hzz hzz).mono fun e w' hg => ⟨by rw [hg.1]; simp, hFc j _ hg.2⟩)
          have HB := Lib.hid (And.intro (bel hbw hb4') hFb)
          clear hFx hFb hFc cb p0 p1 p2 p3 hL0 hT4 hTm hts hA x4 hbx
          refine op_region_fam F m0 hF0 (by kernel_rfl) (by kernel_rfl) ?_
          clear hF0
          repeat (go_big_quiet_step (first | (go_at_call 14; (with_reducible exact hSm.out _))))
          refine wpQuiet_nil ?_
          intro _ hw'
          obtain ⟨nq, hw''⟩ := hw'
          subst hw''
          go_wp2_with fail
          go_ret
          exact ⟨rfl, bel HB.out.1 (HB.out.2 nq)⟩
        | succ m =>
          exfalso
          rw [hne] at hgk
          simp at hgk
    | succ m =>
      exfalso
      rw [hne] at hgl9
      simp at hgl9
set_option maxRecDepth 100000 in
set_option maxHeartbeats 4000000 in
theorem lists_big (a : Option Addr) (cap : Nat) (bs : List UInt8) (v : Bool) (w : World) (hm : bs.length ≤ cap) (hcap : cap ≤ maxLen) (hlen : 20 < (bs.length : Int)) (L : Laid w) (T : Tab w) (E : ErrT w) : Calls Tryz.prog 5 #[.slice a bs.length cap, .bool v] w (Gets w (.bool true)) := by
  have hsh := shown7_at w L T E
  have hml : (bs.length : Int) ≤ 9223372036854775807 := by unfold maxLen at hcap; omega
  go_enter Tryz.func5, Tryz.ntmps5
  go_wp2_with (first | (go_at_call 8; refine hsh.mono ?_; rintro e W1 ⟨rfl, hb1⟩))
  go_ret
  exact ⟨rfl, hb1⟩
theorem rlists_at (a : Option Addr) (cap : Nat) (bs : List UInt8) (v : Bool) (w : World) (hm : bs.length ≤ cap) (hcap : cap ≤ maxLen) (hU : U8At w a bs) (L : Laid w) (T : Tab w) (E : ErrT w) : Calls Tryz.prog 5 #[.slice a bs.length cap, .bool v] w (Gets w (.bool true)) := by
  by_cases hbig : 20 < bs.length
  · exact lists_big a cap bs v w hm hcap (by omega) L T E
  · cases v with
    | false => exact lists_f a cap bs w hm hcap (by omega) hU L T E
    | true =>
      by_cases hne : bs = []
      · exact lists_e a cap bs w hm hcap (by omega) hne (by rw [hne]; rfl) hU L T E
      · have := List.length_pos_iff.2 hne
        exact lists_t a cap bs w hm hcap (by omega) hne (by omega) hU L T E
end Go.Proofs.YtgodbmmhkmockaaGreatDoor
namespace Go.Proofs.YtgodbmmhkmockaaGreatDoor
open Go.ChangeShapes Go.WideShapes Go.ChangeAt Go.RowKit Go.Deep
set_option linter.unusedVariables false
theorem laidOut : laidOutB Tryz.prog = true := by kernel_rfl
theorem cell_lt {w : World} {a : Addr} {v : Value} (h : w.cell? a = some v) : a.block < w.heap.size := by
  unfold World.cell? at h
  split at h
  · rename_i hb; exact (Array.getElem?_eq_some_iff.1 hb).1
  · cases h
/-- A slice of bytes that came in. -/
theorem open_u8 {H : Type} {enc : TypeId × Value → H} {w : World} {a : Option Addr} {len cap : Nat} {fuel : Nat} {x : DataW H × List MemPlace}
    (h : DataW.trod enc Tryz.prog w 0 (fun _ => true) true fuel 30 [.slice a len cap] = some x) :
    ∃ bs : List UInt8, bs.length = len ∧ len ≤ cap ∧ cap ≤ maxLen ∧ U8At w a bs := by
  rcases ChangeShapes.open_ints (k := .u8) Tryz.underlying30 Tryz.underlying5 (by kernel_rfl) h with ⟨hcs, _⟩ | ⟨ad, len', cap', zs, hcs, _, hl, hm, hz, _, hcell, hwf⟩
  · simp at hcs
    obtain ⟨rfl, rfl, rfl⟩ := hcs
    exact ⟨[], rfl, Nat.le_refl _, Nat.zero_le _, fun i c hi => by simp at hi⟩
  · simp at hcs
    obtain ⟨rfl, rfl, rfl⟩ := hcs
    simp at hz
    refine ⟨(zs.take len).map (fun n => UInt8.ofNat n.toNat), by simp; omega, hl, hm, fun i c hc => ?_⟩
    have hil : i < len := by
      have := (List.getElem?_eq_some_iff.1 hc).1
      simp at this
      omega
    have hi : i < zs.length := by omega
    have hce := hcell i hi
    rw [List.getElem?_map, List.getElem?_take_of_lt hil, List.getElem?_eq_getElem hi] at hc
    simp at hc
    have hn := bounds_u8 (hwf zs[i] (List.getElem_mem hi))
    have hget : zs.getD i 0 = zs[i] := by simp [List.getD, List.getElem?_eq_getElem hi]
    have hcn : (c.toNat : Int) = zs[i] := by
      rw [← hc, UInt8.toNat_ofNat']
      omega
    refine ⟨ad, rfl, by have := cell_lt hce; rwa [adk] at this, ?_⟩
    rw [hce, hget, hcn]
end Go.Proofs.YtgodbmmhkmockaaGreatDoor
namespace Go.Proofs.YtgodbmmhkmockaaGreatDoor.readerListsRow
open Go.ChangeShapes Go.WideShapes Go.ChangeAt Go.RowKit
open Go.ChangeMaps (open_string shut_string)
set_option linter.unusedVariables false
set_option maxRecDepth 100000

theorem reads (os : Os) {H : Type} (enc : TypeId × Value → H) : ∃ places, DataW.whole enc Tryz.prog ((World.doorLaid Tryz.prog 100 os).forCall (fun _ _ => 0) ⟨#[], #[.slice none 0 0, .bool false], []⟩).memory Tryz.f5.params.toList Rows.readerListsSpec.vars false (#[.slice none 0 0, .bool false] : Array Value).toList 8 = some ([.nil, .lit (.bool false)], [], places) :=
  ⟨[], by kernel_rfl⟩

theorem lifted (os : Os) (started : os.Started) (H : Type) (enc : TypeId × Value → H) (F : Stop.Interp) :
    ReturnsInHanded {} Tryz.checked os 5 .any ((OpenSpec.ofChange Rows.readerListsSpec).preRow enc Tryz.prog Tryz.f5 Rows.readerListsRow.domain false Rows.readerListsRow.laid) (((OpenSpec.ofChange Rows.readerListsSpec).at F).post enc Tryz.prog Tryz.f5 false true false false) := by
  obtain ⟨places, hx⟩ := reads os enc
  refine returnsInHanded_of_row (C := Tryz.checked) (s := (OpenSpec.ofChange Rows.readerListsSpec)) own started (by kernel_rfl) Tryz.func5
    (witness_row_atRef (enc := enc) (C := Tryz.checked) false (World.doorLaid Tryz.prog 100 os) #[.slice none 0 0, .bool false] rfl (by kernel_rfl) (by kernel_rfl) (by kernel_rfl)
      (OpenSpec.preRow_of_cond 8 hx (by kernel_rfl) (fun k hk => by cases hk) (by kernel_rfl) (door_met7 os _))) ?_
  intro W base args ds gs before hval hW _ hcond _ hL _ _
  have hW' := hW
  obtain ⟨p, q, hA0, hV, rfl, hfz, hnd⟩ := hW
  have hA : DataW.TrodAll enc Tryz.prog W 0 (fun _ => true) true Tryz.f5.params.toList args.toList ds p := hA0
  have hval' : ∀ (j : Nat) t v, Tryz.f5.params[j]? = some t → args[j]? = some v → Value.okWide Tryz.prog W .any base t v := hval
  rw [Tryz.params5] at hA hval'
  obtain ⟨v0, vs0, d0, ds0, p0, q0, hargs, rfl, rfl, h0, r0⟩ := trodAll_cons hA
  obtain ⟨v1, vs1, d1, ds1, p1, q1, rfl, rfl, rfl, h1, r1⟩ := trodAll_cons r0
  obtain ⟨rfl, rfl, rfl⟩ := trodAll_nil r1
  obtain rfl : args = #[v0, v1] := by cases args; simp_all
  obtain ⟨rfl, rfl⟩ := trodVars_none hV
  obtain ⟨a0, len0, cap0, rfl⟩ := okWide_slice Tryz.underlying30 (hval' 0 30 v0 rfl rfl)
  have k0 := h0
  have lt0 : ∀ x ∈ p0, x.block < W.heap.size := by obtain ⟨m, hm⟩ := k0; exact DataW.trod_lt m _ _ _ hm
  obtain ⟨z0, rfl, w0c, w0m, w0⟩ : ∃ bs : List UInt8, bs.length = len0 ∧ len0 ≤ cap0 ∧ cap0 ≤ maxLen ∧ U8At W a0 bs := by
    obtain ⟨fuel, hf⟩ := h0
    exact open_u8 hf
  obtain ⟨a1, rfl, rfl, rfl⟩ := open_bool Tryz.underlying4 (hval' 1 4 v1 rfl rfl) h1
  clear hA0 hval
  simp only [List.append_nil] at hW'
  refine (rlists_at a0 cap0 z0 a1 W w0c w0m w0 (laid_of7 hL).1 (laid_of7 hL).2.1 (laid_of7 hL).2.2).mono fun e W' ⟨he, bel⟩ => ?_
  subst he
  exact ⟨_, rfl, _, _, _, [], _, [], hW', trodAll_mk1 (shut_bool Tryz.underlying4 _), (trodAll_cons_mk (Below.trod laidOut (by kernel_rfl) (of_decide_eq_true (by kernel_rfl)) k0 bel lt0) (trodAll_cons_mk (shut_bool Tryz.underlying4 a1) trodAll_mk0)), rfl, bel.frame _, fun h => by cases h⟩
end Go.Proofs.YtgodbmmhkmockaaGreatDoor.readerListsRow
namespace Go.Proofs.YtgodbmmhkmockaaGreatDoor
open Go.ChangeShapes Go.WideShapes Go.ChangeAt Go.RowKit
open Go.ChangeMaps (open_string shut_string)
set_option linter.unusedVariables false
set_option maxRecDepth 100000

theorem readerLists_said : Rows.ReaderListsSaid :=
  OpenClaim.holds_of_cond 5 Tryz.f5 rfl rfl rfl rfl rfl rfl rfl ⟨rfl, rfl, rfl, rfl, rfl⟩ rfl rfl rfl rfl rfl (by kernel_rfl) Tryz.func5 (by kernel_rfl)
    (of_decide_eq_true (by kernel_rfl)) (by unfold Func.isWrapper; first | (rw [if_pos (by decide +kernel)]; kernel_rfl) | (rw [if_neg (by decide +kernel)]; exact ⟨rfl, rfl⟩))
    (fun os started H enc _ F => by rw [OpenClaim.pre_eq_preRow]; exact readerListsRow.lifted os started H enc F)
theorem readerLists_plain (f : FuncId) (fn : Func) (hf : Tryz.pinned.checked.prog.funcNamed "torchere/torcherelaw07.ReaderLists" = some f) (hfn : Tryz.pinned.checked.prog.funcs[f]? = some fn) :
    true = Tryz.pinned.checked.prog.looks [] ∧ ∀ (j : Nat) t, fn.params[j]? = some t → Tryz.pinned.checked.prog.wantsStandIn t = false := by
  obtain rfl : f = 5 := Option.some.inj ((show Tryz.prog.funcNamed "torchere/torcherelaw07.ReaderLists" = some 5 by kernel_rfl).symm.trans hf) |>.symm
  obtain rfl : fn = Tryz.f5 := (Option.some.inj (Tryz.func5.symm.trans hfn)).symm
  refine ⟨by kernel_rfl, fun j t ht => ?_⟩
  rw [Tryz.params5] at ht
  have hm : t = 30 ∨ t = 4 := by
    have := Array.mem_of_getElem? ht
    simpa using this
  rcases hm with rfl | rfl
  · exact (show Tryz.prog.wantsStandIn 30 = false by kernel_rfl)
  · exact (show Tryz.prog.wantsStandIn 4 = false by kernel_rfl)
theorem readerLists_card : Rows.ReaderListsCardSaid :=
  Claim7.holds_tied_plain_at .later [] _ _ _ _ readerLists_said (fun _ h => by cases h) (by kernel_rfl) (fun _ h => by cases h) readerLists_row_tie rfl ⟨rfl, rfl⟩ (by kernel_rfl) rfl readerLists_plain (by kernel_rfl)
#print axioms readerLists_card
end Go.Proofs.YtgodbmmhkmockaaGreatDoor
