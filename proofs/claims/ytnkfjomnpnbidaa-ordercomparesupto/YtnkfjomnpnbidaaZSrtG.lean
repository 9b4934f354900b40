/-
  slices.CompactFunc over entries: of neighbours that are alike the first one stays.
-/
import Derived.Test.YtnkfjomnpnbidaaZSrtAn2
import Derived.Lib.SlKept
import Derived.Lib.SliceRun
import Derived.Shelf.RegionOpenPlain
namespace Go.Proofs.Ytnkfjomnpnbidaa
open Go.Shelf Go.RowKit Go.Lib Go.Sort
set_option linter.unusedVariables false
section
variable {P : Program} {α : Type} [Inhabited α] {enc : α → List Value} {k : Nat} {w0 W : World} {blk off : Nat} {d : Array α}

theorem setMany_set (enc : α → List Value) (k : Nat) (hk : ∀ x, (enc x).length = k) (d : Array α) (i : Nat) (x : α) (hi : i < d.size) :
    setMany (flatK enc k d) (i * k) (enc x) = flatK enc k (d.setIfInBounds i x) := by
  refine ext_get! (by simp) fun t ht => ?_
  have ht' : t < d.size * k := by simpa using ht
  have k0 : 0 < k := by rcases Nat.eq_zero_or_pos k with h | h; · subst h; simp at ht'
                        · exact h
  rw [get_setMany _ _ _ t (by simpa using ht'), get_flatK _ _ _ t ht', get_flatK _ _ _ t (by simpa using ht'), hk]
  by_cases a : t / k = i
  · rw [if_pos ((blk_iff k i t k0).2 a)]
    have m : t - i * k = t % k := by subst a; rw [Nat.mod_eq_sub_div_mul]
    rw [m, a, getElem!_set_same d i x hi]
  · rw [if_neg (fun h => a ((blk_iff k i t k0).1 h)), getElem!_set_other d i (t / k) x a]
theorem SWb.set (h : SWb enc k w0 blk off d W) (R : RowB enc k w0 blk) (i : Nat) (hi : i < d.size) (x : α) :
    SWb enc k w0 blk off (d.setIfInBounds i x) (W.setCells blk (off + i * k) (enc x)) := by
  have g1 := holds_setCells_c h.holds (i * k) (enc x) (by rw [R.hk, size_flatK]; exact rowK_bnd d k i hi)
  rw [setMany_set enc k R.hk d i x hi] at g1
  exact h.cells _ _ g1
/-- What is changed behind some place changes nothing ahead of it. -/
theorem SWb.head (h : SWb enc k w0 blk off d W) (R : RowB enc k w0 blk) (d' : Array α) (hs : d'.size ≤ d.size) (he : ∀ j, j < d'.size → d'[j]! = d[j]!) (vs : List Value) :
    SWb enc k w0 blk off d' (W.setCells blk (off + d'.size * k) vs) := by
  refine h.cells _ _ fun t ht => ?_
  have ht' : t < d'.size * k := by simpa using ht
  have hlt : t < d.size * k := Nat.lt_of_lt_of_le ht' (Nat.mul_le_mul_right k hs)
  have k0 : 0 < k := by rcases Nat.eq_zero_or_pos k with h | h; · subst h; simp at ht'
                        · exact h
  have hq : t / k < d'.size := by rw [Nat.div_lt_iff_lt_mul k0]; exact ht'
  have g := h.holds t (by simpa using hlt)
  rw [get_flatK _ _ _ t hlt] at g
  rw [get_flatK _ _ _ t ht', he _ hq, World.frozen?_setCells, World.cell?_setCells_out blk _ _ _ _ (fun _ _ => Or.inl (by simpa using ht'))]
  exact g
theorem SWb.prefix (h : SWb enc k w0 blk off d W) (R : RowB enc k w0 blk) (d' : Array α) (hs : d'.size ≤ d.size) (he : ∀ j, j < d'.size → d'[j]! = d[j]!) : SWb enc k w0 blk off d' W := h.head R d' hs he []

/-- What clears a slice whose elements have k cells. -/
theorem run_clear_k (w : World) (t e ty : TypeId) (z : Value) (k : Nat) (ht : P.underlying t = some (.slice e)) (hv : ∀ w, (zeroValue e).run P w = .ok z w) (hz : z.cells.size = k) (h1 : ∀ i, i < k → z.cells[i]!.oneCell' = true) (b o n c : Nat) (hn : 0 < n)
    (hc : ∀ j, j < n * k → (w.cell? ⟨b, o + j, none⟩).isSome = true) (hf : ∀ j, j < n * k → w.frozen? ⟨b, o + j, none⟩ = false) :
    (Builtin.clear_ #[t] ty #[.slice (some ⟨b, o, none⟩) n c]).run P w = .ok (.tuple #[]) (w.setCells b o (Builtin.zeroCells z.cells n).toList) := by
  have hl : (Builtin.zeroCells z.cells n).toList.length = n * k := by simp [Builtin.zeroCells, hz]
  have hst := run_storeCells_cells (P := P) b o (Builtin.zeroCells z.cells n).toList 0 w (by rw [hl]; simpa using hc) (by rw [hl]; simpa using hf) (by
    intro v hv'
    simp only [Builtin.zeroCells, Array.toList_map, List.mem_map] at hv'
    obtain ⟨i, hi, rfl⟩ := hv'
    refine h1 _ ?_
    rw [hz]
    have : 0 < k := by
      rcases Nat.eq_zero_or_pos k with h | h
      · rw [hz, h] at hi; simp at hi
      · exact h
    exact Nat.mod_lt _ this)
  simp only [Nat.add_zero] at hst
  obtain ⟨m, rfl⟩ : ∃ m, n = m + 1 := ⟨n - 1, by omega⟩
  simp [Builtin.clear_, run_underlying ht, hv, hst]

/-- What is asked of the function that tells whether two are alike. -/
def EqB (P : Program) (g : Nat) (cb : Array Value) (enc : α → List Value) (k : Nat) (ef : α → α → Bool) (w0 : World) (blk off n : Nat) : Prop :=
  ∀ (W : World) (dk : Array α), SWb enc k w0 blk off dk W → dk.size = n → ∀ x y : α, Calls P g (#[.agg (enc x).toArray, .agg (enc y).toArray] ++ cb) W fun e w' => e = .returned (.bool (ef x y)) ∧ Below W.heap.size W w'
theorem SWb.eqb {g : Nat} {cb : Array Value} {ef : α → α → Bool} {n : Nat} (h : SWb enc k w0 blk off d W) (R : RowB enc k w0 blk) (C : EqB P g cb enc k ef w0 blk off n) (hs : d.size = n) (x y : α) (q : Nat) (os : Array Obj) :
    Calls P g (#[.agg (enc x).toArray, .agg (enc y).toArray] ++ cb) (grow (redrawn W q) os) fun e w' => e = .returned (.bool (ef x y)) ∧ Below (grow (redrawn W q) os).heap.size (grow (redrawn W q) os) w' :=
  C _ d (h.below R.hblk (below_regrown W q os)) hs x y
/-- Which places stay. -/
def keepsF (ef : α → α → Bool) (d : Array α) (j : Nat) : Bool := decide (j = 0) || !ef d[j]! d[j - 1]!
theorem keepsF_pos {ef : α → α → Bool} {d : Array α} {j : Nat} (h : ef d[j]! d[j - 1]! = false) : keepsF ef d j = true := by simp [keepsF, h]
theorem keepsF_neg {ef : α → α → Bool} {d : Array α} {j : Nat} (hj : 0 < j) (h : ef d[j]! d[j - 1]! = true) : keepsF ef d j = false := by
  have : j ≠ 0 := by omega
  simp [keepsF, h, this]
theorem keepsF_one (ef : α → α → Bool) (d : Array α) : ∀ j, j < 1 → keepsF ef d j = true := fun j hj => by
  obtain rfl : j = 0 := by omega
  simp [keepsF]
end

section
variable {P : Program} {α : Type} [Inhabited α]
set_option maxHeartbeats 8000000 in
set_option maxRecDepth 1000000 in
theorem compactF_at (k : Nat) (L : LO P k) (enc : α → List Value) (ef : α → α → Bool) (g : Nat) (cb : Array Value) (w0 : World) (blk off cap : Nat) (d : Array α) (w : World) (zv : Value) (hzv : ∀ w, (zeroValue 59).run P w = .ok zv w) (hzc : zv.cells.size = k) (hz1 : ∀ i, i < k → zv.cells[i]!.oneCell' = true)
    (eg : ∀ args w, (callFunc g args).run P w = .ok (.enter g args) w) (R : RowB enc k w0 blk) (C : EqB P g cb enc k ef w0 blk off d.size) (S : SWb enc k w0 blk off d w) (hsz : d.size < 4611686018427387904) (hcap : d.size ≤ cap) (hcap2 : cap < 9223372036854775807) :
    Calls P 37 #[.slice (some ⟨blk, off, none⟩) d.size cap, .func (.func g) #[] cb] w fun e w' => ∃ d' : Array α, e = .returned (.slice (some ⟨blk, off, none⟩) d'.size cap) ∧ d'.toList = keptUpTo (keepsF ef d) d d.size ∧ SWb enc k w0 blk off d' w' := by
  have mixed := L.mixed; have t0 := L.t0; have a0 := L.a0; have z0 := L.z0; have v0 := L.v0; have t3 := L.t3; have a3 := L.a3; have z3 := L.z3; have v3 := L.v3; have t4 := L.t4; have a4 := L.a4; have z4 := L.z4; have v4 := L.v4; have t57 := L.t57; have a57 := L.a57; have z57 := L.z57; have v57 := L.v57; have t63 := L.t63; have a63 := L.a63; have z63 := L.z63; have v63 := L.v63; have aE := L.aE; have zE := L.zE
  have u57 := run_underlying L.t57
  have all : (∀ j, j < d.size → keepsF ef d j = true) → keptUpTo (keepsF ef d) d d.size = d.toList := fun h => by rw [keptUpTo_all _ d _ h, range_map_get]
  have ALL : Aside _ := all
  have HC : Aside _ := C
  have S0 : Aside (SWb enc k w0 blk off d w) := S
  clear C S all
  by_cases h2 : d.size < 2
  · have h2z : (d.size : Int) < 2 := by omega
    go_enter L.f37, Try.ntmps37
    go_wp2
    go_ret
    exact ⟨d, rfl, (ALL.out fun j hj => keepsF_one ef d j (by omega)).symm, S0.out⟩
  · have h2z : ¬ (d.size : Int) < 2 := by omega
    go_enter L.f37, Try.ntmps37
    go_wp2
    go_loopg [5] d.size (fun gg s5 wr => ∃ j : Nat, s5 = .int .i64 j ∧ 1 ≤ j ∧ j ≤ d.size ∧ d.size - j ≤ gg ∧ Aside (SWb enc k w0 blk off d wr) ∧ Hid (∀ i, i < j → keepsF ef d i = true))
    case atStart => exact ⟨1, rfl, Nat.le_refl _, by omega, by omega, S0, keepsF_one ef d⟩
    case round =>
      clear S0
      obtain ⟨j, rfl, hj1, hjd, hg, S1, HA⟩ := hrel
      by_cases hlt : j < d.size
      · have hltz : (j : Int) < (d.size : Int) := by omega
        obtain ⟨jp, rfl⟩ : ∃ jp, j = jp + 1 := ⟨j - 1, by omega⟩
        have jz : (jp : Int) + 1 < (d.size : Int) := by omega
        have jz1 : (jp : Int) < (d.size : Int) := by omega
        have hwp : IntKind.i64.wrap (jp : Int) = (jp : Int) := by rw [IntKind.wrap_i64]; omega
        have p0 : (0 : Int) ≤ (jp : Int) + 1 := by omega
        have e0 : ((jp : Int) + 1).toNat = jp + 1 := by omega
        have lj := S1.out.ldb R P (jp + 1) (by omega)
        have lp := S1.out.ldb R P jp (by omega)
        obtain ⟨xj, hxj⟩ : ∃ x, d[jp + 1]! = x := ⟨_, rfl⟩
        obtain ⟨xp, hxp⟩ : ∃ x, d[jp]! = x := ⟨_, rfl⟩
        have hcg := S1.out.eqb R HC.out rfl xj xp
        rw [hxj] at lj
        rw [hxp] at lp
        have HX : Hid (d[jp + 1]! = xj ∧ d[jp]! = xp) := ⟨hxj, hxp⟩
        clear hxj hxp
        cases hef : ef xj xp with
        | false =>
          rw [hef] at hcg
          go_wp2_with fail
          refine wp_region_quiet_below (by assumption) (by kernel_rfl) ?_
          repeat (quiet_step (first | (go_at_fn g; refine Calls.regrown_of (hcg _ _))))
          refine wpQuiet_nil ?_
          intro _ hw'
          obtain ⟨⟨nq, osq⟩, hw''⟩ := hw'
          subst hw''
          go_wp2_with fail
          go_roundg (d.size - (jp + 1 + 1))
          case measure => omega
          case rel => exact ⟨jp + 1 + 1, by go_num, by omega, by omega, Nat.le_refl _, S1.out.regrown R nq osq, fun i hi => by
            by_cases e : i = jp + 1
            · subst e; exact keepsF_pos (by rw [Nat.add_sub_cancel, HX.out.1, HX.out.2]; exact hef)
            · exact HA.out i (by omega)⟩
        | true =>
          rw [hef] at hcg
          go_wp2_with fail
          refine wp_region_quiet_below (by assumption) (by kernel_rfl) ?_
          repeat (quiet_step (first | (go_at_fn g; refine Calls.regrown_of (hcg _ _))))
          refine wpQuiet_nil ?_
          intro _ hw'
          obtain ⟨⟨nq, osq⟩, hw''⟩ := hw'
          subst hw''
          have S2 : Aside _ := S1.out.regrown R nq osq
          have K0 : Hid (KeptInv (keepsF ef d) d (jp + 1 + 1) (jp + 1) d) := KeptInv.start HA.out (keepsF_neg (by omega) (by rw [Nat.add_sub_cancel, HX.out.1, HX.out.2]; exact hef))
          generalize grow (redrawn _ nq) osq = wq at S2 ⊢
          clear lj lp hcg S1 HX HA hef
          go_wp2_with fail
          go_loopg [5, 7] d.size (fun gg s5 s7 wr => ∃ (kk k2 : Nat) (dk : Array α), s5 = .int .i64 kk ∧ s7 = .int .i64 k2 ∧ 1 ≤ k2 ∧ jp + 1 + k2 ≤ d.size ∧ d.size - (jp + 1 + k2) ≤ gg ∧ kk < jp + 1 + k2 ∧ dk.size = d.size ∧ Aside (SWb enc k w0 blk off dk wr) ∧ Hid (KeptInv (keepsF ef d) d (jp + 1 + k2) kk dk))
          case atStart => exact ⟨jp + 1, 1, d, by go_num, rfl, Nat.le_refl _, by omega, by omega, by omega, rfl, S2, K0⟩
          case round =>
            clear S2 K0
            obtain ⟨kk, k2, dk, rfl, rfl, h1, hle, hg2, hkk, hds, S3, KI⟩ := hrel
            by_cases hlt2 : jp + 1 + k2 < d.size
            · obtain ⟨kp, rfl⟩ : ∃ kp, k2 = kp + 1 := ⟨k2 - 1, by omega⟩
              have hcz : (kp : Int) + 1 < ((d.size - (jp + 1) : Nat) : Int) := by omega
              have hcz1 : (kp : Int) < ((d.size - (jp + 1) : Nat) : Int) := by omega
              have hwk : IntKind.i64.wrap (kp : Int) = (kp : Int) := by rw [IntKind.wrap_i64]; omega
              have pk0 : (0 : Int) ≤ (kp : Int) + 1 := by omega
              have ek0 : ((kp : Int) + 1).toNat = kp + 1 := by omega
              have ea : off + (jp + 1 + (kp + 1)) * k = off + (jp + 1) * k + (kp + 1) * k := by rw [Nat.add_mul, Nat.add_assoc]
              have eb : off + (jp + 1 + kp) * k = off + (jp + 1) * k + kp * k := by rw [Nat.add_mul, Nat.add_assoc]
              have lj := S3.out.ldb R P (jp + 1 + (kp + 1)) (by omega)
              have lp := S3.out.ldb R P (jp + 1 + kp) (by omega)
              rw [KI.out.high (jp + 1 + (kp + 1)) (by omega), ea] at lj
              rw [KI.out.high (jp + 1 + kp) (by omega), eb] at lp
              obtain ⟨xj, hxj⟩ : ∃ x, d[jp + 1 + (kp + 1)]! = x := ⟨_, rfl⟩
              obtain ⟨xp, hxp⟩ : ∃ x, d[jp + 1 + kp]! = x := ⟨_, rfl⟩
              have hcg := S3.out.eqb R HC.out hds xj xp
              rw [hxj] at lj
              rw [hxp] at lp
              have HX : Hid (d[jp + 1 + (kp + 1)]! = xj ∧ d[jp + 1 + (kp + 1) - 1]! = xp) := ⟨hxj, hxp⟩
              have EA := Lib.hid ea
              clear hxj hxp ea eb
              cases hef : ef xj xp with
              | true =>
                rw [hef] at hcg
                go_wp2_with fail
                refine wp_region_quiet_below (by assumption) (by kernel_rfl) ?_
                repeat (quiet_step (first | (go_at_fn g; refine Calls.regrown_of (hcg _ _))))
                refine wpQuiet_nil ?_
                intro _ hw'
                obtain ⟨⟨nq, osq⟩, hw''⟩ := hw'
                subst hw''
                go_wp2_with fail
                go_roundg (d.size - (jp + 1 + (kp + 1 + 1)))
                case measure => omega
                case rel => exact ⟨kk, kp + 1 + 1, dk, rfl, by go_num, by omega, by omega, Nat.le_refl _, by omega, hds, S3.out.regrown R nq osq, KI.out.skip (keepsF_neg (by omega) (by rw [HX.out.1, HX.out.2]; exact hef))⟩
              | false =>
                rw [hef] at hcg
                go_wp2_with fail
                refine wp_region_quiet_below (by assumption) (by kernel_rfl) ?_
                repeat (quiet_step (first | (go_at_fn g; refine Calls.regrown_of (hcg _ _))))
                refine wpQuiet_nil ?_
                intro _ hw'
                obtain ⟨⟨nq, osq⟩, hw''⟩ := hw'
                subst hw''
                have SQ : Aside _ := S3.out.regrown R nq osq
                clear lj lp hcg S3
                generalize grow (redrawn _ nq) osq = wq at SQ ⊢
                have lj := SQ.out.load R P (jp + 1 + (kp + 1)) (by omega)
                rw [KI.out.high (jp + 1 + (kp + 1)) (by omega), EA.out, HX.out.1] at lj
                have s1 := SQ.out.st R P kk (by omega) xj
                have S4 : Aside _ := SQ.out.set R kk (by omega) xj
                have hkd : (kk : Int) < (d.size : Int) := by omega
                have nj : (enc xj).length = k := R.hk _
                have KI2 : Hid (KeptInv (keepsF ef d) d (jp + 1 + (kp + 1) + 1) (kk + 1) (dk.setIfInBounds kk xj)) := by
                  have h := KI.out.keep (by omega) (keepsF_pos (ef := ef) (d := d) (j := jp + 1 + (kp + 1)) (by rw [HX.out.1, HX.out.2]; exact hef))
                  rwa [HX.out.1] at h
                generalize enc xj = cJ at lj s1 S4 nj
                clear SQ KI
                go_wp2_with fail
                go_roundg (d.size - (jp + 1 + (kp + 1 + 1)))
                case measure => omega
                case rel => exact ⟨kk + 1, kp + 1 + 1, _, by go_num, by go_num, by omega, by omega, Nat.le_refl _, by omega, by simpa using hds, S4, KI2⟩
            · have hk2 : k2 = d.size - (jp + 1) := by omega
              have hcz : ¬ (k2 : Int) < ((d.size - (jp + 1) : Nat) : Int) := by omega
              have hkd : (kk : Int) < (d.size : Int) := by omega
              have hkd' : kk < d.size := by omega
              have hcl : ∃ Z, ∀ ty, (Builtin.clear_ #[57] ty #[.slice (some ⟨blk, off + kk * k, none⟩) (d.size - kk) (cap - kk)]).run P wr = .ok (.tuple #[]) (wr.setCells blk (off + kk * k) Z) := by
                have hb : ∀ t, t < (d.size - kk) * k → kk * k + t < (flatK enc k dk).size := fun t ht => by
                  rw [size_flatK, hds]
                  have : kk * k + (d.size - kk) * k = d.size * k := by rw [← Nat.add_mul]; congr 1; omega
                  omega
                exact ⟨_, fun ty => run_clear_k wr _ _ ty zv k t57 hzv hzc hz1 blk (off + kk * k) _ _ (by omega) (fun t ht => by rw [Nat.add_assoc, (S3.out.holds (kk * k + t) (hb t ht)).1]; rfl) (fun t ht => by rw [Nat.add_assoc]; exact (S3.out.holds (kk * k + t) (hb t ht)).2)⟩
              obtain ⟨Z, hcl⟩ := hcl
              have HE := Lib.hid hk2
              clear hk2
              go_wp2_with fail
              go_ret
              have hI := KI.out
              rw [HE.out, show jp + 1 + (d.size - (jp + 1)) = d.size by omega] at hI
              have hsz' : (keptUpTo (keepsF ef d) d d.size).toArray.size = kk := by rw [List.size_toArray, hI.len]
              refine ⟨(keptUpTo (keepsF ef d) d d.size).toArray, by rw [hsz']; rfl, rfl, ?_⟩
              have := S3.out.head R (keptUpTo (keepsF ef d) d d.size).toArray (by rw [hsz']; omega) (fun t ht => by
                rw [hsz'] at ht
                have h := hI.low t ht
                rw [getElem!_pos _ t (by rw [hsz']; exact ht)]
                rw [List.getElem?_eq_getElem (by rw [hI.len]; exact ht)] at h
                exact Option.some.inj h) Z
              rw [hsz'] at this
              exact this
      · obtain rfl : j = d.size := by omega
        have hltz : ¬ (d.size : Int) < (d.size : Int) := by omega
        go_wp2
        go_ret
        exact ⟨d, rfl, (ALL.out HA.out).symm, S1.out⟩
end
end Go.Proofs.Ytnkfjomnpnbidaa
