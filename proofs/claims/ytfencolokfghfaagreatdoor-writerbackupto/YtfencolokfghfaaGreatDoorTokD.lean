/-
  The walks of numbers and of names in quotation marks.
-/
import Derived.Test.YtfencolokfghfaaGreatDoorTokO
import Derived.LaidLaws
import Derived.Lib.ConvBytes
namespace Go.Proofs.YtfencolokfghfaaGreatDoor
open Go.RowKit Go.Lib Go.Sort
set_option linter.unusedVariables false

/-- What the package-level variables hold. -/
structure Laid (w : World) : Prop where
  tab : Lib.TabIs Tryz.prog w "internal/strconv.uint64pow10" .u64 Lib.pow10Tab
  err : ∃ tp p, w.var? Tryz.prog "strconv.ErrRange" = some #[.iface tp p]

theorem var_later {w W : World} {n : String} {cs : Array Value} (h : w.var? Tryz.prog n = some cs) (hb : Below w.heap.size w W) : W.var? Tryz.prog n = some cs := by
  unfold World.var? at h ⊢
  cases hg : Tryz.prog.globalNamed n with
  | none => simp [hg] at h
  | some g =>
    simp only [hg, Option.bind_some] at h ⊢
    have hlt : g < w.heap.size := by
      rcases Nat.lt_or_ge g w.heap.size with h' | h'
      · exact h'
      · simp [Array.getElem?_eq_none h'] at h
    rw [hb.block g hlt]
    exact h
theorem Laid.later {w W : World} (h : Laid w) (hb : Below w.heap.size w W) : Laid W := by
  obtain ⟨tp, p, he⟩ := h.err
  exact ⟨var_later h.tab hb, tp, p, var_later he hb⟩
theorem below_grow (w : World) (k : Nat) (os : Array Obj) : Below w.heap.size w (grow (w.drewN k) os) :=
  ⟨rfl, rfl, rfl, by show w.heap.size ≤ (w.heap ++ os).size; rw [Array.size_append]; omega, fun _ hj => Sort.heap_grow_old (w.drewN k) os hj⟩

theorem drew_y {w : World} {B : Nat} {o : Option Obj} (h : w.heap[B]? = o) (n : Nat) : (w.drewN n).heap[B]? = o := h
theorem digits_not_syntax : ∀ (l : List UInt8) (M acc : Nat), (∀ c ∈ l, digB c = true) → Lib.parseUintM M acc l ≠ .syntax
  | [], M, acc, _ => by simp [Lib.parseUintM]
  | c :: l, M, acc, h => by
    have hc : 48 ≤ c.toNat ∧ c.toNat ≤ 57 := by have := h c (by simp); simpa [digB, spanB] using this
    rw [Lib.parseUintM, if_pos hc]
    split
    · simp
    · split
      · simp
      · exact digits_not_syntax l M _ (fun d hd => h d (by simp [hd]))
theorem take_pre_all (p : UInt8 → Bool) : ∀ (l : List UInt8), ∀ c ∈ l.take (pre p l), p c = true
  | [], c, h => by simp at h
  | d :: l, c, h => by
    by_cases hd : p d = true
    · simp only [pre, hd, if_true, List.take_succ_cons, List.mem_cons] at h
      rcases h with rfl | h
      · exact hd
      · exact take_pre_all p l c h
    · simp [pre, hd] at h
theorem parse_digits {l : List UInt8} (h : 0 < pre digB l) : Lib.parseUintB 64 (l.take (pre digB l)) ≠ .syntax := by
  have hne : l.take (pre digB l) ≠ [] := by
    have h1 := pre_le digB l
    intro e
    have := congrArg List.length e
    simp at this
    rcases this with e | e
    · omega
    · subst e; simp [pre] at h
  unfold Lib.parseUintB
  rw [if_neg hne]
  exact digits_not_syntax _ _ _ (take_pre_all digB l)


/-- strconv.ParseUint of digits. -/
theorem parse_at (w : World) (L : Laid w) (s : ByteArray) (l : List UInt8) (hs : s.data.toList = l) (hm : s.size ≤ 281474976710656) (hp : Lib.parseUintB 64 l ≠ .syntax) :
    Calls Tryz.prog 78 #[.string s, .int .i64 10, .int .i64 64] w fun e w' =>
      Below w.heap.size w w' ∧ ((∃ u : Nat, Lib.parseUintB 64 l = .ok u ∧ e = .returned (.tuple #[.int .u64 u, .nilIface])) ∨ (Lib.parseUintB 64 l = .range ∧ ∃ tp p, e = .returned (.tuple #[.int .u64 18446744073709551615, .iface tp p]))) := by
  subst hs
  cases h : Lib.parseUintB 64 s.data.toList with
  | ok u =>
    refine (Tryz.strconv_ParseUint_10_at64_ok s (by omega) u h w).mono ?_
    rintro e w' ⟨rfl, hw⟩
    refine ⟨?_, Or.inl ⟨u, rfl, rfl⟩⟩
    rcases hw with rfl | rfl
    · exact Below.refl _ _
    · exact Lib.bytesWorld_below _ _ _
  | «syntax» => exact absurd h hp
  | range =>
    obtain ⟨tp, p, he⟩ := L.err
    refine (Tryz.strconv_ParseUint_10_at64_range_var s hm h tp p w he).mono ?_
    rintro e w' ⟨N, rfl, _, _, hb⟩
    exact ⟨hb, Or.inr ⟨rfl, _, _, rfl⟩⟩

theorem tok_num (u d : Nat) : Ending.returned (.tuple #[.agg #[.int .i64 3, .string ⟨#[]⟩, .int .i64 (wrap64 u), .bool false, .bool false], .int .i64 d, .int .i64 0]) = .returned (resV (.tok ⟨3, [], IntKind.i64.wrap u, false, false⟩ d)) := by
  have e : IntKind.i64.wrap (u : Int) = wrap64 u := by simp [wrap64, IntKind.wrap_i64]
  rw [e]; rfl
theorem parse_ok {P : Program} {f : FuncId} {args : Array Value} {w : World} {pu : Lib.NumEnd Nat} {u : Nat} (h : Calls P f args w fun e w' => Below w.heap.size w w' ∧ ((∃ u : Nat, pu = .ok u ∧ e = .returned (.tuple #[.int .u64 u, .nilIface])) ∨ (pu = .range ∧ ∃ tp p, e = .returned (.tuple #[.int .u64 18446744073709551615, .iface tp p])))) (hu : pu = .ok u) :
    Calls P f args w fun e w' => e = .returned (.tuple #[.int .u64 u, .nilIface]) ∧ Below w.heap.size w w' := h.mono fun e w' ⟨hb, h⟩ => by
  rcases h with ⟨v, hv, he⟩ | ⟨hv, _⟩
  · rw [hu] at hv; cases hv; exact ⟨he, hb⟩
  · rw [hu] at hv; cases hv
theorem parse_range {P : Program} {f : FuncId} {args : Array Value} {w : World} {pu : Lib.NumEnd Nat} (h : Calls P f args w fun e w' => Below w.heap.size w w' ∧ ((∃ u : Nat, pu = .ok u ∧ e = .returned (.tuple #[.int .u64 u, .nilIface])) ∨ (pu = .range ∧ ∃ tp p, e = .returned (.tuple #[.int .u64 18446744073709551615, .iface tp p])))) (hu : pu = .range) :
    Calls P f args w fun e w' => ∃ tp p, e = .returned (.tuple #[.int .u64 18446744073709551615, .iface tp p]) ∧ Below w.heap.size w w' := h.mono fun e w' ⟨hb, h⟩ => by
  rcases h with ⟨v, hv, he⟩ | ⟨_, tp, p, he⟩
  · rw [hu] at hv; cases hv
  · exact ⟨tp, p, he, hb⟩

set_option maxRecDepth 100000 in
set_option maxHeartbeats 4000000 in
theorem number_at (m : Nat) (k : Fs) (s : ByteArray) (l : List UInt8) (hs : s.data.toList = l) (w : World) (L : Laid w) (hm : s.size ≤ 1000000) (K : Kinds m w k) (hp : 0 < pre digB l) :
    Calls Tryz.prog 60 #[.string s, .int .i64 (pre digB l : Nat), .agg (fcells k)] w (Ans w (resV (numR l))) := by
  obtain ⟨hl1, hl2⟩ := len_le hs
  have hd := pre_le digB l
  have hr := ext_drop hs (pre digB l)
  have hpa := parse_digits hp
  have ht := ext_take hs (pre digB l)
  have hb2 : Below w.heap.size w ((w.alloc (.cells (fcells k) 83)).alloc (.cells #[.int .i64 0, .string ⟨#[]⟩, .int .i64 0, .bool false, .bool false] 87)) := bel_al (bel_al (Below.refl _ _) _) _
  have y2 : ((w.alloc (.cells (fcells k) 83)).alloc (.cells #[.int .i64 0, .string ⟨#[]⟩, .int .i64 0, .bool false, .bool false] 87)).heap[w.heap.size + 1]? = some (.cells #[.int .i64 0, .string ⟨#[]⟩, .int .i64 0, .bool false, .bool false] 87 (0, 0)) := by
    have := alloc_new (w.alloc (.cells (fcells k) 83)) (.cells #[.int .i64 0, .string ⟨#[]⟩, .int .i64 0, .bool false, .bool false] 87)
    simpa using this
  have hP := fun (W : World) (hW : Below w.heap.size w W) => parse_at W (L.later hW) (s.extract 0 (pre digB l)) (l.take (pre digB l)) ht (by rw [len_of ht, List.length_take]; omega) hpa
  have hD := fun (W : World) (c : UInt8) (hW : Below w.heap.size w W) => (K.dig.1 W c (.of_below hW))
  have eD := K.dig.2
  unfold FnGives encB at hD
  obtain ⟨g0, g1, g2, g3, g4, g5, g6, b0, b1, b2, b3, b4, b5, b6⟩ := k
  dsimp only at hD eD hb2 y2
  unfold fcells at hb2 y2 ⊢
  dsimp only at hb2 y2 ⊢
  have hnum : numR l = if frac (l.drop (pre digB l)) then .bad 4
    else match Lib.parseUintB 64 (l.take (pre digB l)) with
      | .ok u => if 9223372036854775808 < u then .bad 2 else .tok ⟨3, [], IntKind.i64.wrap u, false, false⟩ (pre digB l)
      | _ => .bad 2 := rfl
  rw [hnum]
  clear hnum L K ht
  generalize pre digB l = d at *
  generalize hpu : Lib.parseUintB 64 (l.take d) = pu at *
  have split : ∀ {R : Prop}, (∀ u, pu = .ok u → u ≤ 9223372036854775808 → R) → (∀ u, pu = .ok u → 9223372036854775808 < u → R) → (pu = .range → R) → R := fun h1 h2 h3 => by
    cases pu with
    | ok u =>
      by_cases hu : 9223372036854775808 < u
      · exact h2 u rfl hu
      · exact h1 u rfl (by omega)
    | «syntax» => exact absurd rfl hpa
    | range => exact h3 rfl
  rcases hx : l.drop d with _ | ⟨a, _ | ⟨b, r⟩⟩
  · rw [hx] at hr
    rw [if_neg (by simp [frac])]
    refine split (fun u hu hle => ?_) (fun u hu hlt => ?_) (fun hu => ?_)
    · have hv : (match pu with | .ok u => if 9223372036854775808 < u then Res.bad 2 else .tok ⟨3, [], IntKind.i64.wrap u, false, false⟩ d | _ => .bad 2) = .tok ⟨3, [], IntKind.i64.wrap u, false, false⟩ d := by rw [hu]; simp; omega
      rw [hv]
      have hP' := fun (W : World) (hW : Below w.heap.size w W) => parse_ok (hP W hW) hu
      clear hP hv split hpu
      have hbig : decide ((9223372036854775808 : Int) < (u : Int)) = false := by simp; omega
      go_enter Tryz.func60, Tryz.ntmps60
      go_wp2_with fail
      generalize s.extract d s.size = rs at hr ⊢
      have hsz : decide ((1 : Int) < (rs.size : Int)) = false := by have := len_of hr; rw [List.length_nil] at this; simp; omega
      clear hr hD
      go_quiet (fail)
      go_wp2_with (go_at_call 78; refine (hP' _ (below_drewN' hb2 _)).mono ?_; clear hP'; rintro e w4 ⟨rfl, hb4⟩; have y4 := (hb4.block (w.heap.size + 1) (by simp)).trans y2; obtain ⟨x0, x1, x2, x3, x4, xf⟩ := box5 y4)
      obtain ⟨W, hW, hx5, -, hB⟩ := set5 y4 (.int .i64 3) (.string ⟨#[]⟩) (.int .i64 (wrap64 u)) (.bool false) (.bool false) (bel (below_drewN' hb2 _) hb4) (Nat.le_succ _)
      rw [← hW]
      obtain ⟨f0, f1, f2, f3, f4, -⟩ := box5 hx5
      exact bodyPost_ret (v := .tuple #[.agg #[.int .i64 3, .string ⟨#[]⟩, .int .i64 (wrap64 u), .bool false, .bool false], .int .i64 d, .int .i64 0]) (by simp [results, Tryz.f60, go_sem, f0, f1, f2, f3, f4]) rfl ⟨tok_num u d, hB⟩
    · have hv : (match pu with | .ok u => if 9223372036854775808 < u then Res.bad 2 else .tok ⟨3, [], IntKind.i64.wrap u, false, false⟩ d | _ => .bad 2) = .bad 2 := by rw [hu]; simp; omega
      rw [hv]
      have hP' := fun (W : World) (hW : Below w.heap.size w W) => parse_ok (hP W hW) hu
      clear hP hv split hpu
      have hbig : (9223372036854775808 : Int) < (u : Int) := by omega
      go_enter Tryz.func60, Tryz.ntmps60
      go_wp2_with fail
      generalize s.extract d s.size = rs at hr ⊢
      have hsz : decide ((1 : Int) < (rs.size : Int)) = false := by have := len_of hr; rw [List.length_nil] at this; simp; omega
      clear hr hD
      go_quiet (fail)
      go_wp2_with (go_at_call 78; refine (hP' _ (below_drewN' hb2 _)).mono ?_; clear hP'; rintro e w4 ⟨rfl, hb4⟩; have y4 := (hb4.block (w.heap.size + 1) (by simp)).trans y2; obtain ⟨x0, x1, x2, x3, x4, xf⟩ := box5 y4)
      obtain ⟨W, hW, hx5, -, hB⟩ := set5 y4 (.int .i64 0) (.string ⟨#[]⟩) (.int .i64 0) (.bool false) (.bool false) (bel (below_drewN' hb2 _) hb4) (Nat.le_succ _)
      rw [← hW]
      obtain ⟨f0, f1, f2, f3, f4, -⟩ := box5 hx5
      exact bodyPost_ret (v := .tuple #[.agg #[.int .i64 0, .string ⟨#[]⟩, .int .i64 0, .bool false, .bool false], .int .i64 0, .int .i64 2]) (by simp [results, Tryz.f60, go_sem, f0, f1, f2, f3, f4]) rfl ⟨rfl, hB⟩
    · have hv : (match pu with | .ok u => if 9223372036854775808 < u then Res.bad 2 else .tok ⟨3, [], IntKind.i64.wrap u, false, false⟩ d | _ => .bad 2) = .bad 2 := by rw [hu]
      rw [hv]
      have hP' := fun (W : World) (hW : Below w.heap.size w W) => parse_range (hP W hW) hu
      clear hP hv split hpu
      go_enter Tryz.func60, Tryz.ntmps60
      go_wp2_with fail
      generalize s.extract d s.size = rs at hr ⊢
      have hsz : decide ((1 : Int) < (rs.size : Int)) = false := by have := len_of hr; rw [List.length_nil] at this; simp; omega
      clear hr hD
      go_quiet (fail)
      go_wp2_with (go_at_call 78; refine (hP' _ (below_drewN' hb2 _)).mono ?_; clear hP'; rintro e w4 ⟨tp, p, rfl, hb4⟩; have y4 := (hb4.block (w.heap.size + 1) (by simp)).trans y2; obtain ⟨x0, x1, x2, x3, x4, xf⟩ := box5 y4)
      obtain ⟨W, hW, hx5, -, hB⟩ := set5 y4 (.int .i64 0) (.string ⟨#[]⟩) (.int .i64 0) (.bool false) (.bool false) (bel (below_drewN' hb2 _) hb4) (Nat.le_succ _)
      rw [← hW]
      obtain ⟨f0, f1, f2, f3, f4, -⟩ := box5 hx5
      exact bodyPost_ret (v := .tuple #[.agg #[.int .i64 0, .string ⟨#[]⟩, .int .i64 0, .bool false, .bool false], .int .i64 0, .int .i64 2]) (by simp [results, Tryz.f60, go_sem, f0, f1, f2, f3, f4]) rfl ⟨rfl, hB⟩
  · rw [hx] at hr
    rw [if_neg (by simp [frac])]
    refine split (fun u hu hle => ?_) (fun u hu hlt => ?_) (fun hu => ?_)
    · have hv : (match pu with | .ok u => if 9223372036854775808 < u then Res.bad 2 else .tok ⟨3, [], IntKind.i64.wrap u, false, false⟩ d | _ => .bad 2) = .tok ⟨3, [], IntKind.i64.wrap u, false, false⟩ d := by rw [hu]; simp; omega
      rw [hv]
      have hP' := fun (W : World) (hW : Below w.heap.size w W) => parse_ok (hP W hW) hu
      clear hP hv split hpu
      have hbig : decide ((9223372036854775808 : Int) < (u : Int)) = false := by simp; omega
      go_enter Tryz.func60, Tryz.ntmps60
      go_wp2_with fail
      generalize s.extract d s.size = rs at hr ⊢
      have hsz : decide ((1 : Int) < (rs.size : Int)) = false := by have := len_of hr; simp at this; simp; omega
      clear hr hD
      go_quiet (fail)
      go_wp2_with (go_at_call 78; refine (hP' _ (below_drewN' hb2 _)).mono ?_; clear hP'; rintro e w4 ⟨rfl, hb4⟩; have y4 := (hb4.block (w.heap.size + 1) (by simp)).trans y2; obtain ⟨x0, x1, x2, x3, x4, xf⟩ := box5 y4)
      obtain ⟨W, hW, hx5, -, hB⟩ := set5 y4 (.int .i64 3) (.string ⟨#[]⟩) (.int .i64 (wrap64 u)) (.bool false) (.bool false) (bel (below_drewN' hb2 _) hb4) (Nat.le_succ _)
      rw [← hW]
      obtain ⟨f0, f1, f2, f3, f4, -⟩ := box5 hx5
      exact bodyPost_ret (v := .tuple #[.agg #[.int .i64 3, .string ⟨#[]⟩, .int .i64 (wrap64 u), .bool false, .bool false], .int .i64 d, .int .i64 0]) (by simp [results, Tryz.f60, go_sem, f0, f1, f2, f3, f4]) rfl ⟨tok_num u d, hB⟩
    · have hv : (match pu with | .ok u => if 9223372036854775808 < u then Res.bad 2 else .tok ⟨3, [], IntKind.i64.wrap u, false, false⟩ d | _ => .bad 2) = .bad 2 := by rw [hu]; simp; omega
      rw [hv]
      have hP' := fun (W : World) (hW : Below w.heap.size w W) => parse_ok (hP W hW) hu
      clear hP hv split hpu
      have hbig : (9223372036854775808 : Int) < (u : Int) := by omega
      go_enter Tryz.func60, Tryz.ntmps60
      go_wp2_with fail
      generalize s.extract d s.size = rs at hr ⊢
      have hsz : decide ((1 : Int) < (rs.size : Int)) = false := by have := len_of hr; simp at this; simp; omega
      clear hr hD
      go_quiet (fail)
      go_wp2_with (go_at_call 78; refine (hP' _ (below_drewN' hb2 _)).mono ?_; clear hP'; rintro e w4 ⟨rfl, hb4⟩; have y4 := (hb4.block (w.heap.size + 1) (by simp)).trans y2; obtain ⟨x0, x1, x2, x3, x4, xf⟩ := box5 y4)
      obtain ⟨W, hW, hx5, -, hB⟩ := set5 y4 (.int .i64 0) (.string ⟨#[]⟩) (.int .i64 0) (.bool false) (.bool false) (bel (below_drewN' hb2 _) hb4) (Nat.le_succ _)
      rw [← hW]
      obtain ⟨f0, f1, f2, f3, f4, -⟩ := box5 hx5
      exact bodyPost_ret (v := .tuple #[.agg #[.int .i64 0, .string ⟨#[]⟩, .int .i64 0, .bool false, .bool false], .int .i64 0, .int .i64 2]) (by simp [results, Tryz.f60, go_sem, f0, f1, f2, f3, f4]) rfl ⟨rfl, hB⟩
    · have hv : (match pu with | .ok u => if 9223372036854775808 < u then Res.bad 2 else .tok ⟨3, [], IntKind.i64.wrap u, false, false⟩ d | _ => .bad 2) = .bad 2 := by rw [hu]
      rw [hv]
      have hP' := fun (W : World) (hW : Below w.heap.size w W) => parse_range (hP W hW) hu
      clear hP hv split hpu
      go_enter Tryz.func60, Tryz.ntmps60
      go_wp2_with fail
      generalize s.extract d s.size = rs at hr ⊢
      have hsz : decide ((1 : Int) < (rs.size : Int)) = false := by have := len_of hr; simp at this; simp; omega
      clear hr hD
      go_quiet (fail)
      go_wp2_with (go_at_call 78; refine (hP' _ (below_drewN' hb2 _)).mono ?_; clear hP'; rintro e w4 ⟨tp, p, rfl, hb4⟩; have y4 := (hb4.block (w.heap.size + 1) (by simp)).trans y2; obtain ⟨x0, x1, x2, x3, x4, xf⟩ := box5 y4)
      obtain ⟨W, hW, hx5, -, hB⟩ := set5 y4 (.int .i64 0) (.string ⟨#[]⟩) (.int .i64 0) (.bool false) (.bool false) (bel (below_drewN' hb2 _) hb4) (Nat.le_succ _)
      rw [← hW]
      obtain ⟨f0, f1, f2, f3, f4, -⟩ := box5 hx5
      exact bodyPost_ret (v := .tuple #[.agg #[.int .i64 0, .string ⟨#[]⟩, .int .i64 0, .bool false, .bool false], .int .i64 0, .int .i64 2]) (by simp [results, Tryz.f60, go_sem, f0, f1, f2, f3, f4]) rfl ⟨rfl, hB⟩
  · rw [hx] at hr
    by_cases ha : a = 46
    · subst ha
      have hfr : frac (46 :: b :: r) = digB b := by simp [frac]
      rw [hfr]
      have hDb := fun (n : Nat) => hD _ b (below_drewN' hb2 n)
      generalize digB b = db at *
      cases db
      · rw [if_neg (by decide)]
        refine split (fun u hu hle => ?_) (fun u hu hlt => ?_) (fun hu => ?_)
        · have hv : (match pu with | .ok u => if 9223372036854775808 < u then Res.bad 2 else .tok ⟨3, [], IntKind.i64.wrap u, false, false⟩ d | _ => .bad 2) = .tok ⟨3, [], IntKind.i64.wrap u, false, false⟩ d := by rw [hu]; simp; omega
          rw [hv]
          have hP' := fun (W : World) (hW : Below w.heap.size w W) => parse_ok (hP W hW) hu
          clear hP hv split hpu
          have hbig : decide ((9223372036854775808 : Int) < (u : Int)) = false := by simp; omega
          go_enter Tryz.func60, Tryz.ntmps60
          go_wp2_with fail
          generalize s.extract d s.size = rs at hr ⊢
          have hsz : (1 : Int) < (rs.size : Int) := by have := len_of hr; simp at this; omega
          obtain ⟨c0, hc0, hg0⟩ := get_of hr (show 0 < rs.size by omega)
          obtain ⟨c1, hc1, hg1⟩ := get_of hr (show 1 < rs.size by omega)
          obtain rfl : c0 = 46 := by simpa using hc0.symm
          obtain rfl : c1 = b := by simpa using hc1.symm
          clear hc0 hc1 hr hD
          go_quiet ((go_at_fn g2; exact Calls.quiet_of (hDb _)))
          go_wp2_with (go_at_call 78; refine (hP' _ (below_drewN' hb2 _)).mono ?_; clear hP'; rintro e w4 ⟨rfl, hb4⟩; have y4 := (hb4.block (w.heap.size + 1) (by simp)).trans y2; obtain ⟨x0, x1, x2, x3, x4, xf⟩ := box5 y4)
          obtain ⟨W, hW, hx5, -, hB⟩ := set5 y4 (.int .i64 3) (.string ⟨#[]⟩) (.int .i64 (wrap64 u)) (.bool false) (.bool false) (bel (below_drewN' hb2 _) hb4) (Nat.le_succ _)
          rw [← hW]
          obtain ⟨f0, f1, f2, f3, f4, -⟩ := box5 hx5
          exact bodyPost_ret (v := .tuple #[.agg #[.int .i64 3, .string ⟨#[]⟩, .int .i64 (wrap64 u), .bool false, .bool false], .int .i64 d, .int .i64 0]) (by simp [results, Tryz.f60, go_sem, f0, f1, f2, f3, f4]) rfl ⟨tok_num u d, hB⟩
        · have hv : (match pu with | .ok u => if 9223372036854775808 < u then Res.bad 2 else .tok ⟨3, [], IntKind.i64.wrap u, false, false⟩ d | _ => .bad 2) = .bad 2 := by rw [hu]; simp; omega
          rw [hv]
          have hP' := fun (W : World) (hW : Below w.heap.size w W) => parse_ok (hP W hW) hu
          clear hP hv split hpu
          have hbig : (9223372036854775808 : Int) < (u : Int) := by omega
          go_enter Tryz.func60, Tryz.ntmps60
          go_wp2_with fail
          generalize s.extract d s.size = rs at hr ⊢
          have hsz : (1 : Int) < (rs.size : Int) := by have := len_of hr; simp at this; omega
          obtain ⟨c0, hc0, hg0⟩ := get_of hr (show 0 < rs.size by omega)
          obtain ⟨c1, hc1, hg1⟩ := get_of hr (show 1 < rs.size by omega)
          obtain rfl : c0 = 46 := by simpa using hc0.symm
          obtain rfl : c1 = b := by simpa using hc1.symm
          clear hc0 hc1 hr hD
          go_quiet ((go_at_fn g2; exact Calls.quiet_of (hDb _)))
          go_wp2_with (go_at_call 78; refine (hP' _ (below_drewN' hb2 _)).mono ?_; clear hP'; rintro e w4 ⟨rfl, hb4⟩; have y4 := (hb4.block (w.heap.size + 1) (by simp)).trans y2; obtain ⟨x0, x1, x2, x3, x4, xf⟩ := box5 y4)
          obtain ⟨W, hW, hx5, -, hB⟩ := set5 y4 (.int .i64 0) (.string ⟨#[]⟩) (.int .i64 0) (.bool false) (.bool false) (bel (below_drewN' hb2 _) hb4) (Nat.le_succ _)
          rw [← hW]
          obtain ⟨f0, f1, f2, f3, f4, -⟩ := box5 hx5
          exact bodyPost_ret (v := .tuple #[.agg #[.int .i64 0, .string ⟨#[]⟩, .int .i64 0, .bool false, .bool false], .int .i64 0, .int .i64 2]) (by simp [results, Tryz.f60, go_sem, f0, f1, f2, f3, f4]) rfl ⟨rfl, hB⟩
        · have hv : (match pu with | .ok u => if 9223372036854775808 < u then Res.bad 2 else .tok ⟨3, [], IntKind.i64.wrap u, false, false⟩ d | _ => .bad 2) = .bad 2 := by rw [hu]
          rw [hv]
          have hP' := fun (W : World) (hW : Below w.heap.size w W) => parse_range (hP W hW) hu
          clear hP hv split hpu
          go_enter Tryz.func60, Tryz.ntmps60
          go_wp2_with fail
          generalize s.extract d s.size = rs at hr ⊢
          have hsz : (1 : Int) < (rs.size : Int) := by have := len_of hr; simp at this; omega
          obtain ⟨c0, hc0, hg0⟩ := get_of hr (show 0 < rs.size by omega)
          obtain ⟨c1, hc1, hg1⟩ := get_of hr (show 1 < rs.size by omega)
          obtain rfl : c0 = 46 := by simpa using hc0.symm
          obtain rfl : c1 = b := by simpa using hc1.symm
          clear hc0 hc1 hr hD
          go_quiet ((go_at_fn g2; exact Calls.quiet_of (hDb _)))
          go_wp2_with (go_at_call 78; refine (hP' _ (below_drewN' hb2 _)).mono ?_; clear hP'; rintro e w4 ⟨tp, p, rfl, hb4⟩; have y4 := (hb4.block (w.heap.size + 1) (by simp)).trans y2; obtain ⟨x0, x1, x2, x3, x4, xf⟩ := box5 y4)
          obtain ⟨W, hW, hx5, -, hB⟩ := set5 y4 (.int .i64 0) (.string ⟨#[]⟩) (.int .i64 0) (.bool false) (.bool false) (bel (below_drewN' hb2 _) hb4) (Nat.le_succ _)
          rw [← hW]
          obtain ⟨f0, f1, f2, f3, f4, -⟩ := box5 hx5
          exact bodyPost_ret (v := .tuple #[.agg #[.int .i64 0, .string ⟨#[]⟩, .int .i64 0, .bool false, .bool false], .int .i64 0, .int .i64 2]) (by simp [results, Tryz.f60, go_sem, f0, f1, f2, f3, f4]) rfl ⟨rfl, hB⟩

      · rw [if_pos rfl]
        clear hP split hpu
        go_enter Tryz.func60, Tryz.ntmps60
        go_wp2_with fail
        generalize s.extract d s.size = rs at hr ⊢
        have hsz : (1 : Int) < (rs.size : Int) := by have := len_of hr; simp at this; omega
        obtain ⟨c0, hc0, hg0⟩ := get_of hr (show 0 < rs.size by omega)
        obtain ⟨c1, hc1, hg1⟩ := get_of hr (show 1 < rs.size by omega)
        obtain rfl : c0 = 46 := by simpa using hc0.symm
        obtain rfl : c1 = b := by simpa using hc1.symm
        clear hc0 hc1 hr hD
        go_quiet ((go_at_fn g2; exact Calls.quiet_of (hDb _)))
        go_wp2_with fail
        have y9 := drew_y y2 nq
        obtain ⟨W, hW, hx5, -, hB⟩ := set5 y9 (.int .i64 0) (.string ⟨#[]⟩) (.int .i64 0) (.bool false) (.bool false) (below_drewN' hb2 nq) (Nat.le_succ _)
        rw [← hW]
        obtain ⟨f0, f1, f2, f3, f4, -⟩ := box5 hx5
        exact bodyPost_ret (v := .tuple #[.agg #[.int .i64 0, .string ⟨#[]⟩, .int .i64 0, .bool false, .bool false], .int .i64 0, .int .i64 4]) (by simp [results, Tryz.f60, go_sem, f0, f1, f2, f3, f4]) rfl ⟨rfl, hB⟩
    · rw [if_neg (by simp [frac, ha])]
      refine split (fun u hu hle => ?_) (fun u hu hlt => ?_) (fun hu => ?_)
      · have hv : (match pu with | .ok u => if 9223372036854775808 < u then Res.bad 2 else .tok ⟨3, [], IntKind.i64.wrap u, false, false⟩ d | _ => .bad 2) = .tok ⟨3, [], IntKind.i64.wrap u, false, false⟩ d := by rw [hu]; simp; omega
        rw [hv]
        have hP' := fun (W : World) (hW : Below w.heap.size w W) => parse_ok (hP W hW) hu
        clear hP hv split hpu
        have hbig : decide ((9223372036854775808 : Int) < (u : Int)) = false := by simp; omega
        go_enter Tryz.func60, Tryz.ntmps60
        go_wp2_with fail
        generalize s.extract d s.size = rs at hr ⊢
        have hsz : (1 : Int) < (rs.size : Int) := by have := len_of hr; simp at this; omega
        obtain ⟨c0, hc0, hg0⟩ := get_of hr (show 0 < rs.size by omega)
        obtain ⟨c1, hc1, hg1⟩ := get_of hr (show 1 < rs.size by omega)
        obtain rfl : c0 = a := by simpa using hc0.symm
        have ha' : ((c0.toNat : Int) == 46) = false := by have := ne_int ha; rw [show ((46 : UInt8).toNat : Int) = 46 from rfl] at this; exact this
        obtain rfl : c1 = b := by simpa using hc1.symm
        clear hc0 hc1 hr hD
        go_quiet (fail)
        go_wp2_with (go_at_call 78; refine (hP' _ (below_drewN' hb2 _)).mono ?_; clear hP'; rintro e w4 ⟨rfl, hb4⟩; have y4 := (hb4.block (w.heap.size + 1) (by simp)).trans y2; obtain ⟨x0, x1, x2, x3, x4, xf⟩ := box5 y4)
        obtain ⟨W, hW, hx5, -, hB⟩ := set5 y4 (.int .i64 3) (.string ⟨#[]⟩) (.int .i64 (wrap64 u)) (.bool false) (.bool false) (bel (below_drewN' hb2 _) hb4) (Nat.le_succ _)
        rw [← hW]
        obtain ⟨f0, f1, f2, f3, f4, -⟩ := box5 hx5
        exact bodyPost_ret (v := .tuple #[.agg #[.int .i64 3, .string ⟨#[]⟩, .int .i64 (wrap64 u), .bool false, .bool false], .int .i64 d, .int .i64 0]) (by simp [results, Tryz.f60, go_sem, f0, f1, f2, f3, f4]) rfl ⟨tok_num u d, hB⟩
      · have hv : (match pu with | .ok u => if 9223372036854775808 < u then Res.bad 2 else .tok ⟨3, [], IntKind.i64.wrap u, false, false⟩ d | _ => .bad 2) = .bad 2 := by rw [hu]; simp; omega
        rw [hv]
        have hP' := fun (W : World) (hW : Below w.heap.size w W) => parse_ok (hP W hW) hu
        clear hP hv split hpu
        have hbig : (9223372036854775808 : Int) < (u : Int) := by omega
        go_enter Tryz.func60, Tryz.ntmps60
        go_wp2_with fail
        generalize s.extract d s.size = rs at hr ⊢
        have hsz : (1 : Int) < (rs.size : Int) := by have := len_of hr; simp at this; omega
        obtain ⟨c0, hc0, hg0⟩ := get_of hr (show 0 < rs.size by omega)
        obtain ⟨c1, hc1, hg1⟩ := get_of hr (show 1 < rs.size by omega)
        obtain rfl : c0 = a := by simpa using hc0.symm
        have ha' : ((c0.toNat : Int) == 46) = false := by have := ne_int ha; rw [show ((46 : UInt8).toNat : Int) = 46 from rfl] at this; exact this
        obtain rfl : c1 = b := by simpa using hc1.symm
        clear hc0 hc1 hr hD
        go_quiet (fail)
        go_wp2_with (go_at_call 78; refine (hP' _ (below_drewN' hb2 _)).mono ?_; clear hP'; rintro e w4 ⟨rfl, hb4⟩; have y4 := (hb4.block (w.heap.size + 1) (by simp)).trans y2; obtain ⟨x0, x1, x2, x3, x4, xf⟩ := box5 y4)
        obtain ⟨W, hW, hx5, -, hB⟩ := set5 y4 (.int .i64 0) (.string ⟨#[]⟩) (.int .i64 0) (.bool false) (.bool false) (bel (below_drewN' hb2 _) hb4) (Nat.le_succ _)
        rw [← hW]
        obtain ⟨f0, f1, f2, f3, f4, -⟩ := box5 hx5
        exact bodyPost_ret (v := .tuple #[.agg #[.int .i64 0, .string ⟨#[]⟩, .int .i64 0, .bool false, .bool false], .int .i64 0, .int .i64 2]) (by simp [results, Tryz.f60, go_sem, f0, f1, f2, f3, f4]) rfl ⟨rfl, hB⟩
      · have hv : (match pu with | .ok u => if 9223372036854775808 < u then Res.bad 2 else .tok ⟨3, [], IntKind.i64.wrap u, false, false⟩ d | _ => .bad 2) = .bad 2 := by rw [hu]
        rw [hv]
        have hP' := fun (W : World) (hW : Below w.heap.size w W) => parse_range (hP W hW) hu
        clear hP hv split hpu
        go_enter Tryz.func60, Tryz.ntmps60
        go_wp2_with fail
        generalize s.extract d s.size = rs at hr ⊢
        have hsz : (1 : Int) < (rs.size : Int) := by have := len_of hr; simp at this; omega
        obtain ⟨c0, hc0, hg0⟩ := get_of hr (show 0 < rs.size by omega)
        obtain ⟨c1, hc1, hg1⟩ := get_of hr (show 1 < rs.size by omega)
        obtain rfl : c0 = a := by simpa using hc0.symm
        have ha' : ((c0.toNat : Int) == 46) = false := by have := ne_int ha; rw [show ((46 : UInt8).toNat : Int) = 46 from rfl] at this; exact this
        obtain rfl : c1 = b := by simpa using hc1.symm
        clear hc0 hc1 hr hD
        go_quiet (fail)
        go_wp2_with (go_at_call 78; refine (hP' _ (below_drewN' hb2 _)).mono ?_; clear hP'; rintro e w4 ⟨tp, p, rfl, hb4⟩; have y4 := (hb4.block (w.heap.size + 1) (by simp)).trans y2; obtain ⟨x0, x1, x2, x3, x4, xf⟩ := box5 y4)
        obtain ⟨W, hW, hx5, -, hB⟩ := set5 y4 (.int .i64 0) (.string ⟨#[]⟩) (.int .i64 0) (.bool false) (.bool false) (bel (below_drewN' hb2 _) hb4) (Nat.le_succ _)
        rw [← hW]
        obtain ⟨f0, f1, f2, f3, f4, -⟩ := box5 hx5
        exact bodyPost_ret (v := .tuple #[.agg #[.int .i64 0, .string ⟨#[]⟩, .int .i64 0, .bool false, .bool false], .int .i64 0, .int .i64 2]) (by simp [results, Tryz.f60, go_sem, f0, f1, f2, f3, f4]) rfl ⟨rfl, hB⟩

end Go.Proofs.YtfencolokfghfaaGreatDoor
