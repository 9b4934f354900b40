/-
  take, need, isBare's users: beginsOperand, infix; number.
-/
import Derived.Test.YtfencolokfghfaaGreatDoorReadA
namespace Go.Proofs.YtfencolokfghfaaGreatDoor
open Go.RowKit Go.Maps
set_option linter.unusedVariables false
set_option linter.unusedSectionVars false

section
variable (c : Cx) (hc : c.Ok) {W : World} {na : Option Addr} {nc i d : Nat} {ns : Nms} (h : PAt c W na nc i d ns)
include hc h
/-- p.at++ -/
theorem step_at (hi : i < c.L.length) : PAt c (W.setCell ⟨c.b, 1, none⟩ (.int .i64 ((i : Int) + 1))) na nc (i + 1) d ns ∧ Fr c W na (W.setCell ⟨c.b, 1, none⟩ (.int .i64 ((i : Int) + 1))) na :=
  h.set hc 1 _ (i' := i + 1) (d' := d) (by simp) (by omega) (by have := h.nle; omega) h.dle
set_option maxRecDepth 100000 in
theorem take_yes (s : ByteArray) (l : List UInt8) (hs : s.data.toList = l) (hp : isP (ahd c.L i) l = true) : Calls Tryz.prog 121 #[.pointer (some ⟨c.b, 0, none⟩), .string s] W fun e W' => e = .returned (.bool true) ∧ PAt c W' na nc (i + 1) d ns ∧ Fr c W na W' na := by
  have hi := (isP_lt hp).1
  have ha := ahead_at c hc h 0 (by omega)
  rw [Nat.add_zero] at ha
  have hq := fun W' => isPunct_at (ahd c.L i) s l hs W'
  rw [hp] at hq
  have hlen := hc.len
  have hii : (i : Int) < 4096 := by omega
  have hnot : ∀ (x : Bool) (w : World), (Op.unary .not (.bool x)).run Tryz.prog w = .ok (.bool (!x)) w := fun _ _ => rfl
  go_enter Tryz.func121, Tryz.ntmps121
  go_wp2_with (first | (go_at_call 67; refine ha.mono ?_; rintro e W1 ⟨rfl, hb1⟩) | (go_at_call 106; refine (hq _).mono ?_; rintro e W2 ⟨rfl, hb2⟩; have h2 := (h.later hc hb1).later hc hb2; obtain ⟨c0, c1, c2, c3, c4, c5, cf⟩ := h2.cells))
  go_ret
  have h3 := step_at c hc h2 hi
  exact ⟨rfl, h3.1, ((Fr.below hb1).trans (Fr.below hb2)).trans h3.2⟩
set_option maxRecDepth 100000 in
theorem take_no (s : ByteArray) (l : List UInt8) (hs : s.data.toList = l) (hp : isP (ahd c.L i) l = false) : Calls Tryz.prog 121 #[.pointer (some ⟨c.b, 0, none⟩), .string s] W fun e W' => e = .returned (.bool false) ∧ PAt c W' na nc i d ns ∧ Fr c W na W' na := by
  have ha := ahead_at c hc h 0 (by omega)
  rw [Nat.add_zero] at ha
  have hq := fun W' => isPunct_at (ahd c.L i) s l hs W'
  rw [hp] at hq
  have hnot : ∀ (x : Bool) (w : World), (Op.unary .not (.bool x)).run Tryz.prog w = .ok (.bool (!x)) w := fun _ _ => rfl
  go_enter Tryz.func121, Tryz.ntmps121
  go_wp2_with (first | (go_at_call 67; refine ha.mono ?_; rintro e W1 ⟨rfl, hb1⟩) | (go_at_call 106; refine (hq _).mono ?_; rintro e W2 ⟨rfl, hb2⟩; have h2 := (h.later hc hb1).later hc hb2))
  go_ret
  exact ⟨rfl, h2, ((Fr.below hb1).trans (Fr.below hb2))⟩
set_option maxRecDepth 100000 in
theorem need_yes (s : ByteArray) (l : List UInt8) (hs : s.data.toList = l) (hp : isP (ahd c.L i) l = true) : Calls Tryz.prog 122 #[.pointer (some ⟨c.b, 0, none⟩), .string s] W fun e W' => e = .returned (.tuple #[]) ∧ PAt c W' na nc (i + 1) d ns ∧ Fr c W na W' na := by
  have ht := take_yes c hc h s l hs hp
  have hnot : ∀ (x : Bool) (w : World), (Op.unary .not (.bool x)).run Tryz.prog w = .ok (.bool (!x)) w := fun _ _ => rfl
  go_enter Tryz.func122, Tryz.ntmps122
  go_wp2_with (go_at_call 121; refine ht.mono ?_; rintro e W1 ⟨rfl, h1, h2⟩)
  go_end0
  exact ⟨rfl, h1, h2⟩
set_option maxRecDepth 100000 in
theorem need_no (s : ByteArray) (l : List UInt8) (hs : s.data.toList = l) (hp : isP (ahd c.L i) l = false) : Calls Tryz.prog 122 #[.pointer (some ⟨c.b, 0, none⟩), .string s] W fun e W' => e = faultE i 4 ∧ Kp c W na W' := by
  have ht := take_no c hc h s l hs hp
  have hf := fun W' (h' : PAt c W' na nc i d ns) => fail_at c hc h' 4
  have hnot : ∀ (x : Bool) (w : World), (Op.unary .not (.bool x)).run Tryz.prog w = .ok (.bool (!x)) w := fun _ _ => rfl
  go_enter Tryz.func122, Tryz.ntmps122
  go_wp2_with (first | (go_at_call 121; refine ht.mono ?_; rintro e W1 ⟨rfl, h1, h2⟩) | (go_at_call 68; refine (hf _ h1).mono ?_; rintro e W2 ⟨he, rfl⟩; unfold faultE at he; subst he))
  exact ⟨rfl, rfl, h2.kp h1.bel⟩
end

/-- The blocks that stay and are new. -/
def Nw (c : Cx) (W0 W : World) (na : Option Addr) (j : Nat) : Prop := c.stays W na j ∧ W0.heap.size ≤ j
section
variable {c : Cx} (hc : c.Ok) {W W' : World} {na na' : Option Addr} {nc nc' i i' d d' : Nat} {ns ns' : Nms}
include hc
theorem PAt.new (h : PAt c W na nc i d ns) (hs : W.heap.size ≤ W'.heap.size) {j : Nat} (h1 : W.heap.size ≤ j) (h2 : j < W'.heap.size) : c.stays W' na j := by
  obtain ⟨f1, f2, f3⟩ := h.form hc
  exact ⟨h2, by omega, by omega, fun a ha => by have := (f1 a ha).2.2.2; omega⟩
theorem PAt.fresh (h : PAt c W na nc i d ns) (cs : Array Value) (t : TypeId) : PAt c (W.alloc (.cells cs t)) na nc i d ns ∧ c.stays (W.alloc (.cells cs t)) na W.heap.size ∧ (W.alloc (.cells cs t)).heap[W.heap.size]? = some (.cells cs t (0, 0)) ∧ Fr c W na (W.alloc (.cells cs t)) na :=
  ⟨h.later hc ((Below.refl _ _).alloc (Nat.le_refl _) _), h.new hc (by simp) (Nat.le_refl _) (by simp), alloc_new _ _, (Fr.refl _ _ _).alloc _⟩
theorem PAt.box4 (h : PAt c W' na' nc i d ns) (h0 : PAt c W na nc' i' d' ns') (f : Fr c W na W' na') {B : Nat} (hB : W.heap.size ≤ B) (hs : c.stays W' na' B) {a0 a1 a2 a3 : Value} {t : TypeId} (hx : W'.heap[B]? = some (.cells #[a0, a1, a2, a3] t (0, 0))) (v0 v1 v2 v3 : Value) :
    ∃ Z, Z = ((((W'.setCell ⟨B, 0, none⟩ v0).setCell ⟨B, 1, none⟩ v1).setCell ⟨B, 2, none⟩ v2).setCell ⟨B, 3, none⟩ v3) ∧ Z.heap[B]? = some (.cells #[v0, v1, v2, v3] t (0, 0)) ∧ PAt c Z na' nc i d ns ∧ Fr c W na Z na' ∧ (∀ j, j ≠ B → Z.heap[j]? = W'.heap[j]?) ∧ Z.heap.size = W'.heap.size := by
  have hw : c.w0.heap.size ≤ B := Nat.le_trans h0.bel.size hB
  have s1 : ∀ (X : World) j v, c.stays X na' B → c.stays (X.setCell ⟨B, j, none⟩ v) na' B := fun X j v hh => ⟨by simpa using hh.1, hh.2⟩
  refine ⟨_, rfl, four_block hx v0 v1 v2 v3, ?_, ((((f.put hB 0 v0).put hB 1 v1).put hB 2 v2).put hB 3 v3), fun j hj => ?_, by simp⟩
  · exact (((h.put hc hs hw 0 v0).put hc (s1 _ _ _ hs) hw 1 v1).put hc (s1 _ _ _ (s1 _ _ _ hs)) hw 2 v2).put hc (s1 _ _ _ (s1 _ _ _ (s1 _ _ _ hs))) hw 3 v3
  · rw [Below.heap_setCell _ ⟨B, 3, none⟩ _ _ hj, Below.heap_setCell _ ⟨B, 2, none⟩ _ _ hj, Below.heap_setCell _ ⟨B, 1, none⟩ _ _ hj, Below.heap_setCell _ ⟨B, 0, none⟩ _ _ hj]
end
theorem NewTm.form4 {w w' : World} {T : Tm} {e : Ending} (h : NewTm w T e w') : ∃ k n s a l cp, e = .returned (.agg #[.int .i64 k, .int .i64 n, .string s, .slice a l cp]) ∧ TmIn (fun b => w.heap.size ≤ b ∧ b < w'.heap.size) w' (.agg #[.int .i64 k, .int .i64 n, .string s, .slice a l cp]) T ∧ Below w.heap.size w w' := by
  obtain ⟨r, rfl, hr, hb⟩ := h
  obtain ⟨k, n, s, a, len, cap, ks, rfl, -⟩ := hr.form
  exact ⟨k, n, s, a, len, cap, rfl, hr, hb⟩
theorem Fr.box {c : Cx} {W W' : World} {na na' : Option Addr} (f : Fr c W na W' na') {B : Nat} (hs : c.stays W na B) {a0 a1 a2 a3 : Value} {t : TypeId} (hx : W.heap[B]? = some (.cells #[a0, a1, a2, a3] t (0, 0))) :
    c.stays W' na' B ∧ W'.heap[B]? = some (.cells #[a0, a1, a2, a3] t (0, 0)) ∧ W'.cell? ⟨B, 0, none⟩ = some a0 ∧ W'.cell? ⟨B, 1, none⟩ = some a1 ∧ W'.cell? ⟨B, 2, none⟩ = some a2 ∧ W'.cell? ⟨B, 3, none⟩ = some a3 ∧ ∀ j, W'.frozen? ⟨B, j, none⟩ = false := by
  obtain ⟨e, hs'⟩ := f.keep B hs
  rw [hx] at e
  refine ⟨hs', e, ?_, ?_, ?_, ?_, fun j => ?_⟩ <;> simp [World.cell?, World.frozen?, e]
/-- A term that was made ahead of a store into another block. -/
theorem tm_box {c : Cx} {W W1 W' Z : World} {na : Option Addr} {v : Value} {T : Tm} {B : Nat} (ht : TmIn (Nw c W1 W' na) W' v T) (hB : B < W1.heap.size) (hs : W.heap.size ≤ W1.heap.size) (hz : ∀ j, j ≠ B → Z.heap[j]? = W'.heap[j]?) (hsz : Z.heap.size = W'.heap.size) : TmIn (Nw c W Z na) Z v T :=
  ht.carry (fun j hj => hz j (by have := hj.2; omega)) (fun j hj => ⟨⟨by rw [hsz]; exact hj.1.1, hj.1.2⟩, Nat.le_trans hs hj.2⟩)
/-- What reading a term comes to, in memory. -/
def TPost (c : Cx) (W : World) (na : Option Addr) (d : Nat) (T : Tm) (i' : Nat) (ns' : Nms) (e : Ending) (W' : World) : Prop :=
  ∃ na' nc' k n s a l cp, e = .returned (.agg #[.int .i64 k, .int .i64 n, .string s, .slice a l cp]) ∧ PAt c W' na' nc' i' d ns' ∧ Fr c W na W' na' ∧ TmIn (Nw c W W' na') W' (.agg #[.int .i64 k, .int .i64 n, .string s, .slice a l cp]) T
/-- .. or an error. -/
def OPost (c : Cx) (W : World) (na : Option Addr) (d : Nat) : Out Tm → Ending → World → Prop
  | .ok T i' ns', e, W' => TPost c W na d T i' ns' e W'
  | .bad i' code, e, W' => e = faultE i' code ∧ Kp c W na W'
section
variable (c : Cx) (hc : c.Ok) {W : World} {na : Option Addr} {nc i d : Nat} {ns : Nms} (h : PAt c W na nc i d ns)
include hc h
theorem new_tm {W' : World} {v : Value} {T : Tm} (hs : W.heap.size ≤ W'.heap.size) (ht : TmIn (fun b => W.heap.size ≤ b ∧ b < W'.heap.size) W' v T) : TmIn (Nw c W W' na) W' v T :=
  ht.carry (fun _ _ => rfl) (fun j hj => ⟨h.new hc hs hj.1 hj.2, hj.1⟩)
omit hc h in
theorem field0 (a0 a1 a2 a3 a4 : Value) (w : World) : (Instr.field 87 (.agg #[a0, a1, a2, a3, a4]) 0).run Tryz.prog w = .ok a0 w := by kernel_rfl
omit hc h in
theorem field1 (a0 a1 a2 a3 a4 : Value) (w : World) : (Instr.field 87 (.agg #[a0, a1, a2, a3, a4]) 1).run Tryz.prog w = .ok a1 w := by kernel_rfl
omit hc h in
theorem field2 (a0 a1 a2 a3 a4 : Value) (w : World) : (Instr.field 87 (.agg #[a0, a1, a2, a3, a4]) 2).run Tryz.prog w = .ok a2 w := by kernel_rfl
set_option maxRecDepth 100000 in
set_option maxHeartbeats 1000000 in
theorem number_yes (hk : (ahd c.L i).kind = 3) (hn : ¬ (ahd c.L i).n < 0) : Calls Tryz.prog 101 #[.pointer (some ⟨c.b, 0, none⟩)] W (TPost c W na d (.mk 2 (ahd c.L i).n empB []) (i + 1) ns) := by
  have hi : i < c.L.length := ahd_lt (by rw [hk]; decide)
  clear hk
  have hlen := hc.len
  have hii : (i : Int) < 4096 := by omega
  have hnn : i64ok (ahd c.L i).n := (hc.tok _ (by unfold ahd; rw [List.getD_eq_getElem?_getD, List.getElem?_eq_getElem hi]; exact List.getElem_mem hi)).1
  obtain ⟨W1, hW1⟩ : ∃ W1, W1 = W.alloc (.cells #[.int .i64 0, .int .i64 0, .string (ByteArray.mk #[]), .slice none 0 0] 24) := ⟨_, rfl⟩
  obtain ⟨h1, s1, x1, f1⟩ := h.fresh hc #[.int .i64 0, .int .i64 0, .string (ByteArray.mk #[]), .slice none 0 0] 24
  rw [← hW1] at h1 s1 x1 f1
  have ha := ahead_at c hc h1 0 (by omega)
  rw [Nat.add_zero] at ha
  have hz := zeroTerm
  have hm := fun w => num_at (ahd c.L i).n w hnn
  have hf2 := field2
  go_enter Tryz.func101, Tryz.ntmps101
  go_wp2_with (first
    | (rw [← hW1]; go_at_call 67; refine ha.mono ?_; rintro e W2 ⟨rfl, hb2⟩; have h2 := h1.later hc hb2; obtain ⟨c0, c1, c2, c3, c4, c5, cf⟩ := h2.cells)
    | (go_at_call 18; refine (hm _).mono ?_; rintro e W4 h4; obtain ⟨k, n, s, a, l, cp, rfl, hT, hb4⟩ := h4.form4; have h3 := step_at c hc h2 hi; have h5 := h3.1.later hc hb4; have f5 := ((Fr.below (c := c) (na := na) hb2).trans h3.2).trans (Fr.below hb4); obtain ⟨s5, x5, z0, z1, z2, z3, zf⟩ := f5.box s1 x1))
  obtain ⟨Z, hZ, hzb, hP, hF, hkp, hsz⟩ := h5.box4 hc h (f1.trans f5) (Nat.le_refl _) s5 x5 (.int .i64 k) (.int .i64 n) (.string s) (.slice a l cp)
  obtain ⟨y0, y1, y2, y3⟩ := tbox_cells hzb
  rw [← hZ]
  refine bodyPost_ret (v := .agg #[.int .i64 k, .int .i64 n, .string s, .slice a l cp]) (by simp [results, Tryz.f101, go_sem, y0, y1, y2, y3]) rfl ?_
  have e3 : W.heap.size < (W2.setCell ⟨c.b, 1, none⟩ (.int .i64 ((i : Int) + 1))).heap.size := Nat.lt_of_lt_of_le s1.1 (Nat.le_trans hb2.size h3.2.size)
  exact ⟨na, nc, k, n, s, a, l, cp, rfl, hP, hF, tm_box (new_tm c hc h3.1 hb4.size hT) e3 (Nat.le_of_lt e3) hkp hsz⟩
set_option maxRecDepth 100000 in
set_option maxHeartbeats 1000000 in
theorem number_no (hk : (ahd c.L i).kind = 3) (hn : (ahd c.L i).n < 0) : Calls Tryz.prog 101 #[.pointer (some ⟨c.b, 0, none⟩)] W fun e W' => e = faultE i 2 ∧ Kp c W na W' := by
  obtain ⟨W1, hW1⟩ : ∃ W1, W1 = W.alloc (.cells #[.int .i64 0, .int .i64 0, .string (ByteArray.mk #[]), .slice none 0 0] 24) := ⟨_, rfl⟩
  obtain ⟨h1, s1, x1, f1⟩ := h.fresh hc #[.int .i64 0, .int .i64 0, .string (ByteArray.mk #[]), .slice none 0 0] 24
  rw [← hW1] at h1 s1 x1 f1
  have ha := ahead_at c hc h1 0 (by omega)
  rw [Nat.add_zero] at ha
  have hz := zeroTerm
  have hf := fun W' (h' : PAt c W' na nc i d ns) => fail_at c hc h' 2
  have hf2 := field2
  go_enter Tryz.func101, Tryz.ntmps101
  go_wp2_with (first
    | (rw [← hW1]; go_at_call 67; refine ha.mono ?_; rintro e W2 ⟨rfl, hb2⟩; have h2 := h1.later hc hb2)
    | (go_at_call 68; refine (hf _ h2).mono ?_; rintro e W4 ⟨he, rfl⟩; unfold faultE at he; subst he))
  exact ⟨rfl, rfl, (f1.trans (Fr.below hb2)).kp h2.bel⟩
theorem rnumber_at (hk : (ahd c.L i).kind = 3) : Calls Tryz.prog 101 #[.pointer (some ⟨c.b, 0, none⟩)] W (OPost c W na d (numG c.L i ns)) := by
  unfold numG
  by_cases hn : (ahd c.L i).n < 0
  · rw [if_pos hn]; exact number_no c hc h hk hn
  · rw [if_neg hn]; exact number_yes c hc h hk hn
end
end Go.Proofs.YtfencolokfghfaaGreatDoor
