/-
  named: what begins with a name.
-/
import Derived.Test.YtfencolokfghfaaGreatDoorReadI
import Derived.Deep.Cut
namespace Go.Proofs.YtfencolokfghfaaGreatDoor
open Go.RowKit Go.Maps
set_option linter.unusedVariables false
set_option linter.unusedSectionVars false

/-- What a primary comes to, in memory. -/
def NPost (c : Cx) (W : World) (na : Option Addr) (d : Nat) : Out (Tm × Nat) → Ending → World → Prop
  | .ok (T, pri) i' ns', e, W' => ∃ na' nc' k n s a l cp, e = .returned (.tuple #[.agg #[.int .i64 k, .int .i64 n, .string s, .slice a l cp], .int .i64 pri]) ∧ PAt c W' na' nc' i' d ns' ∧ Fr c W na W' na' ∧ TmIn (Nw c W W' na') W' (.agg #[.int .i64 k, .int .i64 n, .string s, .slice a l cp]) T
  | .bad i' code, e, W' => e = faultE i' code ∧ Kp c W na W'

theorem Fr.box5 {c : Cx} {W W' : World} {na na' : Option Addr} (f : Fr c W na W' na') {B : Nat} (hs : c.stays W na B) {a0 a1 a2 a3 a4 : Value} {t : TypeId} (hx : W.heap[B]? = some (.cells #[a0, a1, a2, a3, a4] t (0, 0))) :
    W'.cell? ⟨B, 0, none⟩ = some a0 ∧ W'.cell? ⟨B, 1, none⟩ = some a1 ∧ W'.cell? ⟨B, 2, none⟩ = some a2 ∧ W'.cell? ⟨B, 3, none⟩ = some a3 ∧ W'.cell? ⟨B, 4, none⟩ = some a4 := by
  obtain ⟨e, hs'⟩ := f.keep B hs
  rw [hx] at e
  refine ⟨?_, ?_, ?_, ?_, ?_⟩ <;> simp [World.cell?, e]

theorem Fr.tsN {c : Cx} {W0 W W' : World} {na na' : Option Addr} (h : Fr c W na W' na') {v : Value} {T : List Tm} (t : TsIn (Nw c W0 W na) W v T) : TsIn (Nw c W0 W' na') W' v T := t.carry (fun j hj => (h.keep j hj.1).1) (fun j hj => ⟨(h.keep j hj.1).2, hj.2⟩)
section
variable (c : Cx) (hc : c.Ok) {W : World} {na : Option Addr} {nc i d : Nat} {ns : Nms} (h : PAt c W na nc i d ns) {r : Rdr} (hr : RAt c d r) (h7 : Reads7 c.L r)
include hc h
/-- The parser behind the name, with both tokens in boxes. -/
theorem named_state {W1 W3 : World} (h1 : PAt c W1 na nc i d ns) (hb : Below W1.heap.size W1 W3) (hi : i < c.L.length) (v0 v1 v2 v3 v4 u0 u1 u2 u3 u4 : Value) : ∃ S, S = ((W3.alloc (.cells #[v0, v1, v2, v3, v4] 87)).alloc (.cells #[u0, u1, u2, u3, u4] 87)).setCell ⟨c.b, 1, none⟩ (.int .i64 ((i : Int) + 1)) ∧
    PAt c S na nc (i + 1) d ns ∧ Fr c W1 na S na ∧ c.stays S na W3.heap.size ∧ c.stays S na (W3.heap.size + 1) ∧ S.heap[W3.heap.size]? = some (.cells #[v0, v1, v2, v3, v4] 87 (0, 0)) ∧ S.heap[W3.heap.size + 1]? = some (.cells #[u0, u1, u2, u3, u4] 87 (0, 0)) ∧ S.heap.size = W3.heap.size + 2 ∧
    ((W3.alloc (.cells #[v0, v1, v2, v3, v4] 87)).alloc (.cells #[u0, u1, u2, u3, u4] 87)).cell? ⟨c.b, 1, none⟩ = some (.int .i64 i) ∧ (∀ j, ((W3.alloc (.cells #[v0, v1, v2, v3, v4] 87)).alloc (.cells #[u0, u1, u2, u3, u4] 87)).frozen? ⟨c.b, j, none⟩ = false) := by
  have h3 := h1.later hc hb
  obtain ⟨h4, s4, x4, f4⟩ := h3.fresh hc #[v0, v1, v2, v3, v4] 87
  obtain ⟨h5, s5, x5, f5⟩ := h4.fresh hc #[u0, u1, u2, u3, u4] 87
  obtain ⟨h6, f6⟩ := step_at c hc h5 hi
  have e : (W3.alloc (.cells #[v0, v1, v2, v3, v4] 87)).heap.size = W3.heap.size + 1 := by simp
  rw [e] at s5 x5
  obtain ⟨e4, s4'⟩ := (f5.trans f6).keep _ s4
  obtain ⟨e5, s5'⟩ := f6.keep _ s5
  exact ⟨_, rfl, h6, (Fr.below hb).trans (f4.trans (f5.trans f6)), s4', s5', e4.trans x4, e5.trans x5, by simp, h5.cells.2.1, h5.cells.2.2.2.2.2.2⟩
-- NAMED
set_option maxRecDepth 100000 in
set_option maxHeartbeats 4000000 in
theorem named_call_bad1 (most : Nat) (hk : (ahd c.L i).kind = 1) (hti : (ahd c.L (i + 1)).tight = true) (hp : isP (ahd c.L (i + 1)) [40] = true) (hr : RAt c d r) (h7 : Reads7 c.L r) {i' : Nat} {code : Int} (hA : argsG c.L r (i + 2) ns = .bad i' code) :
    Calls Tryz.prog 104 #[.pointer (some ⟨c.b, 0, none⟩), .int .i64 most] W fun e W' => e = faultE (i') (code) ∧ Kp c W na W' := by
  have hi : i < c.L.length := ahd_lt (by rw [hk]; decide)
  have htk : ∀ j, j < c.L.length → i64ok (ahd c.L j).n ∧ (ahd c.L j).s.length ≤ 4096 := fun j hj => hc.tok _ (by unfold ahd; rw [List.getD_eq_getElem?_getD, List.getElem?_eq_getElem hj]; exact List.getElem_mem hj)
  have hsl := (htk i hi).2
  have hlen := hc.len
  have hii : (i : Int) < 4096 := by omega
  obtain ⟨W1, hW1⟩ : ∃ W1, W1 = W.alloc (.cells #[.int .i64 0, .int .i64 0, .string (ByteArray.mk #[]), .slice none 0 0] 24) := ⟨_, rfl⟩
  obtain ⟨h1, s1, x1, f1⟩ := h.fresh hc #[.int .i64 0, .int .i64 0, .string (ByteArray.mk #[]), .slice none 0 0] 24
  rw [← hW1] at h1 s1 x1 f1
  have hw1 : W1.heap.size = W.heap.size + 1 := by rw [hW1]; simp
  have ha0 := ahead_at c hc h1 0 (by omega)
  rw [Nat.add_zero] at ha0
  have ha1 := fun W' (h' : PAt c W' na nc i d ns) => ahead_at c hc h' 1 (Nat.le_refl _)
  have hz := zeroTerm
  have hzt : ∀ w, (zeroValue 87).run Tryz.prog w = .ok (.agg #[.int .i64 0, .string ⟨#[]⟩, .int .i64 0, .bool false, .bool false]) w := fun w => by kernel_rfl
  have hnot : ∀ (x : Bool) (w : World), (Op.unary .not (.bool x)).run Tryz.prog w = .ok (.bool (!x)) w := fun _ _ => rfl
  have ht := fun W' (h' : PAt c W' na nc (i + 1) d ns) => take_yes c hc h' (ByteArray.mk #[40]) [40] rfl hp
  have hargs := fun W' (h' : PAt c W' na nc (i + 1 + 1) d ns) => arguments_at c hc h' hr h7
  rw [hA] at hargs
  unfold APost at hargs
  clear hA
  generalize ahd c.L i = t0 at *
  generalize ahd c.L (i + 1) = t1 at *
  obtain ⟨kd0, sn0, nn0, qt0, tt0⟩ := t0
  obtain ⟨kd1, sn1, nn1, qt1, tt1⟩ := t1
  dsimp only at *
  subst hk
  subst hti
  go_enter Tryz.func104, Tryz.ntmps104
  go_upto_region 3 with (first
    | (rw [← hW1]; go_at_call 67; refine ha0.mono ?_; rintro e W2 ⟨rfl, hb2⟩; have h2 := h1.later hc hb2)
    | (go_at_call 67; refine (ha1 _ h2).mono ?_; rintro e W3 ⟨rfl, hb3⟩; obtain ⟨S, hS, hcur, f0, s6, s7, x6, x7, hszS, q1, qf⟩ := named_state c hc h h1 (bel hb2 hb3) hi (.int .i64 1) (.string (strV sn0)) (.int .i64 nn0) (.bool qt0) (.bool tt0) (.int .i64 kd1) (.string (strV sn1)) (.int .i64 nn1) (.bool qt1) (.bool true)))
  rw [← hS]
  have fcur := Fr.refl c S na
  obtain ⟨m0, m1, m2, m3, m4⟩ := fcur.box5 s6 x6
  obtain ⟨p0, p1, p2, p3, p4⟩ := fcur.box5 s7 x7
  clear q1 qf hS
  go_wp2_with (first
    | (go_at_call 121; refine (ht _ hcur).mono ?_; rintro e W5 ⟨rfl, h5, f5⟩; replace fcur := fcur.trans f5; replace hcur := h5; obtain ⟨m0, m1, m2, m3, m4⟩ := fcur.box5 s6 x6; obtain ⟨p0, p1, p2, p3, p4⟩ := fcur.box5 s7 x7)
    | (go_at_call 124; refine (hargs _ hcur).mono ?_; rintro e W6 ⟨he, hK⟩; unfold faultE at he; subst he))
  exact ⟨rfl, rfl, (f1.trans (f0.trans fcur)).kpt hK⟩
set_option maxRecDepth 100000 in
set_option maxHeartbeats 4000000 in
theorem named_call_bad2 (most : Nat) (hk : (ahd c.L i).kind = 1) (hti : (ahd c.L (i + 1)).tight = true) (hp : isP (ahd c.L (i + 1)) [40] = true) (hr : RAt c d r) (h7 : Reads7 c.L r) {ts : List Tm} {i1 : Nat} {ns1 : Nms} (hA : argsG c.L r (i + 2) ns = .ok ts i1 ns1) (hq : isP (ahd c.L i1) [41] = false) :
    Calls Tryz.prog 104 #[.pointer (some ⟨c.b, 0, none⟩), .int .i64 most] W fun e W' => e = faultE (i1) (4) ∧ Kp c W na W' := by
  have hi : i < c.L.length := ahd_lt (by rw [hk]; decide)
  have htk : ∀ j, j < c.L.length → i64ok (ahd c.L j).n ∧ (ahd c.L j).s.length ≤ 4096 := fun j hj => hc.tok _ (by unfold ahd; rw [List.getD_eq_getElem?_getD, List.getElem?_eq_getElem hj]; exact List.getElem_mem hj)
  have hsl := (htk i hi).2
  have hlen := hc.len
  have hii : (i : Int) < 4096 := by omega
  obtain ⟨W1, hW1⟩ : ∃ W1, W1 = W.alloc (.cells #[.int .i64 0, .int .i64 0, .string (ByteArray.mk #[]), .slice none 0 0] 24) := ⟨_, rfl⟩
  obtain ⟨h1, s1, x1, f1⟩ := h.fresh hc #[.int .i64 0, .int .i64 0, .string (ByteArray.mk #[]), .slice none 0 0] 24
  rw [← hW1] at h1 s1 x1 f1
  have hw1 : W1.heap.size = W.heap.size + 1 := by rw [hW1]; simp
  have ha0 := ahead_at c hc h1 0 (by omega)
  rw [Nat.add_zero] at ha0
  have ha1 := fun W' (h' : PAt c W' na nc i d ns) => ahead_at c hc h' 1 (Nat.le_refl _)
  have hz := zeroTerm
  have hzt : ∀ w, (zeroValue 87).run Tryz.prog w = .ok (.agg #[.int .i64 0, .string ⟨#[]⟩, .int .i64 0, .bool false, .bool false]) w := fun w => by kernel_rfl
  have hnot : ∀ (x : Bool) (w : World), (Op.unary .not (.bool x)).run Tryz.prog w = .ok (.bool (!x)) w := fun _ _ => rfl
  have ht := fun W' (h' : PAt c W' na nc (i + 1) d ns) => take_yes c hc h' (ByteArray.mk #[40]) [40] rfl hp
  have hargs := fun W' (h' : PAt c W' na nc (i + 1 + 1) d ns) => arguments_at c hc h' hr h7
  rw [hA] at hargs
  unfold APost at hargs
  have hne := fun W' na' nc' (h' : PAt c W' na' nc' i1 d ns1) => need_no c hc h' (ByteArray.mk #[41]) [41] rfl hq
  clear hA hq
  generalize ahd c.L i = t0 at *
  generalize ahd c.L (i + 1) = t1 at *
  obtain ⟨kd0, sn0, nn0, qt0, tt0⟩ := t0
  obtain ⟨kd1, sn1, nn1, qt1, tt1⟩ := t1
  dsimp only at *
  subst hk
  subst hti
  go_enter Tryz.func104, Tryz.ntmps104
  go_upto_region 3 with (first
    | (rw [← hW1]; go_at_call 67; refine ha0.mono ?_; rintro e W2 ⟨rfl, hb2⟩; have h2 := h1.later hc hb2)
    | (go_at_call 67; refine (ha1 _ h2).mono ?_; rintro e W3 ⟨rfl, hb3⟩; obtain ⟨S, hS, hcur, f0, s6, s7, x6, x7, hszS, q1, qf⟩ := named_state c hc h h1 (bel hb2 hb3) hi (.int .i64 1) (.string (strV sn0)) (.int .i64 nn0) (.bool qt0) (.bool tt0) (.int .i64 kd1) (.string (strV sn1)) (.int .i64 nn1) (.bool qt1) (.bool true)))
  rw [← hS]
  have fcur := Fr.refl c S na
  obtain ⟨m0, m1, m2, m3, m4⟩ := fcur.box5 s6 x6
  obtain ⟨p0, p1, p2, p3, p4⟩ := fcur.box5 s7 x7
  clear q1 qf hS
  go_wp2_with (first
    | (go_at_call 121; refine (ht _ hcur).mono ?_; rintro e W5 ⟨rfl, h5, f5⟩; replace fcur := fcur.trans f5; replace hcur := h5; obtain ⟨m0, m1, m2, m3, m4⟩ := fcur.box5 s6 x6; obtain ⟨p0, p1, p2, p3, p4⟩ := fcur.box5 s7 x7)
    | (go_at_call 124; refine (hargs _ hcur).mono ?_; rintro e W6 ⟨na6, nc6, ka, kc, rfl, h6, f6, hts⟩; have hs56 := fcur.size; replace fcur := fcur.trans f6; replace hcur := h6; obtain ⟨m0, m1, m2, m3, m4⟩ := fcur.box5 s6 x6; obtain ⟨p0, p1, p2, p3, p4⟩ := fcur.box5 s7 x7)
    | (go_at_call 122; refine (hne _ _ _ hcur).mono ?_; rintro e W7 ⟨he, hK⟩; unfold faultE at he; subst he))
  exact ⟨rfl, rfl, (f1.trans (f0.trans fcur)).kpt hK⟩
set_option maxRecDepth 100000 in
set_option maxHeartbeats 4000000 in
theorem named_call_bad3 (most : Nat) (hk : (ahd c.L i).kind = 1) (hti : (ahd c.L (i + 1)).tight = true) (hp : isP (ahd c.L (i + 1)) [40] = true) (hr : RAt c d r) (h7 : Reads7 c.L r) {ts : List Tm} {i1 : Nat} {ns1 : Nms} (hA : argsG c.L r (i + 2) ns = .ok ts i1 ns1) (hq : isP (ahd c.L i1) [41] = true) {i' : Nat} {code : Int} (hF : funG c.lv (ahd c.L i).s ts (i1 + 1) ns1 = .bad i' code) :
    Calls Tryz.prog 104 #[.pointer (some ⟨c.b, 0, none⟩), .int .i64 most] W fun e W' => e = faultE (i') (code) ∧ Kp c W na W' := by
  have hi : i < c.L.length := ahd_lt (by rw [hk]; decide)
  have htk : ∀ j, j < c.L.length → i64ok (ahd c.L j).n ∧ (ahd c.L j).s.length ≤ 4096 := fun j hj => hc.tok _ (by unfold ahd; rw [List.getD_eq_getElem?_getD, List.getElem?_eq_getElem hj]; exact List.getElem_mem hj)
  have hsl := (htk i hi).2
  have hlen := hc.len
  have hii : (i : Int) < 4096 := by omega
  obtain ⟨W1, hW1⟩ : ∃ W1, W1 = W.alloc (.cells #[.int .i64 0, .int .i64 0, .string (ByteArray.mk #[]), .slice none 0 0] 24) := ⟨_, rfl⟩
  obtain ⟨h1, s1, x1, f1⟩ := h.fresh hc #[.int .i64 0, .int .i64 0, .string (ByteArray.mk #[]), .slice none 0 0] 24
  rw [← hW1] at h1 s1 x1 f1
  have hw1 : W1.heap.size = W.heap.size + 1 := by rw [hW1]; simp
  have ha0 := ahead_at c hc h1 0 (by omega)
  rw [Nat.add_zero] at ha0
  have ha1 := fun W' (h' : PAt c W' na nc i d ns) => ahead_at c hc h' 1 (Nat.le_refl _)
  have hz := zeroTerm
  have hzt : ∀ w, (zeroValue 87).run Tryz.prog w = .ok (.agg #[.int .i64 0, .string ⟨#[]⟩, .int .i64 0, .bool false, .bool false]) w := fun w => by kernel_rfl
  have hnot : ∀ (x : Bool) (w : World), (Op.unary .not (.bool x)).run Tryz.prog w = .ok (.bool (!x)) w := fun _ _ => rfl
  have ht := fun W' (h' : PAt c W' na nc (i + 1) d ns) => take_yes c hc h' (ByteArray.mk #[40]) [40] rfl hp
  have hargs := fun W' (h' : PAt c W' na nc (i + 1 + 1) d ns) => arguments_at c hc h' hr h7
  rw [hA] at hargs
  unfold APost at hargs
  have hne := fun W' na' nc' (h' : PAt c W' na' nc' i1 d ns1) => need_yes c hc h' (ByteArray.mk #[41]) [41] rfl hq
  have hsz : Tm.sizes ts ≤ 1000000 := by
    obtain ⟨τ, g, -, -⟩ := args_seg h7 hA
    have := g.size; have := g.len; omega
  have hfun := fun W' na' nc' (h' : PAt c W' na' nc' (i1 + 1) d ns1) (p : Nat → Prop) (hp : ∀ j, p j → c.stays W' na' j) (v : Value) (hk : TsIn p W' v ts) => fun_at c hc h' (ahd c.L i).s hsl hp ts v hk hsz
  rw [hF] at hfun
  unfold FOut at hfun
  clear hA hq hF
  generalize ahd c.L i = t0 at *
  generalize ahd c.L (i + 1) = t1 at *
  obtain ⟨kd0, sn0, nn0, qt0, tt0⟩ := t0
  obtain ⟨kd1, sn1, nn1, qt1, tt1⟩ := t1
  dsimp only at *
  subst hk
  subst hti
  go_enter Tryz.func104, Tryz.ntmps104
  go_upto_region 3 with (first
    | (rw [← hW1]; go_at_call 67; refine ha0.mono ?_; rintro e W2 ⟨rfl, hb2⟩; have h2 := h1.later hc hb2)
    | (go_at_call 67; refine (ha1 _ h2).mono ?_; rintro e W3 ⟨rfl, hb3⟩; obtain ⟨S, hS, hcur, f0, s6, s7, x6, x7, hszS, q1, qf⟩ := named_state c hc h h1 (bel hb2 hb3) hi (.int .i64 1) (.string (strV sn0)) (.int .i64 nn0) (.bool qt0) (.bool tt0) (.int .i64 kd1) (.string (strV sn1)) (.int .i64 nn1) (.bool qt1) (.bool true)))
  rw [← hS]
  have fcur := Fr.refl c S na
  obtain ⟨m0, m1, m2, m3, m4⟩ := fcur.box5 s6 x6
  obtain ⟨p0, p1, p2, p3, p4⟩ := fcur.box5 s7 x7
  clear q1 qf hS
  go_wp2_with (first
    | (go_at_call 121; refine (ht _ hcur).mono ?_; rintro e W5 ⟨rfl, h5, f5⟩; replace fcur := fcur.trans f5; replace hcur := h5; obtain ⟨m0, m1, m2, m3, m4⟩ := fcur.box5 s6 x6; obtain ⟨p0, p1, p2, p3, p4⟩ := fcur.box5 s7 x7)
    | (go_at_call 124; refine (hargs _ hcur).mono ?_; rintro e W6 ⟨na6, nc6, ka, kc, rfl, h6, f6, hts⟩; have hs56 := fcur.size; replace fcur := fcur.trans f6; replace hcur := h6; obtain ⟨m0, m1, m2, m3, m4⟩ := fcur.box5 s6 x6; obtain ⟨p0, p1, p2, p3, p4⟩ := fcur.box5 s7 x7)
    | (go_at_call 122; refine (hne _ _ _ hcur).mono ?_; rintro e W7 ⟨rfl, h7', f7⟩; replace hts := f7.tsN hts; replace fcur := fcur.trans f7; replace hcur := h7'; obtain ⟨m0, m1, m2, m3, m4⟩ := fcur.box5 s6 x6; obtain ⟨p0, p1, p2, p3, p4⟩ := fcur.box5 s7 x7)
    | (go_at_call 88; refine (hfun _ _ _ hcur _ (fun j hj => hj.1) _ hts).mono ?_; rintro e W8 ⟨he, hK⟩; unfold faultE at he; subst he))
  exact ⟨rfl, rfl, (f1.trans (f0.trans fcur)).kpt hK⟩
set_option maxRecDepth 100000 in
set_option maxHeartbeats 4000000 in
theorem named_call (most : Nat) (hk : (ahd c.L i).kind = 1) (hti : (ahd c.L (i + 1)).tight = true) (hp : isP (ahd c.L (i + 1)) [40] = true) (hr : RAt c d r) (h7 : Reads7 c.L r) {ts : List Tm} {i1 : Nat} {ns1 : Nms} (hA : argsG c.L r (i + 2) ns = .ok ts i1 ns1) (hq : isP (ahd c.L i1) [41] = true) {T : Tm} {i' : Nat} {ns' : Nms} (hF : funG c.lv (ahd c.L i).s ts (i1 + 1) ns1 = .ok T i' ns') :
    Calls Tryz.prog 104 #[.pointer (some ⟨c.b, 0, none⟩), .int .i64 most] W (NPost c W na d (.ok (T, 0) (i1 + 1) ns1)) := by
  have hi : i < c.L.length := ahd_lt (by rw [hk]; decide)
  have htk : ∀ j, j < c.L.length → i64ok (ahd c.L j).n ∧ (ahd c.L j).s.length ≤ 4096 := fun j hj => hc.tok _ (by unfold ahd; rw [List.getD_eq_getElem?_getD, List.getElem?_eq_getElem hj]; exact List.getElem_mem hj)
  have hsl := (htk i hi).2
  have hlen := hc.len
  have hii : (i : Int) < 4096 := by omega
  obtain ⟨W1, hW1⟩ : ∃ W1, W1 = W.alloc (.cells #[.int .i64 0, .int .i64 0, .string (ByteArray.mk #[]), .slice none 0 0] 24) := ⟨_, rfl⟩
  obtain ⟨h1, s1, x1, f1⟩ := h.fresh hc #[.int .i64 0, .int .i64 0, .string (ByteArray.mk #[]), .slice none 0 0] 24
  rw [← hW1] at h1 s1 x1 f1
  have hw1 : W1.heap.size = W.heap.size + 1 := by rw [hW1]; simp
  have ha0 := ahead_at c hc h1 0 (by omega)
  rw [Nat.add_zero] at ha0
  have ha1 := fun W' (h' : PAt c W' na nc i d ns) => ahead_at c hc h' 1 (Nat.le_refl _)
  have hz := zeroTerm
  have hzt : ∀ w, (zeroValue 87).run Tryz.prog w = .ok (.agg #[.int .i64 0, .string ⟨#[]⟩, .int .i64 0, .bool false, .bool false]) w := fun w => by kernel_rfl
  have hnot : ∀ (x : Bool) (w : World), (Op.unary .not (.bool x)).run Tryz.prog w = .ok (.bool (!x)) w := fun _ _ => rfl
  have ht := fun W' (h' : PAt c W' na nc (i + 1) d ns) => take_yes c hc h' (ByteArray.mk #[40]) [40] rfl hp
  have hargs := fun W' (h' : PAt c W' na nc (i + 1 + 1) d ns) => arguments_at c hc h' hr h7
  rw [hA] at hargs
  unfold APost at hargs
  have hne := fun W' na' nc' (h' : PAt c W' na' nc' i1 d ns1) => need_yes c hc h' (ByteArray.mk #[41]) [41] rfl hq
  have hsz : Tm.sizes ts ≤ 1000000 := by
    obtain ⟨τ, g, -, -⟩ := args_seg h7 hA
    have := g.size; have := g.len; omega
  have hfun := fun W' na' nc' (h' : PAt c W' na' nc' (i1 + 1) d ns1) (p : Nat → Prop) (hp : ∀ j, p j → c.stays W' na' j) (v : Value) (hk : TsIn p W' v ts) => fun_at c hc h' (ahd c.L i).s hsl hp ts v hk hsz
  rw [hF] at hfun
  unfold FOut at hfun
  clear hA hq hF
  generalize ahd c.L i = t0 at *
  generalize ahd c.L (i + 1) = t1 at *
  obtain ⟨kd0, sn0, nn0, qt0, tt0⟩ := t0
  obtain ⟨kd1, sn1, nn1, qt1, tt1⟩ := t1
  dsimp only at *
  subst hk
  subst hti
  go_enter Tryz.func104, Tryz.ntmps104
  go_upto_region 3 with (first
    | (rw [← hW1]; go_at_call 67; refine ha0.mono ?_; rintro e W2 ⟨rfl, hb2⟩; have h2 := h1.later hc hb2)
    | (go_at_call 67; refine (ha1 _ h2).mono ?_; rintro e W3 ⟨rfl, hb3⟩; obtain ⟨S, hS, hcur, f0, s6, s7, x6, x7, hszS, q1, qf⟩ := named_state c hc h h1 (bel hb2 hb3) hi (.int .i64 1) (.string (strV sn0)) (.int .i64 nn0) (.bool qt0) (.bool tt0) (.int .i64 kd1) (.string (strV sn1)) (.int .i64 nn1) (.bool qt1) (.bool true)))
  rw [← hS]
  have fcur := Fr.refl c S na
  obtain ⟨m0, m1, m2, m3, m4⟩ := fcur.box5 s6 x6
  obtain ⟨p0, p1, p2, p3, p4⟩ := fcur.box5 s7 x7
  clear q1 qf hS
  go_wp2_with (first
    | (go_at_call 121; refine (ht _ hcur).mono ?_; rintro e W5 ⟨rfl, h5, f5⟩; replace fcur := fcur.trans f5; replace hcur := h5; obtain ⟨m0, m1, m2, m3, m4⟩ := fcur.box5 s6 x6; obtain ⟨p0, p1, p2, p3, p4⟩ := fcur.box5 s7 x7)
    | (go_at_call 124; refine (hargs _ hcur).mono ?_; rintro e W6 ⟨na6, nc6, ka, kc, rfl, h6, f6, hts⟩; have hs56 := fcur.size; replace fcur := fcur.trans f6; replace hcur := h6; obtain ⟨m0, m1, m2, m3, m4⟩ := fcur.box5 s6 x6; obtain ⟨p0, p1, p2, p3, p4⟩ := fcur.box5 s7 x7)
    | (go_at_call 122; refine (hne _ _ _ hcur).mono ?_; rintro e W7 ⟨rfl, h7', f7⟩; replace hts := f7.tsN hts; replace fcur := fcur.trans f7; replace hcur := h7'; obtain ⟨m0, m1, m2, m3, m4⟩ := fcur.box5 s6 x6; obtain ⟨p0, p1, p2, p3, p4⟩ := fcur.box5 s7 x7)
    | (go_at_call 88; refine (hfun _ _ _ hcur _ (fun j hj => hj.1) _ hts).mono ?_; rintro e W8 ⟨k, n, s, a, l, cp, rfl, h8, f8, hT8⟩; have fall := f0.trans (fcur.trans f8); obtain ⟨s9, x9, z0, z1, z2, z3, zf⟩ := fall.box s1 x1))
  obtain ⟨Z, hZ, hzb, hP, hF, hkp, hsz'⟩ := h8.box4 hc h (f1.trans fall) (Nat.le_refl _) s9 x9 (.int .i64 k) (.int .i64 n) (.string s) (.slice a l cp)
  obtain ⟨y0, y1, y2, y3⟩ := tbox_cells hzb
  rw [← hZ]
  refine bodyPost_ret (v := .tuple #[.agg #[.int .i64 k, .int .i64 n, .string s, .slice a l cp], .int .i64 0]) (by simp [results, Tryz.f104, go_sem, y0, y1, y2, y3]) rfl ?_
  have hW15 : W1.heap.size ≤ W5.heap.size := Nat.le_trans f0.size hs56
  have hW57 : W5.heap.size ≤ W7.heap.size := Nat.le_trans f6.size f7.size
  refine ⟨na6, nc6, k, n, s, a, l, cp, rfl, hP, hF, hT8.carry (fun j hj => hkp j ?_) (fun j hj => ?_)⟩
  · rcases hj with hj | hj
    · have := hj.2; omega
    · have := hj.2; omega
  · rcases hj with hj | hj
    · have h91 := (f8.keep j hj.1).2
      have h92 := hj.2
      exact ⟨⟨by rw [hsz']; exact h91.1, h91.2⟩, by omega⟩
    · have h92 := hj.2
      exact ⟨⟨by rw [hsz']; exact hj.1.1, hj.1.2⟩, by omega⟩
set_option maxRecDepth 100000 in
set_option maxHeartbeats 4000000 in
theorem named_neg (most : Nat) (hk : (ahd c.L i).kind = 1) (hti : (ahd c.L (i + 1)).tight = true) (hp : isP (ahd c.L (i + 1)) [40] = false) (hk1 : (ahd c.L (i + 1)).kind = 3) (hba : bare (ahd c.L i) = true) (hs : (ahd c.L i).s = [45]) :
    Calls Tryz.prog 104 #[.pointer (some ⟨c.b, 0, none⟩), .int .i64 most] W (NPost c W na d (.ok (.mk 2 (wrap64 (-(ahd c.L (i + 1)).n)) empB [], 0) (i + 2) ns)) := by
  have hi : i < c.L.length := ahd_lt (by rw [hk]; decide)
  have htk : ∀ j, j < c.L.length → i64ok (ahd c.L j).n ∧ (ahd c.L j).s.length ≤ 4096 := fun j hj => hc.tok _ (by unfold ahd; rw [List.getD_eq_getElem?_getD, List.getElem?_eq_getElem hj]; exact List.getElem_mem hj)
  have hsl := (htk i hi).2
  have hlen := hc.len
  have hii : (i : Int) < 4096 := by omega
  obtain ⟨W1, hW1⟩ : ∃ W1, W1 = W.alloc (.cells #[.int .i64 0, .int .i64 0, .string (ByteArray.mk #[]), .slice none 0 0] 24) := ⟨_, rfl⟩
  obtain ⟨h1, s1, x1, f1⟩ := h.fresh hc #[.int .i64 0, .int .i64 0, .string (ByteArray.mk #[]), .slice none 0 0] 24
  rw [← hW1] at h1 s1 x1 f1
  have hw1 : W1.heap.size = W.heap.size + 1 := by rw [hW1]; simp
  have ha0 := ahead_at c hc h1 0 (by omega)
  rw [Nat.add_zero] at ha0
  have ha1 := fun W' (h' : PAt c W' na nc i d ns) => ahead_at c hc h' 1 (Nat.le_refl _)
  have hz := zeroTerm
  have hzt : ∀ w, (zeroValue 87).run Tryz.prog w = .ok (.agg #[.int .i64 0, .string ⟨#[]⟩, .int .i64 0, .bool false, .bool false]) w := fun w => by kernel_rfl
  have hnot : ∀ (x : Bool) (w : World), (Op.unary .not (.bool x)).run Tryz.prog w = .ok (.bool (!x)) w := fun _ _ => rfl
  have hi1 : i + 1 < c.L.length := ahd_lt (by rw [hk1]; decide)
  have ht := fun W' (h' : PAt c W' na nc (i + 1) d ns) => take_no c hc h' (ByteArray.mk #[40]) [40] rfl hp
  have hbar := fun W' => isBare_at (ahd c.L i) W'
  rw [hba] at hbar
  have hwn : i64ok (wrap64 (-(ahd c.L (i + 1)).n)) := by constructor <;> (simp only [wrap64]; omega)
  have hm := fun w => num_at (wrap64 (-(ahd c.L (i + 1)).n)) w hwn
  clear hp hba
  generalize ahd c.L i = t0 at *
  generalize ahd c.L (i + 1) = t1 at *
  obtain ⟨kd0, sn0, nn0, qt0, tt0⟩ := t0
  obtain ⟨kd1, sn1, nn1, qt1, tt1⟩ := t1
  dsimp only at *
  subst hk
  subst hti hk1 hs
  have hE : ((strV [45]).toList == [45]) = true := by rw [rd_beq (strV_list [45])]; rfl
  go_enter Tryz.func104, Tryz.ntmps104
  go_upto_region 3 with (first
    | (rw [← hW1]; go_at_call 67; refine ha0.mono ?_; rintro e W2 ⟨rfl, hb2⟩; have h2 := h1.later hc hb2)
    | (go_at_call 67; refine (ha1 _ h2).mono ?_; rintro e W3 ⟨rfl, hb3⟩; obtain ⟨S, hS, hcur, f0, s6, s7, x6, x7, hszS, q1, qf⟩ := named_state c hc h h1 (bel hb2 hb3) hi (.int .i64 1) (.string (strV [45])) (.int .i64 nn0) (.bool qt0) (.bool tt0) (.int .i64 3) (.string (strV sn1)) (.int .i64 nn1) (.bool qt1) (.bool true)))
  rw [← hS]
  have fcur := Fr.refl c S na
  obtain ⟨m0, m1, m2, m3, m4⟩ := fcur.box5 s6 x6
  obtain ⟨p0, p1, p2, p3, p4⟩ := fcur.box5 s7 x7
  clear q1 qf hS
  go_wp2_with (first
    | (go_at_call 121; refine (ht _ hcur).mono ?_; rintro e W5 ⟨rfl, h5, f5⟩; replace fcur := fcur.trans f5; replace hcur := h5; obtain ⟨m0, m1, m2, m3, m4⟩ := fcur.box5 s6 x6; obtain ⟨p0, p1, p2, p3, p4⟩ := fcur.box5 s7 x7)
    | (go_at_call 105; refine (hbar _).mono ?_; rintro e Wr ⟨rfl, hbr⟩; replace fcur := fcur.trans (Fr.below hbr); replace hcur := hcur.later hc hbr; obtain ⟨m0, m1, m2, m3, m4⟩ := fcur.box5 s6 x6; obtain ⟨p0, p1, p2, p3, p4⟩ := fcur.box5 s7 x7; obtain ⟨g0, g1, g2, g3, g4, g5, gf⟩ := hcur.cells; have hst := step_at c hc hcur hi1; obtain ⟨h9, f9⟩ := hst; replace fcur := fcur.trans f9; have e9 : (((i + 1 : Nat) : Int) + 1) = (i : Int) + 1 + 1 := (by omega); rw [e9] at h9 f9 fcur; obtain ⟨m0, m1, m2, m3, m4⟩ := fcur.box5 s6 x6; obtain ⟨p0, p1, p2, p3, p4⟩ := fcur.box5 s7 x7)
    | (go_at_call 18; refine (hm _).mono ?_; rintro e W4 h4; obtain ⟨k, n, s, a, l, cp, rfl, hT, hb4⟩ := h4.form4; have h8 := h9.later hc hb4; have fall := f0.trans (fcur.trans (Fr.below hb4)); obtain ⟨s9, x9, z0, z1, z2, z3, zf⟩ := fall.box s1 x1))
  obtain ⟨Z, hZ, hzb, hP, hF, hkp, hsz'⟩ := h8.box4 hc h (f1.trans fall) (Nat.le_refl _) s9 x9 (.int .i64 k) (.int .i64 n) (.string s) (.slice a l cp)
  obtain ⟨y0, y1, y2, y3⟩ := tbox_cells hzb
  rw [← hZ]
  refine bodyPost_ret (v := .tuple #[.agg #[.int .i64 k, .int .i64 n, .string s, .slice a l cp], .int .i64 0]) (by simp [results, Tryz.f104, go_sem, y0, y1, y2, y3]) rfl ?_
  have e3 := Nat.lt_of_lt_of_le s1.1 (Nat.le_trans f0.size fcur.size)
  exact ⟨na, nc, k, n, s, a, l, cp, rfl, hP, hF, tm_box (new_tm c hc h9 hb4.size hT) e3 (Nat.le_of_lt e3) hkp hsz'⟩
end
end Go.Proofs.YtfencolokfghfaaGreatDoor
