/-
  writer.Text: what it answers, whatever the term.
-/
import Derived.Test.YtfencolokfghfaaDoorWrE
namespace Go.Proofs.YtfencolokfghfaaDoor
open Go.Shelf Go.RowKit Go.Sort
set_option linter.unusedVariables false

theorem dec_ne (u : Nat) : Lib.decDigits u ≠ [] := by
  intro h
  have := congrArg List.length h
  rw [Lib.decDigits_length, Lib.nDigits] at this
  split at this <;> simp at this
theorem itoa_ne (n : Int) : Lib.itoa n ≠ [] := by
  unfold Lib.itoa
  split
  · simp
  · exact dec_ne _
theorem quoteL_ne (l : List UInt8) : quoteL l ≠ [] := by
  unfold quoteL
  split
  · rename_i h
    intro e
    rw [e] at h
    simp [plainB] at h
  · simp
theorem Tm.txt_ne (T : Tm) : T.txt ≠ [] := by
  obtain ⟨k, n, s, ks⟩ := T
  rw [Tm.txt_mk]
  split
  · simp
  · split
    · exact itoa_ne n
    · split
      · split
        · exact quoteL_ne _
        · simp
      · split
        · simp
        · simp
theorem Tm.txt_len (T : Tm) (hn : ∀ x ∈ T.parts 1, i64ok x.2.num) : T.txt.length + 1 ≤ 2 * T.byt + 40 * T.size := by
  have key : ∀ (T : Tm) (d : Nat), (∀ x ∈ T.parts d, i64ok x.2.num) → T.txt.length + 1 ≤ 2 * T.byt + 40 * T.size := by
    intro T
    induction T using Tm.ind with
    | h k n s ks ih =>
      intro d hp
      rw [Tm.parts_mk] at hp
      have hn : i64ok n := hp (d, .mk k n s ks) (by simp)
      have hi := itoa_len n hn
      have hks : ∀ ks : List Tm, (∀ t ∈ ks, ∀ d, (∀ x ∈ t.parts d, i64ok x.2.num) → t.txt.length + 1 ≤ 2 * t.byt + 40 * t.size) → (∀ x ∈ Tm.partss (d + 1) ks, i64ok x.2.num) → (Tm.txtc ks).length ≤ 2 * Tm.byts ks + 40 * Tm.sizes ks := by
        intro ks
        induction ks with
        | nil => intro _ _; rw [Tm.txtc_nil]; simp
        | cons t ts iht =>
          intro h hp
          rw [Tm.partss_cons] at hp
          have h1 := h t (by simp) (d + 1) (fun x hx => hp x (by simp [hx]))
          have h2 := iht (fun u hu => h u (by simp [hu])) (fun x hx => hp x (by simp [hx]))
          rw [Tm.txtc_cons, Tm.byts_cons, Tm.sizes_cons, List.length_cons, List.length_append]
          omega
      have h3 := hks ks ih (fun x hx => hp x (by simp [hx]))
      have h4 := quoteL_len s.data.toList
      have h5 := fnL_len s.data.toList
      have h6 : s.data.toList.length = s.size := rfl
      rw [Tm.byt_mk, Tm.size_mk, Tm.txt_mk]
      split
      · rw [List.length_cons]; omega
      · split
        · omega
        · split
          · split
            · omega
            · simp only [List.length_append, List.length_cons, List.length_nil, List.length_tail]; omega
          · split
            · simp only [List.length_append, List.length_cons, List.length_nil, List.length_tail]; omega
            · simp only [List.length_cons, List.length_nil]; omega
  exact key T 1 hn
theorem TmIn.nums {p : Nat → Prop} {W : World} {T : Tm} : ∀ {v : Value}, TmIn p W v T → ∀ d, ∀ x ∈ T.parts d, i64ok x.2.num := by
  induction T using Tm.ind with
  | h k n s ks ih =>
    intro v h d x hx
    rw [Tm.parts_mk] at hx
    cases h with
    | mk hk hn hs hc hm ha vs K N S hv hkid =>
      rcases List.mem_cons.1 hx with rfl | hx
      · exact hn
      · have : ∀ (ks' : List Tm), (∀ t ∈ ks', t ∈ ks) → ∀ d, x ∈ Tm.partss d ks' → i64ok x.2.num := by
          intro ks'
          induction ks' with
          | nil => intro _ d h; rw [Tm.partss_nil] at h; cases h
          | cons t ts iht =>
            intro hm d h
            rw [Tm.partss_cons] at h
            rcases List.mem_append.1 h with h | h
            · obtain ⟨i, hi, e⟩ := List.getElem_of_mem (hm t (by simp))
              have := hkid i hi
              rw [e] at this
              exact ih t (hm t (by simp)) this d x h
            · exact iht (fun u hu => hm u (by simp [hu])) d h
        exact this ks (fun t h => h) (d + 1) hx
theorem zeroPage (w : World) : (zeroValue 44).run Tryd.prog w = .ok (.agg #[.pointer none, .slice none 0 0]) w := by kernel_rfl
set_option maxRecDepth 100000 in
set_option maxHeartbeats 4000000 in
theorem text_at (T : Tm) (v : Value) (w : World) (ht : Has w v T) (hT0 : TabP w) (hby : T.byt ≤ 2000000) (hsz : T.size ≤ 1000000) : Calls Tryd.prog 7 #[v] w fun e w' => e = .returned (.string (strV T.txt)) ∧ Below w.heap.size w w' := by
  obtain ⟨k, n, s, a, len, cap, ks, rfl, e, hlen, -⟩ := ht.form
  clear e hlen
  have hlen2 := Tm.txt_len T (ht.nums 1)
  obtain ⟨w2, hw2⟩ : ∃ w2, w2 = (w.alloc (.cells #[.int .i64 k, .int .i64 n, .string s, .slice a len cap] 24)).alloc (.cells #[.pointer none, .slice none 0 0] 44) := ⟨_, rfl⟩
  have hb2 : Below w.heap.size w w2 := by rw [hw2]; exact bel_al (bel_al (Below.refl _ _) _) _
  have hx2 : w2.heap[w.heap.size + 1]? = some (.cells #[.pointer none, .slice none 0 0] 44 (0, 0)) := by rw [hw2]; simpa using alloc_new (w.alloc (.cells #[.int .i64 k, .int .i64 n, .string s, .slice a len cap] 24)) (.cells #[.pointer none, .slice none 0 0] 44)
  have hy2 : w2.heap[w.heap.size]? = some (.cells #[.int .i64 k, .int .i64 n, .string s, .slice a len cap] 24 (0, 0)) := by rw [hw2]; exact (Below.block (bel_al (Below.refl _ (w.alloc (.cells #[.int .i64 k, .int .i64 n, .string s, .slice a len cap] 24))) _) _ (by simp)).trans (alloc_new _ _)
  obtain ⟨t0, t1, t2, t3⟩ := tbox_cells hy2
  have hpg : PgAt w.heap.size (w.heap.size + 1) (.pointer none) (Lib.byteCells []) w2 := ⟨by omega, _, hx2, World.ownsRow_nil _ _ _ _, by simp [Value.ownBlock]⟩
  have hT2 : TmIn (For (w.heap.size + 1) w2) w2 (.agg #[.int .i64 k, .int .i64 n, .string s, .slice a len cap]) T := TmIn.carry (fun x hx => hb2.block x hx) (fun x (hx : x < w.heap.size) => ⟨Nat.lt_of_lt_of_le hx hb2.size, by omega, fun p v e hv => by
    rw [hx2] at e
    injection e with e
    injection e with e1
    have : Value.slice none 0 0 = v := by
      have := congrArg (fun a : Array Value => a[1]?) e1
      simpa using this
    rw [← this] at hv
    cases hv⟩) ht
  have hwr := write_ok w hT0 (w.heap.size + 1) T hby hsz _ [] w2 hT2 (.inl hpg) hb2 (by rw [List.length_nil]; omega)
  rw [List.nil_append] at hwr
  have hne := T.txt_ne
  have hz := zeroPage
  have HW := Lib.hid hwr
  clear hwr hpg hx2
  go_enter Tryd.func7, Tryd.ntmps7
  go_upto_region 2 with fail
  rw [← hw2]
  clear hw2
  go_wp2_with (first
    | (go_at_call 19; (with_reducible refine HW.out.mono ?_); rintro e W3 ⟨rfl, hP3, hB3, hk3⟩; have hst := string_at w.heap.size (w.heap.size + 1) T.txt W3 hP3 hne)
    | (go_at_call 21; (with_reducible refine hst.mono ?_); rintro e W4 ⟨rfl, hb4⟩))
  go_ret
  exact ⟨rfl, hB3.trans hb4⟩
end Go.Proofs.YtfencolokfghfaaDoor
