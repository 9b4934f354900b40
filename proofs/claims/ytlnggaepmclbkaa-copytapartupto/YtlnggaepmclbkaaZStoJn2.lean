/-
  store.Bind, where it binds.
-/
import Derived.Test.YtlnggaepmclbkaaZStoHn2
import Derived.Deep.Cut
namespace Go.Proofs.Ytlnggaepmclbkaa
open Go.RowKit Go.Shelf
set_option linter.unusedVariables false
set_option linter.unusedSimpArgs false

theorem nodup_small : ∀ (n : Nat) (l : List Nat), l.Nodup → (∀ x ∈ l, x < n) → l.length ≤ n
  | 0, l, _, h => by
    cases l with
    | nil => simp
    | cons x r => exact absurd (h x (by simp)) (Nat.not_lt_zero _)
  | n + 1, l, hd, h => by
    by_cases hn : n ∈ l
    · have h1 := nodup_small n (l.erase n) (hd.erase n) fun x hx => by
        have h2 := (List.Nodup.mem_erase_iff hd).1 hx
        have := h x h2.2
        have := h2.1
        omega
      rw [List.length_erase_of_mem hn] at h1
      omega
    · have h1 := nodup_small n l hd fun x hx => by
        have := h x hx
        have : x ≠ n := fun e => hn (e ▸ hx)
        omega
      omega
theorem St.Ok.tr_len {σ : St} (h : σ.Ok) : σ.tr.length ≤ 4096 :=
  Nat.le_trans (nodup_small σ.vs.length σ.tr h.nd fun x hx => by
    obtain ⟨U, hU⟩ := (h.mem x).1 hx
    exact (List.getElem?_eq_some_iff.1 hU).1) h.len

set_option maxRecDepth 100000 in
theorem bind_turn {n₀ : Nat} {w : World} {b : Nat} {L : Value} {σ : St} {g m cp : Nat} (h : StAt (Oth w b (.slice (some ⟨g, 0, none⟩) m cp) L) n₀ w b (.slice (some ⟨g, 0, none⟩) m cp) L σ) (hn₀ : n₀ ≤ w.heap.size) (x : Nat) (hv : σ.vs[x]? = some none) (T : Tm) (hM : ¬ Met σ (x : Int) T) (hs : T.size ≤ 2000000)
    {k n : Int} {s : ByteArray} {a : Option Addr} {l c : Nat} (hT : TmIn (Oth w b (.slice (some ⟨g, 0, none⟩) m cp) L) w (.agg #[.int .i64 k, .int .i64 n, .string s, .slice a l c]) T) :
    ∃ w5, w5 = ((((w.setCell ⟨g, x * 5, none⟩ (.bool true)).setCell ⟨g, x * 5 + 1, none⟩ (.int .i64 k)).setCell ⟨g, x * 5 + 2, none⟩ (.int .i64 n)).setCell ⟨g, x * 5 + 3, none⟩ (.string s)).setCell ⟨g, x * 5 + 4, none⟩ (.slice a l c) ∧
      w5.cell? ⟨b, 1, none⟩ = some L ∧ (∀ o, (w5.alloc o).cell? ⟨b, 1, none⟩ = some L) ∧ ∃ a7 l7 c7 w7, (Builtin.append_ #[34, 34] 34 #[L, .slice (some ⟨w5.heap.size, 0, none⟩) 1 1]).run Try.prog (w5.alloc (.cells #[.int .i64 (x : Int)] 3)) = .ok (.slice a7 l7 c7) w7 ∧
        w7.cell? ⟨b, 1, none⟩ = some L ∧ (∀ j, w7.frozen? ⟨b, j, none⟩ = false) ∧ Hid (∃ w8, w8 = w7.setCell ⟨b, 1, none⟩ (.slice a7 l7 c7) ∧ StAt (Oth w8 b (.slice (some ⟨g, 0, none⟩) m cp) (.slice a7 l7 c7)) n₀ w8 b (.slice (some ⟨g, 0, none⟩) m cp) (.slice a7 l7 c7) (σ.bind x T) ∧ Mut w b (.slice (some ⟨g, 0, none⟩) m cp) L w8 (.slice (some ⟨g, 0, none⟩) m cp) (.slice a7 l7 c7)) := by
  obtain ⟨xs, hr, hok⟩ := h.rV
  have hmx : m = xs.length := by
    obtain ⟨_, _, e⟩ := hr.form
    injection e
  subst hmx
  have hxs : x < xs.length := by rw [hok.len]; exact (List.getElem?_eq_some_iff.1 hv).1
  obtain ⟨w5, hw5, hr5, ho5, hs5, e1, e2, e3⟩ := row_set5 ⟨true, k, n, s, a, l, c⟩ x hxs hr rfl
  have hgb : g ≠ b := fun e => hr.ne_box h.box (by rw [e]; rfl)
  have hgL : L.ownBlock ≠ some g := rows_ne hr h.rL g rfl
  have hbL := h.rL.ne_box h.box
  have hb5 : w5.heap[b]? = some (.cells #[.slice (some ⟨g, 0, none⟩) xs.length cp, L] 70 (0, 0)) := (ho5 b (fun e => hgb e.symm)).trans h.box
  have hL5 : RowL w5 n₀ L σ.tr := h.rL.later fun k hk => ho5 k (fun e => hgL (by rw [hk, e]))
  have htl := h.ok.tr_len
  obtain ⟨c0, c1⟩ := two_cells hb5
  have hb6 : (w5.alloc (.cells #[.int .i64 (x : Int)] 3)).heap[b]? = some (.cells #[.slice (some ⟨g, 0, none⟩) xs.length cp, L] 70 (0, 0)) := (Below.heap_alloc _ _ _ (Array.getElem?_eq_some_iff.1 hb5).1).trans hb5
  have hL6 : RowL (w5.alloc (.cells #[.int .i64 (x : Int)] 3)) n₀ L σ.tr := hL5.later fun k hk => Below.heap_alloc _ _ _ (hL5.lt k hk).2
  obtain ⟨v', w7, hrun, hL7, hg7, hat⟩ := run_append_loose (w5.alloc (.cells #[.int .i64 (x : Int)] 3)) 34 n₀ L σ.tr hL6 w5.heap.size x (World.alloc_heap_new w5 _) (by omega) (by rw [World.size_alloc, hs5]; omega)
  obtain ⟨a7, c7, rfl⟩ := hL7.form
  have hb7 : w7.heap[b]? = some (.cells #[.slice (some ⟨g, 0, none⟩) xs.length cp, L] 70 (0, 0)) := (hg7.block b (Array.getElem?_eq_some_iff.1 hb6).1 (fun e => hbL e.symm)).trans hb6
  refine ⟨w5, hw5, c1, fun o => cell_al c1 o, a7, _, c7, w7, hrun, (two_cells hb7).2, fun j => by simp [World.frozen?, hb7], _, rfl, ?_⟩
  have hother : ∀ k, k ≠ b → (w7.setCell ⟨b, 1, none⟩ (.slice a7 (σ.tr ++ [x]).length c7)).heap[k]? = w7.heap[k]? := fun k hk => Below.heap_setCell w7 ⟨b, 1, none⟩ _ k hk
  have h67 : ∀ k, k < w.heap.size → L.ownBlock ≠ some k → k ≠ g → w7.heap[k]? = w.heap[k]? := fun k hk hkL hkg => by
    rw [hg7.block k (by rw [World.size_alloc, hs5]; omega) (fun e => hkL e.symm), Below.heap_alloc _ _ _ (by rw [hs5]; exact hk), ho5 k hkg]
  have hsz : (w7.setCell ⟨b, 1, none⟩ (.slice a7 (σ.tr ++ [x]).length c7)).heap.size = w7.heap.size := by simp
  have hsz7 : w.heap.size + 1 ≤ w7.heap.size := by have := hg7.size; rw [World.size_alloc, hs5] at this; exact this
  have hnew : ∀ k, (Value.slice a7 (σ.tr ++ [x]).length c7).ownBlock = some k → L.ownBlock = some k ∨ k = w.heap.size + 1 := fun k hk => by
    rcases hat with hat | hat
    · exact .inl (by rw [← hat]; exact hk)
    · rw [hat] at hk; injection hk with hk; rw [World.size_alloc, hs5] at hk; exact .inr hk.symm
  have hglt := (hr.lt g rfl).2
  have keep : ∀ k, Oth w b (.slice (some ⟨g, 0, none⟩) xs.length cp) L k → (w7.setCell ⟨b, 1, none⟩ (.slice a7 (σ.tr ++ [x]).length c7)).heap[k]? = w.heap[k]? ∧ Oth (w7.setCell ⟨b, 1, none⟩ (.slice a7 (σ.tr ++ [x]).length c7)) b (.slice (some ⟨g, 0, none⟩) xs.length cp) (.slice a7 (σ.tr ++ [x]).length c7) k := fun k hk => by
    refine ⟨(hother k hk.2.1).trans (h67 k hk.1 hk.2.2.2 (fun e => hk.2.2.1 (by rw [e]; rfl))), by rw [hsz]; have := hk.1; omega, hk.2.1, hk.2.2.1, fun e => ?_⟩
    rcases hnew k e with e | e
    · exact hk.2.2.2 e
    · have := hk.1; omega
  refine ⟨⟨set_block (o := 1) hb7 _, h.lo, fun k hk => hk, ⟨_, ?_, (hok.set x ⟨true, k, n, s, a, l, c⟩ (some T) rfl (fun U hU => by cases hU; exact hT)).carry (fun k hk => (keep k hk).1) fun k hk => (keep k hk).2⟩, ?_, h.ok.bind hv hM hs⟩, ⟨?_, ?_, ?_, by rw [hsz]; omega, keep⟩⟩
  · refine RowV.later hr5 fun k hk => ?_
    have hk : g = k := Option.some.inj hk
    subst hk
    rw [hother g hgb, hg7.block g (by rw [World.size_alloc, hs5]; omega) (fun e => hgL e.symm), Below.heap_alloc _ _ _ (by rw [hs5]; exact hglt)]
  · refine RowL.later hL7 fun k hk => hother k fun e => ?_
    subst e
    rcases hnew k hk with e | e
    · exact hbL e
    · have := h.lt; omega
  · exact hg7.os.trans e1
  · exact hg7.tape.trans e2
  · exact hg7.output.trans e3

set_option maxRecDepth 100000 in
set_option maxHeartbeats 4000000 in
open Classical in
theorem bind_at10 {n₀ : Nat} {w : World} {b : Nat} {V L : Value} {σ : St} (h : StAt (Oth w b V L) n₀ w b V L σ) (hn₀ : n₀ ≤ w.heap.size) (x : Nat) (t : Value) (T : Tm) (ht : Has w t T) (hs : T.size ≤ 2000000) (hv : σ.vs[x]? = some none) (hM : ¬ Met σ (x : Int) T) :
    Calls Try.prog 20 #[.pointer (some ⟨b, 0, none⟩), .int .i64 (x : Int), t] w fun e w' => e = .returned (.int .i64 0) ∧ ∃ L', StAt (Oth w' b V L') n₀ w' b V L' (σ.bind x T) ∧ Mut w b V L w' V L' := by
  obtain ⟨k, n, s, a, len, cap, ks, rfl, eT, -⟩ := ht.form
  have hB1 : Below w.heap.size w (w.alloc (.cells #[.int .i64 k, .int .i64 n, .string s, .slice a len cap] 24)) := (Below.refl _ w).alloc (Nat.le_refl _) _
  obtain ⟨xs, hr, hok⟩ := h.rV
  have h1 := h.below hB1
  obtain ⟨c0, c1⟩ := two_cells h1.box
  have hl := hok.len
  have hlen := h.ok.len
  have hxs : x < xs.length := by rw [hl]; exact (List.getElem?_eq_some_iff.1 hv).1
  obtain ⟨q, hq⟩ : ∃ q, xs[x]? = some q := ⟨_, List.getElem?_eq_getElem hxs⟩
  obtain ⟨hqb, -⟩ := hok.at_ x q none hq hv
  obtain ⟨h1_, ⟨_, h0⟩ | ⟨g, cp, cur, rfl, hg, hh, hn, hcap, hsz, htake⟩⟩ := id hr
  · rw [h0] at hxs; exact absurd hxs (Nat.not_lt_zero _)
  have hcell : (w.alloc (.cells #[.int .i64 k, .int .i64 n, .string s, .slice a len cap] 24)).cell? ⟨g, x * 5, none⟩ = some (.bool false) := by
    refine cell_al ?_ _
    have h3 := flat5_get xs x q hq 0 (by decide)
    rw [← htake, List.getElem?_take_of_lt (by omega)] at h3
    simp only [World.cell?, hh]
    have h4 : q.b = false := hqb
    rw [← h4]
    simpa [V5.cells] using h3
  have hhas := has_at10 h1 (.agg #[.int .i64 k, .int .i64 n, .string s, .slice a len cap]) T (Has.below ht hB1) (x : Int) (by omega)
  rw [decide_eq_false hM] at hhas
  have hn1 : decide ((x : Int) < 0) = false := by simp
  have hx0 : (0 : Int) ≤ (x : Int) := by omega
  have hxl : (x : Int) < (xs.length : Int) := by omega
  have hge1 : decide ((x : Int) ≥ (xs.length : Int)) = false := by simp; omega
  obtain ⟨x0, x1, x2, x3⟩ := tbox_cells (World.alloc_heap_new w (.cells #[.int .i64 k, .int .i64 n, .string s, .slice a len cap] 24))
  have hbx := World.alloc_heap_new w (.cells #[.int .i64 k, .int .i64 n, .string s, .slice a len cap] 24)
  obtain ⟨w1, hw1⟩ : ∃ w1, w1 = w.alloc (.cells #[.int .i64 k, .int .i64 n, .string s, .slice a len cap] 24) := ⟨_, rfl⟩
  rw [← hw1] at hB1 h1 c0 c1 hcell hhas x0 x1 x2 x3 hbx
  have ht1 : Has w1 (.agg #[.int .i64 k, .int .i64 n, .string s, .slice a len cap]) T := Has.below ht hB1
  have HH := Lib.hid (And.intro h (And.intro hn₀ (And.intro hv (And.intro hM (And.intro hs (And.intro hB1 (And.intro h1 (And.intro hbx ht1))))))))
  have hzv := zeroVar
  clear h h1 hr hok ht eT hl hq hv hqb h1_ hh hn htake hcap hsz hg hM hs hn₀ hB1 hbx ht1 hlen
  obtain ⟨m, hm⟩ : ∃ m, m = xs.length := ⟨_, rfl⟩
  rw [← hm] at HH c0 hxs hxl hge1 ⊢
  clear hm
  subst hw1
  go_enter Try.func20, Try.ntmps20
  go_wp2_with (go_at_call 36; refine hhas.mono ?_; clear hhas; rintro e w2 ⟨rfl, hb2⟩)
  have hb02 : Below w.heap.size w w2 := HH.out.2.2.2.2.2.1.trans (hb2.mono HH.out.2.2.2.2.2.1.size)
  have H2 := HH.out.2.2.2.2.2.2.1.below hb2
  obtain ⟨d0, d1⟩ := two_cells H2.box
  have hbx2 := tbox_below HH.out.2.2.2.2.2.2.2.1 hb2
  obtain ⟨y0, y1, y2, y3⟩ := tbox_cells hbx2
  have hT2 : Has w2 (.agg #[.int .i64 k, .int .i64 n, .string s, .slice a len cap]) T := Has.below HH.out.2.2.2.2.2.2.2.2 hb2
  have HS : ∀ w', Below w2.heap.size w2 w' → (w'.cell? ⟨b, 0, none⟩ = some (.slice (some ⟨g, 0, none⟩) m cp) ∧ w'.cell? ⟨w.heap.size, 0, none⟩ = some (.int .i64 k) ∧ w'.cell? ⟨w.heap.size, 1, none⟩ = some (.int .i64 n) ∧ w'.cell? ⟨w.heap.size, 2, none⟩ = some (.string s) ∧ w'.cell? ⟨w.heap.size, 3, none⟩ = some (.slice a len cap) ∧ Below w2.heap.size w2 w') := fun w' hb =>
    ⟨cell_later hb d0, cell_later hb y0, cell_later hb y1, cell_later hb y2, cell_later hb y3, hb⟩
  have hcall : ∀ w3, Below w2.heap.size w2 w3 → Calls Try.prog 37 #[.agg #[.int .i64 k, .int .i64 n, .string s, .slice a len cap]] w3 fun e w4 => ∃ k4 n4 s4 a4 l4 c4, e = .returned (.agg #[.int .i64 k4, .int .i64 n4, .string s4, .slice a4 l4 c4]) ∧ TmIn (fun c => w3.heap.size ≤ c ∧ c < w4.heap.size) w4 (.agg #[.int .i64 k4, .int .i64 n4, .string s4, .slice a4 l4 c4]) T ∧ Below w2.heap.size w2 w4 := fun w3 h3 =>
    (swhole_at _ T w3 (Has.below hT2 h3) (by have := HH.out.2.2.2.2.1; omega)).mono fun e w4 h4 => by
      obtain ⟨r, rfl, hr, hb4⟩ := h4
      obtain ⟨k4, n4, s4, a4, l4, c4, ks4, rfl, -⟩ := hr.form
      exact ⟨k4, n4, s4, a4, l4, c4, rfl, hr, h3.trans (hb4.mono h3.size)⟩
  have H2' := Lib.hid (And.intro H2 hb02)
  clear c0 c1 x0 x1 x2 x3 hcell hb2 H2 hb02 hbx2 hT2 d1
  go_wp2_with fail
  refine wp_region_last (S := (fun w' => w'.cell? ⟨b, 0, none⟩ = some (.slice (some ⟨g, 0, none⟩) m cp) ∧ w'.cell? ⟨w.heap.size, 0, none⟩ = some (.int .i64 k) ∧ w'.cell? ⟨w.heap.size, 1, none⟩ = some (.int .i64 n) ∧ w'.cell? ⟨w.heap.size, 2, none⟩ = some (.string s) ∧ w'.cell? ⟨w.heap.size, 3, none⟩ = some (.slice a len cap) ∧ Below w2.heap.size w2 w')) 9 rfl (by kernel_rfl) (HS _ (Below.refl _ _).drew) fun hHeld => ?_
  simp only [List.take_succ_cons, List.take_zero]
  clear d0 y0 y1 y2 y3
  refine wpAnyH_take (i := 0) (v := ?vv0) rfl (by kernel_rfl) (by kernel_rfl) (by kernel_rfl) (fun _ _ _ h => h) (Or.inl ⟨by rfl, ?hy0⟩) hHeld ?rest0
  case hy0 =>
    intro w0 hSw
    (try dsimp only at hSw)
    go_simp
    try (with_reducible rfl)
  try simp only [Act.put, List.setIfInBounds_toArray, List.set_cons_zero, List.set_cons_succ]
  refine wpAnyH_take (i := 1) (v := ?vv1) rfl (by kernel_rfl) (by kernel_rfl) (by kernel_rfl) (fun _ _ _ h => h) (Or.inl ⟨by rfl, ?hy1⟩) hHeld ?rest1
  case hy1 =>
    intro w0 hSw
    (try dsimp only at hSw)
    go_simp
    try (with_reducible rfl)
  try simp only [Act.put, List.setIfInBounds_toArray, List.set_cons_zero, List.set_cons_succ]
  refine wpAnyH_take (i := 2) (v := ?vv2) rfl (by kernel_rfl) (by kernel_rfl) (by kernel_rfl) (fun _ _ _ h => h) (Or.inl ⟨by rfl, ?hy2⟩) hHeld ?rest2
  case hy2 =>
    intro w0 hSw
    (try dsimp only at hSw)
    go_simp
    try (with_reducible rfl)
  try simp only [Act.put, List.setIfInBounds_toArray, List.set_cons_zero, List.set_cons_succ]
  refine wpAnyH_take (i := 3) (v := ?vv3) rfl (by kernel_rfl) (by kernel_rfl) (by kernel_rfl) (fun _ _ _ h => h) (Or.inl ⟨by rfl, ?hy3⟩) hHeld ?rest3
  case hy3 =>
    intro w0 hSw
    (try dsimp only at hSw)
    go_simp
    try (with_reducible rfl)
  try simp only [Act.put, List.setIfInBounds_toArray, List.set_cons_zero, List.set_cons_succ]
  refine wpAnyH_take (i := 4) (v := ?vv4) rfl (by kernel_rfl) (by kernel_rfl) (by kernel_rfl) (fun _ _ _ h => h) (Or.inl ⟨by rfl, ?hy4⟩) hHeld ?rest4
  case hy4 =>
    intro w0 hSw
    (try dsimp only at hSw)
    go_simp
    try (with_reducible rfl)
  try simp only [Act.put, List.setIfInBounds_toArray, List.set_cons_zero, List.set_cons_succ]
  refine wpAnyH_take (i := 5) (v := ?vv5) rfl (by kernel_rfl) (by kernel_rfl) (by kernel_rfl) (fun _ _ _ h => h) (Or.inl ⟨by rfl, ?hy5⟩) hHeld ?rest5
  case hy5 =>
    intro w0 hSw
    (try dsimp only at hSw)
    go_simp
    try (with_reducible rfl)
  try simp only [Act.put, List.setIfInBounds_toArray, List.set_cons_zero, List.set_cons_succ]
  refine wpAnyH_ready (rs := [6]) (by kernel_rfl) (by simp) ?_
  refine AllReadyH.cons rfl (fun K hK => ?_) AllReadyH.nil
  go_simp
  with_reducible refine (hcall _ (Below.refl _ _).drew).mono ?_
  rintro e w4 ⟨k4, n4, s4, a4, l4, c4, rfl, hT4, hb4⟩
  go_wp2_with fail
  refine hK.out _ _ (HS _ hb4) (fun hHeld2 => ?_)
  clear hK K
  try simp only [Act.put, List.setIfInBounds_toArray, List.set_cons_zero, List.set_cons_succ]
  refine wpAnyH_take (i := 7) (v := ?vv7) rfl (by kernel_rfl) (by kernel_rfl) (by kernel_rfl) (fun _ _ _ h => h) (Or.inl ⟨by rfl, ?hy7⟩) hHeld2 ?rest7
  case hy7 =>
    intro w0 hSw
    (try dsimp only at hSw)
    go_simp
    try (with_reducible rfl)
  try simp only [Act.put, List.setIfInBounds_toArray, List.set_cons_zero, List.set_cons_succ]
  refine wpAnyH_take (i := 8) (v := ?vv8) rfl (by kernel_rfl) (by kernel_rfl) (by kernel_rfl) (fun _ _ _ h => h) (Or.inl ⟨by rfl, ?hy8⟩) hHeld2 ?rest8
  case hy8 =>
    intro w0 hSw
    (try dsimp only at hSw)
    go_simp
    try (with_reducible rfl)
  try simp only [Act.put, List.setIfInBounds_toArray, List.set_cons_zero, List.set_cons_succ]
  have h4 := H2'.out.1.below hb4
  have hb14 := H2'.out.2.trans (hb4.mono H2'.out.2.size)
  have h4' := h4.weak (q := Oth w4 b (.slice (some ⟨g, 0, none⟩) m cp) L) (fun c hc => (HH.out.1.sub c hc).below hb14) (fun c hc => hc)
  have hT4' : TmIn (Oth w4 b (.slice (some ⟨g, 0, none⟩) m cp) L) w4 (.agg #[.int .i64 k4, .int .i64 n4, .string s4, .slice a4 l4 c4]) T := H2'.out.1.new (hT4.carry (fun _ _ => rfl) fun c hc => ⟨hc.1, hc.2⟩)
  obtain ⟨w5, hw5, f1, f1', a7, l7, c7, w7, hrun, g1, gf, HZ⟩ := bind_turn h4' (Nat.le_trans HH.out.2.1 hb14.size) x HH.out.2.2.1 T HH.out.2.2.2.1 HH.out.2.2.2.2.1 hT4'
  have hv4 : ∀ j, j < 5 → ∃ u, w4.cell? ⟨g, x * 5 + j, none⟩ = some u := by
    obtain ⟨xs', hr', hok'⟩ := h4.rV
    obtain ⟨_, ⟨hq, _⟩ | ⟨g', cap', cur', e, _, hh', hn', _, hsz', _⟩⟩ := hr'
    · cases hq
    · injection e with e1 e2 e3
      injection e1 with e1
      injection e1 with e1
      subst e1
      intro j hj
      have hlt : x * 5 + j < cur'.size := by
        have hxx : x < xs'.length := by omega
        have : xs'.length * 5 ≤ cap' * 5 := Nat.mul_le_mul_right _ hn'
        omega
      exact ⟨cur'[x * 5 + j], by simp [World.cell?, hh', hlt]⟩
  have hf4 : ∀ j, w4.frozen? ⟨g, j, none⟩ = false := by
    obtain ⟨xs', hr', hok'⟩ := h4.rV
    obtain ⟨_, ⟨hq, _⟩ | ⟨g', cap', cur', e, _, hh', _⟩⟩ := hr'
    · cases hq
    · injection e with e1 e2 e3
      injection e1 with e1
      injection e1 with e1
      subst e1
      intro j
      simp [World.frozen?, hh']
  obtain ⟨u0, v0⟩ := hv4 0 (by omega)
  obtain ⟨u1, v1⟩ := hv4 1 (by omega)
  obtain ⟨u2, v2⟩ := hv4 2 (by omega)
  obtain ⟨u3, v3⟩ := hv4 3 (by omega)
  obtain ⟨u4, v4⟩ := hv4 4 (by omega)
  rw [Nat.add_zero] at v0
  have HM := Lib.hid (Mut.of_below (b := b) (V := .slice (some ⟨g, 0, none⟩) m cp) (L := L) hb14)
  have HW5 := Lib.hid hw5
  clear hb4 hT4 h4 hb14 h4' hT4' hw5 hv4 hcall HS
  refine wpAnyH_done (by kernel_rfl) ?_ _
  refine last_of_list rfl ?_
  go_upto_region 8 with fail
  rw [← HW5.out]
  clear v0 v1 v2 v3 v4 hf4 HW5
  go_wp2_with (at_builtin; refine Lib.wpList_append_run _ rfl _ _ _ _ rfl _ _ rfl rfl _ _ hrun ?_)
  obtain ⟨w8, hw8, hS8, hM8⟩ := HZ.out
  rw [← hw8]
  go_ret
  exact ⟨rfl, _, hS8, HM.out.trans hM8⟩
end Go.Proofs.Ytlnggaepmclbkaa

namespace Go.Proofs.Ytlnggaepmclbkaa
open Go.RowKit Go.Shelf
set_option linter.unusedVariables false
set_option linter.unusedSimpArgs false

def frees (vs : List (Option Tm)) (l : List Nat) : List (Option Tm) := l.foldl (fun vs v => vs.set v none) vs
def St.undo (σ : St) (m : Nat) : St := ⟨frees σ.vs (σ.tr.drop m), σ.tr.take m⟩
theorem frees_snoc (vs : List (Option Tm)) (l : List Nat) (v : Nat) : frees vs (l ++ [v]) = (frees vs l).set v none := by
  unfold frees; rw [List.foldl_append]; rfl
theorem frees_len (vs : List (Option Tm)) : ∀ l, (frees vs l).length = vs.length := by
  intro l
  unfold frees
  induction l generalizing vs with
  | nil => rfl
  | cons v r ih => rw [List.foldl_cons, ih, List.length_set]
theorem frees_get : ∀ (l : List Nat) (vs : List (Option Tm)) (x : Nat), (frees vs l)[x]? = if x ∈ l ∧ x < vs.length then some none else vs[x]?
  | [], vs, x => by simp [frees]
  | v :: r, vs, x => by
    show (frees (vs.set v none) r)[x]? = _
    rw [frees_get r, List.length_set, List.getElem?_set]
    by_cases h1 : x ∈ r ∧ x < vs.length
    · rw [if_pos h1, if_pos ⟨List.mem_cons_of_mem _ h1.1, h1.2⟩]
    · rw [if_neg h1]
      by_cases e : v = x
      · subst e
        by_cases hl : v < vs.length
        · rw [if_pos rfl, if_pos hl, if_pos ⟨by simp, hl⟩]
        · rw [if_pos rfl, if_neg hl, if_neg (by omega), List.getElem?_eq_none (by omega)]
      · rw [if_neg e]
        by_cases hx : x ∈ v :: r ∧ x < vs.length
        · exfalso
          rcases List.mem_cons.1 hx.1 with h | h
          · exact e h.symm
          · exact h1 ⟨h, hx.2⟩
        · rw [if_neg hx]
theorem St.Ok.undo {σ : St} (h : σ.Ok) (m : Nat) : (σ.undo m).Ok := by
  have hg : ∀ (x : Nat) (T : Tm), (σ.undo m).vs[x]? = some (some T) → σ.vs[x]? = some (some T) ∧ ¬ (x ∈ σ.tr.drop m) := by
    intro x T hx
    have hx : (frees σ.vs (σ.tr.drop m))[x]? = some (some T) := hx
    rw [frees_get] at hx
    split at hx
    · cases hx
    · rename_i hn
      exact ⟨hx, fun hm => hn ⟨hm, (List.getElem?_eq_some_iff.1 hx).1⟩⟩
  refine ⟨h.ranked.less fun x T hx => (hg x T hx).1, by show (frees _ _).length ≤ _; rw [frees_len]; exact h.len, fun o ho U hU => ?_, h.nd.sublist (List.take_sublist _ _), fun v => ?_⟩
  · subst hU
    obtain ⟨x, hx⟩ := List.getElem?_of_mem ho
    exact h.small _ (List.mem_of_getElem? (hg x U hx).1) U rfl
  · have hsplit : σ.tr = σ.tr.take m ++ σ.tr.drop m := (List.take_append_drop _ _).symm
    constructor
    · intro hv
      have hv : v ∈ σ.tr.take m := hv
      obtain ⟨U, hU⟩ := (h.mem v).1 (List.mem_of_mem_take hv)
      refine ⟨U, ?_⟩
      show (frees _ _)[v]? = _
      rw [frees_get, if_neg]
      · exact hU
      · rintro ⟨hd, -⟩
        have := h.nd
        rw [hsplit, List.nodup_append] at this
        exact this.2.2 v hv v hd rfl
    · rintro ⟨U, hU⟩
      obtain ⟨h1, h2⟩ := hg v U hU
      have h3 := (h.mem v).2 ⟨U, h1⟩
      rw [hsplit] at h3
      rcases List.mem_append.1 h3 with h3 | h3
      · exact h3
      · exact absurd h3 h2

/-- All lies as it lay, but one block, which is as great. -/
structure OnlyRow (g : Nat) (w w' : World) : Prop where
  os : w'.os = w.os
  tape : w'.tape = w.tape
  output : w'.output = w.output
  size : w'.heap.size = w.heap.size
  heap : ∀ k, k ≠ g → w'.heap[k]? = w.heap[k]?
theorem OnlyRow.refl (g : Nat) (w : World) : OnlyRow g w w := ⟨rfl, rfl, rfl, rfl, fun _ _ => rfl⟩
theorem OnlyRow.trans {g : Nat} {w w1 w2 : World} (h : OnlyRow g w w1) (k : OnlyRow g w1 w2) : OnlyRow g w w2 :=
  ⟨k.os.trans h.os, k.tape.trans h.tape, k.output.trans h.output, k.size.trans h.size, fun c hc => (k.heap c hc).trans (h.heap c hc)⟩
theorem OnlyRow.cell {g : Nat} {w w' : World} (h : OnlyRow g w w') {k o : Nat} (hk : k ≠ g) : w'.cell? ⟨k, o, none⟩ = w.cell? ⟨k, o, none⟩ :=
  World.cell?_of_block (a := ⟨k, o, none⟩) (h.heap k hk)

theorem undo_end {n₀ : Nat} {w wr : World} {b g g2 m tl xl cp cap2 : Nat} {σ : St} {xs xs' : List V5} {cur2 : Array Value} {mark : Int}
    (h : StAt (Oth w b (.slice (some ⟨g, 0, none⟩) xs.length cp) (.slice (some ⟨g2, 0, none⟩) σ.tr.length cap2)) n₀ w b (.slice (some ⟨g, 0, none⟩) xs.length cp) (.slice (some ⟨g2, 0, none⟩) σ.tr.length cap2) σ)
    (hl : tl = σ.tr.length ∧ xl = xs.length ∧ m = mark.toNat) (hgb : g ≠ b) (hgg : g ≠ g2)
    (hT : cur2.toList.take σ.tr.length = σ.tr.map (fun n : Nat => Value.int .i64 (n : Int)) ∧ n₀ ≤ g2 ∧ σ.tr.length ≤ cap2 ∧ cap2 ≤ cur2.size ∧ cap2 ≤ maxLen) (hh2 : w.heap[g2]? = some (.cells cur2 3 (0, 0))) (hm : m < tl)
    (hR : RowV wr n₀ (.slice (some ⟨g, 0, none⟩) xl cp) xs' ∧ xs'.length = xl ∧ VOk (Oth w b (.slice (some ⟨g, 0, none⟩) xl cp) (.slice (some ⟨g2, 0, none⟩) tl cap2)) w xs' (frees σ.vs ((σ.tr.drop m).take (tl - m))) ∧ OnlyRow g w wr)
    (hbox : wr.heap[b]? = some (.cells #[.slice (some ⟨g, 0, none⟩) xl cp, .slice (some ⟨g2, 0, none⟩) tl cap2] 70 (0, 0))) :
    StAt (Oth (wr.setCell ⟨b, 1, none⟩ (.slice (some ⟨g2, 0, none⟩) m m)) b (.slice (some ⟨g, 0, none⟩) xs.length cp) (.slice (some ⟨g2, 0, none⟩) m m)) n₀ (wr.setCell ⟨b, 1, none⟩ (.slice (some ⟨g2, 0, none⟩) m m)) b (.slice (some ⟨g, 0, none⟩) xs.length cp) (.slice (some ⟨g2, 0, none⟩) m m) (σ.undo m) ∧
      Mut w b (.slice (some ⟨g, 0, none⟩) xs.length cp) (.slice (some ⟨g2, 0, none⟩) σ.tr.length cap2) (wr.setCell ⟨b, 1, none⟩ (.slice (some ⟨g2, 0, none⟩) m m)) (.slice (some ⟨g, 0, none⟩) xs.length cp) (.slice (some ⟨g2, 0, none⟩) m m) := by
  obtain ⟨rfl, rfl, -⟩ := hl
  obtain ⟨hr, hlen, hok, ho⟩ := hR
  obtain ⟨htk, hg2, hn2, hcs2, hcm2⟩ := hT
  rw [List.take_of_length_le (by rw [List.length_drop]; exact Nat.le_refl _)] at hok
  have hg2b : g2 ≠ b := fun e => by rw [← e, ho.heap g2 (fun e => hgg e.symm), hh2] at hbox; cases hbox
  have hother : ∀ k, k ≠ b → (wr.setCell ⟨b, 1, none⟩ (.slice (some ⟨g2, 0, none⟩) m m)).heap[k]? = wr.heap[k]? := fun k hk => Below.heap_setCell wr ⟨b, 1, none⟩ _ k hk
  have hsz : (wr.setCell ⟨b, 1, none⟩ (.slice (some ⟨g2, 0, none⟩) m m)).heap.size = w.heap.size := by rw [World.size_setCell]; exact ho.size
  have keep : ∀ k, Oth w b (.slice (some ⟨g, 0, none⟩) xs.length cp) (.slice (some ⟨g2, 0, none⟩) σ.tr.length cap2) k → (wr.setCell ⟨b, 1, none⟩ (.slice (some ⟨g2, 0, none⟩) m m)).heap[k]? = w.heap[k]? ∧ Oth (wr.setCell ⟨b, 1, none⟩ (.slice (some ⟨g2, 0, none⟩) m m)) b (.slice (some ⟨g, 0, none⟩) xs.length cp) (.slice (some ⟨g2, 0, none⟩) m m) k := fun k hk =>
    ⟨(hother k hk.2.1).trans (ho.heap k (fun e => hk.2.2.1 (by rw [e]; rfl))), by rw [hsz]; exact hk.1, hk.2.1, hk.2.2.1, fun e => hk.2.2.2 e⟩
  have hB := (Below.refl 0 wr).setCell (p := ⟨b, 1, none⟩) (Nat.zero_le _) (.slice (some ⟨g2, 0, none⟩) m m)
  refine ⟨⟨set_block (o := 1) hbox _, h.lo, fun k hk => hk, ⟨xs', ?_, hok.carry (fun k hk => (keep k hk).1) fun k hk => (keep k hk).2⟩, ?_, h.ok.undo m⟩, ⟨hB.os.trans ho.os, hB.tape.trans ho.tape, hB.output.trans ho.output, by rw [hsz]; exact Nat.le_refl _, keep⟩⟩
  · refine RowV.later hr fun k hk => ?_
    have hk : some g = some k := hk
    injection hk with hk
    rw [← hk, hother g hgb]
  · refine .inr ⟨g2, m, cur2, ?_, hg2, (hother g2 hg2b).trans ((ho.heap g2 (fun e => hgg e.symm)).trans hh2), ?_, by omega, by omega, ?_⟩
    · show _ = Value.slice _ (σ.tr.take m).length _
      rw [List.length_take, Nat.min_eq_left (by omega)]
    · show (σ.tr.take m).length ≤ m
      rw [List.length_take]; omega
    · show cur2.toList.take (σ.tr.take m).length = (σ.tr.take m).map _
      rw [List.length_take, Nat.min_eq_left (by omega), List.map_take, ← htk, List.take_take, Nat.min_eq_left (by omega)]

end Go.Proofs.Ytlnggaepmclbkaa
