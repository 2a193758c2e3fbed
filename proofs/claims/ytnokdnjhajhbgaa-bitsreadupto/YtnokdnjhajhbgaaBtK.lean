/-
  What BitsLay answers.
-/
import Derived.Test.YtnokdnjhajhbgaaBtJ
namespace Go.Proofs.Ytnokdnjhajhbgaa
open Go.RowKit
set_option linter.unusedVariables false
set_option linter.unusedSimpArgs false

theorem rvector_conv (f : Nat → Bool) (a : Option Addr) (n cap : Nat) (w : World) (h : Bls w a n cap f) (hn : n ≤ 140737488355328) :
    Calls Try.prog 10 #[.slice a n cap] w fun e w' => ∃ g N, e = .returned (.slice (some ⟨g, 0, none⟩) N N) ∧ (∀ W, Below w'.heap.size w' W → (convert 24 9 (.slice (some ⟨g, 0, none⟩) N N)).run Try.prog W = .ok (.string (vS f n)) W) ∧ Below w.heap.size w w' := by
  refine (rvector_any f a n cap w h hn).mono ?_
  rintro e w' ⟨rfl, h1, h2, h3⟩
  refine ⟨_, _, rfl, fun W hW => ?_, h2⟩
  exact conv_bys W _ _ _ _ ((bys_row h1 (by omega)).below hW)
theorem rlist_conv (f : Nat → Bool) (a : Option Addr) (n cap : Nat) (w : World) (h : Bls w a n cap f) (hn : n + 1 ≤ 140737488355328) :
    Calls Try.prog 11 #[.slice a n cap] w fun e w' => ∃ g N, e = .returned (.slice (some ⟨g, 0, none⟩) N N) ∧ (∀ W, Below w'.heap.size w' W → (convert 24 9 (.slice (some ⟨g, 0, none⟩) N N)).run Try.prog W = .ok (.string (lS f n)) W) ∧ Below w.heap.size w w' := by
  refine (rlist_any f a n cap w h hn).mono ?_
  rintro e w' ⟨g, rfl, _, h1, h2⟩
  refine ⟨_, _, rfl, fun W hW => ?_, h2⟩
  exact conv_bys W _ _ _ _ ((bys_row h1 (by omega)).below hW)

/-- What is read of the bytes that were laid. -/
theorem last_ext (f : Nat → Bool) (n : Nat) : (byt (ext f n) (n + 1) (n / 8)).log2 = n % 8 ∧ byt (ext f n) (n + 1) (n / 8) ≠ 0 := by
  have hb : (byt (ext f n) (n + 1) (n / 8)).testBit (n % 8) = true := by
    rw [byt_bit, show 8 * (n / 8) + n % 8 = n by omega, ext_at]
    simp [show n % 8 < 8 by omega]
  have h0 : byt (ext f n) (n + 1) (n / 8) ≠ 0 := by
    intro h
    rw [h] at hb
    simp at hb
  refine ⟨?_, h0⟩
  have hlt : byt (ext f n) (n + 1) (n / 8) < 2 ^ (n % 8 + 1) := by
    apply Nat.lt_pow_two_of_testBit
    intro k hk
    rw [byt_bit]
    simp [show ¬ 8 * (n / 8) + k < n + 1 by omega]
  have h1 := (Nat.log2_lt h0).2 hlt
  have h2 := (Nat.le_log2 h0).2 (Nat.ge_two_pow_of_testBit hb)
  omega
theorem rl_back (f : Nat → Bool) (n : Nat) (hn : n ≤ 4096) : rlE (byt (ext f n) (n + 1)) (n / 8 + 1) (n : Int) = 0 ∧ rlN (byt (ext f n) (n + 1)) (n / 8 + 1) (n : Int) = n := by
  obtain ⟨h1, h2⟩ := last_ext f n
  have hL : rlL (byt (ext f n) (n + 1)) (n / 8 + 1) = n := by
    unfold rlL
    rw [Nat.add_sub_cancel, h1]
    omega
  obtain ⟨e1, e2⟩ := rl_ok (m := byt (ext f n) (n + 1)) (len := n / 8 + 1) (n := (n : Int)) (by omega) (by omega) (by rw [Nat.add_sub_cancel]; exact h2) (by rw [hL]; omega)
  exact ⟨e1, e2.trans hL⟩
theorem rv_back (f : Nat → Bool) (n : Nat) (h1 : 1 ≤ n) (hn : n ≤ 4096) : rvE (byt f n) ((n + 7) / 8) (n : Int) = 0 ∧ rvN (byt f n) ((n + 7) / 8) (n : Int) = n := by
  have h := rv_ok (m := byt f n) (len := (n + 7) / 8) (n := (n : Int)) (by omega) (by omega) (by simp) (frB_false fun i _ h2 => by
    unfold tb
    rw [Int.toNat_natCast] at h2
    rw [byt_bit, show 8 * (i / 8) + i % 8 = i by omega]
    simp [show ¬ i < n by omega])
  rw [Int.toNat_natCast] at h
  exact h
theorem bls_part {w : World} {g n C : Nat} {f h : Nat → Bool} (hb : Bls w (some ⟨g, 0, none⟩) (n + 1) C f) (he : ∀ i, i < n → f i = h i) : Bls w (some ⟨g, 0, none⟩) n C h := by
  rcases hb with ⟨h1, _⟩ | ⟨_, _, h1⟩ | ⟨b, off, h1, h2, h3, h4, h5⟩
  · cases h1
  · omega
  · refine .inr (.inr ⟨b, off, h1, by omega, h3, h4, fun j hj => ?_⟩)
    rw [h5 j (by omega), he j hj]
theorem bls_cell {w : World} {g n C : Nat} {f : Nat → Bool} (hb : Bls w (some ⟨g, 0, none⟩) (n + 1) C f) : g < w.heap.size ∧ w.cell? ⟨g, n, none⟩ = some (.bool (f n)) := by
  obtain ⟨b, off, h1, h2, h3⟩ := bls_at hb n (by omega)
  cases h1
  rw [Nat.zero_add] at h3
  exact ⟨h2, h3⟩

attribute [local go_sem ↓] slB_eq

set_option maxRecDepth 20000 in
set_option maxHeartbeats 1000000 in
theorem lay_any (f : Nat → Bool) (a : Option Addr) (n c : Nat) (w : World) (h1 : Bls w a n c f) (hn : n ≤ 140737488351232) :
    Calls Try.prog 3 #[.slice a n c] w fun e w' => e = .returned (.bool true) ∧ Below w.heap.size w w' := by
  have H1 : Hid (∀ W, Below w.heap.size w W → Bls W a n c f) := fun W hW => h1.below hW
  have SM : Hid (smB f n f n = true) := smB_true fun _ _ => rfl
  have n1 : (n : Int) ≤ 140737488351232 := by omega
  have n0 : (0 : Int) ≤ (n : Int) := by omega
  clear h1
  go_enter Try.func3, Try.ntmps3
  go_upto_region 4 with (first
    | (go_at_call 7; refine (awake_any _).mono ?_; rintro r w1 ⟨rfl, hb1⟩; have HB1 := hid hb1; clear hb1)
    | (at_builtin; refine wpList_append_bit w2 rfl _ _ rfl w.heap.size v2 n (ext f n) true rfl HO2.out rfl (ext_at f n).symm (by omega) HB2.out.size ?_; intro g C w3 ho3 hg3; have HB3 := hid (below_grown HB2.out HO2.out HB2.out.size hg3); obtain ⟨a', C', he, hC1, hC2, hbl, hbase⟩ := owns_bls ho3; cases he; have hgb := hbase _ rfl; have sl1 := fun W => slB_run W (some ⟨g, 0, none⟩) (n + 1) C n (by omega); have HBL := hid hbl; have HGB := hid hgb; clear ho3 hg3 hbl hbase)
    | (at_builtin; refine wpList_append_bls _ rfl _ _ rfl w.heap.size _ 0 [] rfl (empty_ownsB _ HB1.out.size) a n c f rfl (H1.out _ (HB1.out.alloc HB1.out.size _)) (by omega) (by have := HB1.out.size; simp; omega) ?_; intro v2 w2 ho2 hg2; have HB2 := hid (below_grown (HB1.out.alloc HB1.out.size _) (empty_ownsB _ HB1.out.size) (by have := HB1.out.size; simp; omega) hg2); have HO2 := hid (copy_owns (w := w) ho2 (ext_of f n)); clear ho2 hg2))
  have HM3 : Hid (∀ W, Below w3.heap.size w3 W → Bls W (some ⟨g, 0, none⟩) n C f) := fun W hW => bls_part (HBL.out.below hW) (ext_congr f n)
  have hgc := bls_cell HBL.out
  rw [ext_at] at hgc
  have HGC := hid hgc
  clear hgc HO2 HB1 HB2
  go_upto_region 6 with (first
    | (go_at_call 8; refine (vector_any f (some ⟨g, 0, none⟩) n C _ (HM3.out _ (Below.refl _ _)) (by omega)).mono ?_; rintro r w4 ⟨rfl, x1, x2, x3⟩; have X1 := hid x1; have X2 := hid x2; clear x1 x2 x3)
    | (go_at_call 9; refine (list_any f (some ⟨g, 0, none⟩) n C _ (HM3.out _ X2.out) (by omega)).mono ?_; rintro r w5 ⟨rfl, y1, y2, y3⟩; have Y1 := hid y1; have Y2 := hid y2; clear y1 y2 y3))
  have h35 : Below w3.heap.size w3 w5 := X2.out.trans (Y2.out.mono X2.out.size)
  have HB5 := hid (HB3.out.trans (h35.mono HB3.out.size))
  have HM : Hid (∀ W, Below w.heap.size w W → Below w5.heap.size w5 W → Bls W (some ⟨g, 0, none⟩) n C f) := fun W _ hW => HM3.out W (h35.trans (hW.mono h35.size))
  have cm : ∀ W, Below w5.heap.size w5 W → W.cell? ⟨g, n, none⟩ = some (.bool true) := fun W hW => (below_cell (h35.trans (hW.mono h35.size)) HGC.out.1).trans HGC.out.2
  have X1' := (Y2.out.block w3.heap.size (Array.getElem?_eq_some_iff.1 X1.out).1).trans X1.out
  have va : ∀ W, Below w5.heap.size w5 W → Bys W (some ⟨w3.heap.size, 0, none⟩) ((n + 7) / 8) ((n + 7) / 8) (fun q => (byt f n q : Int)) := fun W hW => (bys_row X1' (by omega)).below hW
  have vb : ∀ W, Below w5.heap.size w5 W → Bys W (some ⟨w4.heap.size, 0, none⟩) (n / 8 + 1) (n / 8 + 1) (fun q => (byt (ext f n) (n + 1) q : Int)) := fun W hW => (bys_row Y1.out (by omega)).below hW
  have ca : ∀ W, Below w5.heap.size w5 W → (convert 24 9 (.slice (some ⟨w3.heap.size, 0, none⟩) ((n + 7) / 8) ((n + 7) / 8))).run Try.prog W = .ok (.string (vS f n)) W := fun W hW => conv_bys W _ _ _ _ (va W hW)
  have cb : ∀ W, Below w5.heap.size w5 W → (convert 24 9 (.slice (some ⟨w4.heap.size, 0, none⟩) (n / 8 + 1) (n / 8 + 1))).run Try.prog W = .ok (.string (lS f n)) W := fun W hW => conv_bys W _ _ _ _ (vb W hW)
  obtain ⟨p, ep⟩ : ∃ p, w3.heap.size = p := ⟨_, rfl⟩
  obtain ⟨q, eq⟩ : ∃ q, w4.heap.size = q := ⟨_, rfl⟩
  obtain ⟨NV, eV⟩ : ∃ NV, (n + 7) / 8 = NV := ⟨_, rfl⟩
  obtain ⟨NL, eL⟩ : ∃ NL, n / 8 + 1 = NL := ⟨_, rfl⟩
  rw [ep, eV] at ca va
  rw [eq, eL] at cb vb
  rw [ep, eq, eV, eL]
  have VA := hid va
  have VB := hid vb
  have EE := hid (And.intro eV eL)
  have wr1 : IntKind.i64.wrap ((n : Int) + 1) = (n : Int) + 1 := i64_of _ (by omega) (by omega)
  have wr2 : (n : Int) < (n : Int) + 1 := by omega
  have sl2 := fun W => slB_run W (some ⟨g, 0, none⟩) n C (n + 1) (by omega)
  rw [show ((n + 1 : Nat) : Int) = (n : Int) + 1 by omega] at sl2
  clear h35 X1' va vb ep eq eV eL HM3 HGC HBL HGB X1 X2 Y1 Y2 HB3
  refine wp_region_noPanic ?_
  refine wp_region_held_drew (S := fun w' => Below w5.heap.size w5 w') (by kernel_rfl) ((Below.refl _ _).drew) (fun hHeld => ?_)
  refine wpAnyH_take (i := 0) (v := ?v1) rfl (by kernel_rfl) (by kernel_rfl) (by kernel_rfl) (fun _ _ _ h => h) (Or.inl ⟨by rfl, ?hy1⟩) hHeld ?rest1
  case hy1 =>
    intro w hSw
    go_simp
    try with_reducible rfl
  try simp only [Act.put, List.setIfInBounds_toArray, List.set_cons_zero, List.set_cons_succ, Array.toArray_toList, List.getElem_toArray, List.getElem_cons_zero, List.getElem_cons_succ]
  refine wpAnyH_take (i := 1) (v := ?v2) rfl (by kernel_rfl) (by kernel_rfl) (by kernel_rfl) (fun _ _ _ h => h) (Or.inl ⟨by rfl, ?hy2⟩) hHeld ?rest2
  case hy2 =>
    intro w hSw
    go_simp
    try with_reducible rfl
  try simp only [Act.put, List.setIfInBounds_toArray, List.set_cons_zero, List.set_cons_succ, Array.toArray_toList, List.getElem_toArray, List.getElem_cons_zero, List.getElem_cons_succ]
  refine wpAnyH_take (i := 2) (v := ?v3) rfl (by kernel_rfl) (by kernel_rfl) (by kernel_rfl) (fun _ _ _ h => h) (Or.inl ⟨by rfl, ?hy3⟩) hHeld ?rest3
  case hy3 =>
    intro w hSw
    go_simp
    try with_reducible rfl
  try simp only [Act.put, List.setIfInBounds_toArray, List.set_cons_zero, List.set_cons_succ, Array.toArray_toList, List.getElem_toArray, List.getElem_cons_zero, List.getElem_cons_succ]
  refine wpAnyH_ready (rs := [3]) (by kernel_rfl) (by simp) ?_
  refine AllReadyH.cons rfl (fun K hK => ?_) AllReadyH.nil
  go_simp
  refine (rvector_conv f a n c _ (H1.out _ (HB5.out.drew)) (by omega)).mono ?_
  rintro r w6 ⟨g6, N6, rfl, v6, hb6⟩
  dsimp only
  refine hK.out _ _ (hHeld.trans (hb6.mono hHeld.size)) (fun hHeld => ?_)
  clear hK K
  try simp only [Act.put, List.setIfInBounds_toArray, List.set_cons_zero, List.set_cons_succ, Array.toArray_toList, List.getElem_toArray, List.getElem_cons_zero, List.getElem_cons_succ]
  have h56 : Below w5.heap.size w5 w6 := hHeld
  clear hHeld
  refine wpAnyH_mono (S' := fun w' => Below w5.heap.size w5 w' ∧ Below w6.heap.size w6 w') (fun _ h => h.1) _ _ _ _ ?_
  have hHeld : Below w5.heap.size w5 w6 ∧ Below w6.heap.size w6 w6 := ⟨h56, Below.refl _ _⟩
  have H56 := hid h56
  clear h56 hb6
  refine wpAnyH_take (i := 4) (v := ?v4) rfl (by kernel_rfl) (by kernel_rfl) (by kernel_rfl) (fun _ _ _ h => h) (Or.inl ⟨by rfl, ?hy4⟩) hHeld ?rest4
  case hy4 =>
    intro w hSw
    have hS1 := hSw.1
    have hS2 := hSw.2
    go_simp
    try with_reducible rfl
  try simp only [Act.put, List.setIfInBounds_toArray, List.set_cons_zero, List.set_cons_succ, Array.toArray_toList, List.getElem_toArray, List.getElem_cons_zero, List.getElem_cons_succ]
  refine wpAnyH_take (i := 5) (v := ?v5) rfl (by kernel_rfl) (by kernel_rfl) (by kernel_rfl) (fun _ _ _ h => h) (Or.inl ⟨by rfl, ?hy5⟩) hHeld ?rest5
  case hy5 =>
    intro w hSw
    go_simp
    try with_reducible rfl
  try simp only [Act.put, List.setIfInBounds_toArray, List.set_cons_zero, List.set_cons_succ, Array.toArray_toList, List.getElem_toArray, List.getElem_cons_zero, List.getElem_cons_succ]
  refine wpAnyH_take (i := 6) (v := ?v6) rfl (by kernel_rfl) (by kernel_rfl) (by kernel_rfl) (fun _ _ _ h => h) (Or.inl ⟨by rfl, ?hy6⟩) hHeld ?rest6
  case hy6 =>
    intro w hSw
    go_simp
    try with_reducible rfl
  try simp only [Act.put, List.setIfInBounds_toArray, List.set_cons_zero, List.set_cons_succ, Array.toArray_toList, List.getElem_toArray, List.getElem_cons_zero, List.getElem_cons_succ]
  refine wpAnyH_take (i := 7) (v := ?v7) rfl (by kernel_rfl) (by kernel_rfl) (by kernel_rfl) (fun _ _ _ h => h) (Or.inl ⟨by rfl, ?hy7⟩) hHeld ?rest7
  case hy7 =>
    intro w hSw
    go_simp
    try with_reducible rfl
  try simp only [Act.put, List.setIfInBounds_toArray, List.set_cons_zero, List.set_cons_succ, Array.toArray_toList, List.getElem_toArray, List.getElem_cons_zero, List.getElem_cons_succ]
  refine wpAnyH_take (i := 8) (v := ?v8) rfl (by kernel_rfl) (by kernel_rfl) (by kernel_rfl) (fun _ _ _ h => h) (Or.inl ⟨by rfl, ?hy8⟩) hHeld ?rest8
  case hy8 =>
    intro w hSw
    have hS1 := hSw.1
    have hS2 := hSw.2
    go_simp
    try with_reducible rfl
  try simp only [Act.put, List.setIfInBounds_toArray, List.set_cons_zero, List.set_cons_succ, Array.toArray_toList, List.getElem_toArray, List.getElem_cons_zero, List.getElem_cons_succ]
  refine wpAnyH_take (i := 9) (v := ?v9) rfl (by kernel_rfl) (by kernel_rfl) (by kernel_rfl) (fun _ _ _ h => h) (Or.inl ⟨by rfl, ?hy9⟩) hHeld ?rest9
  case hy9 =>
    intro w hSw
    go_simp
    try with_reducible rfl
  try simp only [Act.put, List.setIfInBounds_toArray, List.set_cons_zero, List.set_cons_succ, Array.toArray_toList, List.getElem_toArray, List.getElem_cons_zero, List.getElem_cons_succ]
  refine wpAnyH_ready (rs := [10]) (by kernel_rfl) (by simp) ?_
  refine AllReadyH.cons rfl (fun K hK => ?_) AllReadyH.nil
  go_simp
  refine (rlist_conv f a n c _ (H1.out _ (HB5.out.trans (H56.out.mono HB5.out.size))) (by omega)).mono ?_
  rintro r w7 ⟨g7, N7, rfl, v7, hb7⟩
  dsimp only
  refine hK.out _ _ (⟨hHeld.1.trans (hb7.mono hHeld.1.size), hb7⟩) (fun hHeld => ?_)
  clear hK K
  try simp only [Act.put, List.setIfInBounds_toArray, List.set_cons_zero, List.set_cons_succ, Array.toArray_toList, List.getElem_toArray, List.getElem_cons_zero, List.getElem_cons_succ]
  have h57 : Below w5.heap.size w5 w7 := hHeld.1
  clear hHeld
  refine wpAnyH_mono (S' := fun w' => (Below w5.heap.size w5 w' ∧ Below w6.heap.size w6 w') ∧ Below w7.heap.size w7 w') (fun _ h => h.1) _ _ _ _ ?_
  have hHeld : (Below w5.heap.size w5 w7 ∧ Below w6.heap.size w6 w7) ∧ Below w7.heap.size w7 w7 := ⟨⟨h57, hb7⟩, Below.refl _ _⟩
  have H57 := hid h57
  clear h57 hb7
  refine wpAnyH_take (i := 11) (v := ?v10) rfl (by kernel_rfl) (by kernel_rfl) (by kernel_rfl) (fun _ _ _ h => h) (Or.inl ⟨by rfl, ?hy10⟩) hHeld ?rest10
  case hy10 =>
    intro w hSw
    have hS1 := hSw.1.1
    have hS3 := hSw.2
    go_simp
    try with_reducible rfl
  try simp only [Act.put, List.setIfInBounds_toArray, List.set_cons_zero, List.set_cons_succ, Array.toArray_toList, List.getElem_toArray, List.getElem_cons_zero, List.getElem_cons_succ]
  refine wpAnyH_take (i := 12) (v := ?v11) rfl (by kernel_rfl) (by kernel_rfl) (by kernel_rfl) (fun _ _ _ h => h) (Or.inl ⟨by rfl, ?hy11⟩) hHeld ?rest11
  case hy11 =>
    intro w hSw
    go_simp
    try with_reducible rfl
  try simp only [Act.put, List.setIfInBounds_toArray, List.set_cons_zero, List.set_cons_succ, Array.toArray_toList, List.getElem_toArray, List.getElem_cons_zero, List.getElem_cons_succ]
  refine wpAnyH_take (i := 13) (v := ?v12) rfl (by kernel_rfl) (by kernel_rfl) (by kernel_rfl) (fun _ _ _ h => h) (Or.inl ⟨by rfl, ?hy12⟩) hHeld ?rest12
  case hy12 =>
    intro w hSw
    go_simp
    try with_reducible rfl
  try simp only [Act.put, List.setIfInBounds_toArray, List.set_cons_zero, List.set_cons_succ, Array.toArray_toList, List.getElem_toArray, List.getElem_cons_zero, List.getElem_cons_succ]
  refine wpAnyH_take (i := 14) (v := ?v13) rfl (by kernel_rfl) (by kernel_rfl) (by kernel_rfl) (fun _ _ _ h => h) (Or.inl ⟨by rfl, ?hy13⟩) hHeld ?rest13
  case hy13 =>
    intro w hSw
    go_simp
    try with_reducible rfl
  try simp only [Act.put, List.setIfInBounds_toArray, List.set_cons_zero, List.set_cons_succ, Array.toArray_toList, List.getElem_toArray, List.getElem_cons_zero, List.getElem_cons_succ]
  refine wpAnyH_take (i := 15) (v := ?v14) rfl (by kernel_rfl) (by kernel_rfl) (by kernel_rfl) (fun _ _ _ h => h) (Or.inl ⟨by rfl, ?hy14⟩) hHeld ?rest14
  case hy14 =>
    intro w hSw
    go_simp
    try with_reducible rfl
  try simp only [Act.put, List.setIfInBounds_toArray, List.set_cons_zero, List.set_cons_succ, Array.toArray_toList, List.getElem_toArray, List.getElem_cons_zero, List.getElem_cons_succ]
  refine wpAnyH_take (i := 16) (v := ?v15) rfl (by kernel_rfl) (by kernel_rfl) (by kernel_rfl) (fun _ _ _ h => h) (Or.inl ⟨by rfl, ?hy15⟩) hHeld ?rest15
  case hy15 =>
    intro w hSw
    go_simp
    try with_reducible rfl
  try simp only [Act.put, List.setIfInBounds_toArray, List.set_cons_zero, List.set_cons_succ, Array.toArray_toList, List.getElem_toArray, List.getElem_cons_zero, List.getElem_cons_succ]
  refine wpAnyH_ready (rs := [17]) (by kernel_rfl) (by simp) ?_
  refine AllReadyH.cons rfl (fun K hK => ?_) AllReadyH.nil
  go_simp
  refine (same_any f (some ⟨g, 0, none⟩) n C f a n c _ (HM.out _ (HB5.out.trans (H57.out.mono HB5.out.size)) H57.out) (H1.out _ (HB5.out.trans (H57.out.mono HB5.out.size)))).mono ?_
  rintro r w8 ⟨rfl, hb8⟩
  dsimp only
  rw [SM.out]
  refine hK.out _ _ (⟨⟨hHeld.1.1.trans (hb8.mono hHeld.1.1.size), hHeld.1.2.trans (hb8.mono hHeld.1.2.size)⟩, hb8⟩) (fun hHeld => ?_)
  clear hK K
  try simp only [Act.put, List.setIfInBounds_toArray, List.set_cons_zero, List.set_cons_succ, Array.toArray_toList, List.getElem_toArray, List.getElem_cons_zero, List.getElem_cons_succ]
  have h58 : Below w5.heap.size w5 w8 := hHeld.1.1
  have H58 := hid h58
  clear h58 hb8
  refine wpAnyH_take (i := 18) (v := ?v16) rfl (by kernel_rfl) (by kernel_rfl) (by kernel_rfl) (fun _ _ _ h => h) (Or.inl ⟨by rfl, ?hy16⟩) hHeld ?rest16
  case hy16 =>
    intro w hSw
    go_simp
    try with_reducible rfl
  try simp only [Act.put, List.setIfInBounds_toArray, List.set_cons_zero, List.set_cons_succ, Array.toArray_toList, List.getElem_toArray, List.getElem_cons_zero, List.getElem_cons_succ]
  refine wpAnyH_take (i := 19) (v := ?v17) rfl (by kernel_rfl) (by kernel_rfl) (by kernel_rfl) (fun _ _ _ h => h) (Or.inl ⟨by rfl, ?hy17⟩) hHeld ?rest17
  case hy17 =>
    intro w hSw
    go_simp
    try with_reducible rfl
  try simp only [Act.put, List.setIfInBounds_toArray, List.set_cons_zero, List.set_cons_succ, Array.toArray_toList, List.getElem_toArray, List.getElem_cons_zero, List.getElem_cons_succ]
  refine wpAnyH_take (i := 20) (v := ?v18) rfl (by kernel_rfl) (by kernel_rfl) (by kernel_rfl) (fun _ _ _ h => h) (Or.inl ⟨by rfl, ?hy18⟩) hHeld ?rest18
  case hy18 =>
    intro w hSw
    go_simp
    try with_reducible rfl
  try simp only [Act.put, List.setIfInBounds_toArray, List.set_cons_zero, List.set_cons_succ, Array.toArray_toList, List.getElem_toArray, List.getElem_cons_zero, List.getElem_cons_succ]
  refine wpAnyH_take (i := 21) (v := ?v19) rfl (by kernel_rfl) (by kernel_rfl) (by kernel_rfl) (fun _ _ _ h => h) (Or.inl ⟨by rfl, ?hy19⟩) hHeld ?rest19
  case hy19 =>
    intro w hSw
    go_simp
    try with_reducible rfl
  try simp only [Act.put, List.setIfInBounds_toArray, List.set_cons_zero, List.set_cons_succ, Array.toArray_toList, List.getElem_toArray, List.getElem_cons_zero, List.getElem_cons_succ]
  refine wpAnyH_take (i := 22) (v := ?v20) rfl (by kernel_rfl) (by kernel_rfl) (by kernel_rfl) (fun _ _ _ h => h) (Or.inl ⟨by rfl, ?hy20⟩) hHeld ?rest20
  case hy20 =>
    intro w hSw
    go_simp
    try with_reducible rfl
  try simp only [Act.put, List.setIfInBounds_toArray, List.set_cons_zero, List.set_cons_succ, Array.toArray_toList, List.getElem_toArray, List.getElem_cons_zero, List.getElem_cons_succ]
  refine wpAnyH_take (i := 23) (v := ?v21) rfl (by kernel_rfl) (by kernel_rfl) (by kernel_rfl) (fun _ _ _ h => h) (Or.inl ⟨by rfl, ?hy21⟩) hHeld ?rest21
  case hy21 =>
    intro w hSw
    go_simp
    try with_reducible rfl
  try simp only [Act.put, List.setIfInBounds_toArray, List.set_cons_zero, List.set_cons_succ, Array.toArray_toList, List.getElem_toArray, List.getElem_cons_zero, List.getElem_cons_succ]
  refine wpAnyH_take (i := 24) (v := ?v22) rfl (by kernel_rfl) (by kernel_rfl) (by kernel_rfl) (fun _ _ _ h => h) (Or.inl ⟨by rfl, ?hy22⟩) hHeld ?rest22
  case hy22 =>
    intro w hSw
    go_simp
    try with_reducible rfl
  try simp only [Act.put, List.setIfInBounds_toArray, List.set_cons_zero, List.set_cons_succ, Array.toArray_toList, List.getElem_toArray, List.getElem_cons_zero, List.getElem_cons_succ]
  refine wpAnyH_take (i := 25) (v := ?v23) rfl (by kernel_rfl) (by kernel_rfl) (by kernel_rfl) (fun _ _ _ h => h) (Or.inl ⟨by rfl, ?hy23⟩) hHeld ?rest23
  case hy23 =>
    intro w hSw
    have hS1 := hSw.1.1
    go_simp
    try with_reducible rfl
  try simp only [Act.put, List.setIfInBounds_toArray, List.set_cons_zero, List.set_cons_succ, Array.toArray_toList, List.getElem_toArray, List.getElem_cons_zero, List.getElem_cons_succ]
  refine wpAnyH_take (i := 26) (v := ?v24) rfl (by kernel_rfl) (by kernel_rfl) (by kernel_rfl) (fun _ _ _ h => h) (Or.inl ⟨by rfl, ?hy24⟩) hHeld ?rest24
  case hy24 =>
    intro w hSw
    go_simp
    try with_reducible rfl
  try simp only [Act.put, List.setIfInBounds_toArray, List.set_cons_zero, List.set_cons_succ, Array.toArray_toList, List.getElem_toArray, List.getElem_cons_zero, List.getElem_cons_succ]
  refine wpAnyH_take (i := 27) (v := ?v25) rfl (by kernel_rfl) (by kernel_rfl) (by kernel_rfl) (fun _ _ _ h => h) (Or.inl ⟨by rfl, ?hy25⟩) hHeld ?rest25
  case hy25 =>
    intro w hSw
    go_simp
    try with_reducible rfl
  try simp only [Act.put, List.setIfInBounds_toArray, List.set_cons_zero, List.set_cons_succ, Array.toArray_toList, List.getElem_toArray, List.getElem_cons_zero, List.getElem_cons_succ]
  refine wpAnyH_take (i := 28) (v := ?v26) rfl (by kernel_rfl) (by kernel_rfl) (by kernel_rfl) (fun _ _ _ h => h) (Or.inl ⟨by rfl, ?hy26⟩) hHeld ?rest26
  case hy26 =>
    intro w hSw
    go_simp
    try with_reducible rfl
  try simp only [Act.put, List.setIfInBounds_toArray, List.set_cons_zero, List.set_cons_succ, Array.toArray_toList, List.getElem_toArray, List.getElem_cons_zero, List.getElem_cons_succ]
  refine wpAnyH_take (i := 29) (v := ?v27) rfl (by kernel_rfl) (by kernel_rfl) (by kernel_rfl) (fun _ _ _ h => h) (Or.inl ⟨by rfl, ?hy27⟩) hHeld ?rest27
  case hy27 =>
    intro w hSw
    have hS1 := hSw.1.1
    go_simp
    try with_reducible rfl
  try simp only [Act.put, List.setIfInBounds_toArray, List.set_cons_zero, List.set_cons_succ, Array.toArray_toList, List.getElem_toArray, List.getElem_cons_zero, List.getElem_cons_succ]
  refine wpAnyH_take (i := 30) (v := ?v28) rfl (by kernel_rfl) (by kernel_rfl) (by kernel_rfl) (fun _ _ _ h => h) (Or.inl ⟨by rfl, ?hy28⟩) hHeld ?rest28
  case hy28 =>
    intro w hSw
    go_simp
    try with_reducible rfl
  try simp only [Act.put, List.setIfInBounds_toArray, List.set_cons_zero, List.set_cons_succ, Array.toArray_toList, List.getElem_toArray, List.getElem_cons_zero, List.getElem_cons_succ]
  refine wpAnyH_take (i := 31) (v := ?v29) rfl (by kernel_rfl) (by kernel_rfl) (by kernel_rfl) (fun _ _ _ h => h) (Or.inl ⟨by rfl, ?hy29⟩) hHeld ?rest29
  case hy29 =>
    intro w hSw
    go_simp
    try with_reducible rfl
  try simp only [Act.put, List.setIfInBounds_toArray, List.set_cons_zero, List.set_cons_succ, Array.toArray_toList, List.getElem_toArray, List.getElem_cons_zero, List.getElem_cons_succ]
  refine wpAnyH_done (by kernel_rfl) ?_ _
  refine NoPanic.normal ?_
  go_wp2_with (fail)
  have HB8 := hid (HB5.out.trans (H58.out.mono HB5.out.size))
  have HM8 := hid (HM.out _ HB8.out H58.out)
  have hle := cnt_le f n
  clear v6 v7 hHeld H56 H57 HB5 ca cb cm sl1 sl2 HM wr1 wr2
  go_loopw [6, 7] (fun t v wr => ∃ k : Nat, k ≤ n ∧ v = .int .i64 k ∧ t = .int .i64 (cnt f k) ∧ wr = w8) (fun _ v _ => n - (intOf v).toNat)
  case atStart => exact ⟨0, by omega, rfl, rfl, rfl⟩
  case round =>
    obtain ⟨k, hk, rfl, rfl, rfl⟩ := hrel
    by_cases hkn : k < n
    · obtain ⟨b, off, rfl, hb, ck⟩ := bls_at (H1.out _ HB8.out) k hkn
      have hlk := cnt_le f k
      obtain ⟨X, eX⟩ : ∃ X, cnt f k = X := ⟨_, rfl⟩
      obtain ⟨x, ex⟩ : ∃ x, f k = x := ⟨_, rfl⟩
      rw [ex] at ck
      rw [eX] at hlk ⊢
      have k1 : (k : Int) < (n : Int) := by omega
      have k2 : (0 : Int) ≤ (k : Int) := by omega
      have k3 : (X : Int) ≤ (k : Int) := by omega
      have E : Hid (cnt f (k + 1) = X + (if x = true then 1 else 0)) := by
        show cnt f k + (if f k = true then 1 else 0) = _
        rw [eX, ex]
      clear hlk eX ex
      cases x
      · go_wp2
        go_roundw
        case rel => exact ⟨k + 1, by omega, by go_num, by rw [E.out]; rfl, trivial⟩
        case measure => simp [intOf]; omega
      · go_wp2
        go_roundw
        case rel => exact ⟨k + 1, by omega, by go_num, by rw [E.out]; rfl, trivial⟩
        case measure => simp [intOf]; omega
    · have ek : k = n := by omega
      subst ek
      have HCM := hid (fun W hW => count_any f (some ⟨g, 0, none⟩) k C W (HM8.out.below (w' := W) hW) (by omega))
      obtain ⟨X, eX⟩ : ∃ X, cnt f k = X := ⟨_, rfl⟩
      rw [eX] at HCM ⊢
      by_cases h4 : (4096 : Int) < (k : Int)
      · go_wp2_with (go_at_call 13; refine (HCM.out _ (Below.refl _ _)).mono ?_; rintro r w9 ⟨rfl, rfl⟩)
        go_ret
        exact ⟨rfl, HB8.out⟩
      · obtain ⟨eV, eL⟩ := EE.out
        have hrl := rl_back f k (by omega)
        have RL := readl_any (byt (ext f k) (k + 1)) (some ⟨q, 0, none⟩) NL NL k wr (VB.out _ H58.out) (fun _ _ => byt_lt _ _ _) (by omega)
        rw [← eL, hrl.1, hrl.2, eL] at RL
        have HRL := hid RL
        have SX : Hid (smB (tb (byt (ext f k) (k + 1))) k f k = true) := smB_true fun i hi => by rw [tb_byt _ _ _ (by omega), ext_congr f k i hi]
        have RV := fun W (hW : Below wr.heap.size wr W) => readv_any (byt f k) (some ⟨p, 0, none⟩) NV NV k W (VA.out _ (H58.out.trans (hW.mono H58.out.size))) (fun _ _ => byt_lt _ _ _) (by omega)
        have SY : Hid (smB (tb (byt f k)) k f k = true) := smB_true fun i hi => tb_byt _ _ _ hi
        have h4' : (k : Int) ≤ 4096 := by omega
        by_cases hk0 : k = 0
        · have hrv := rv_arg (m := byt f k) (len := NV) (n := (k : Int)) (.inl (by omega))
          rw [hrv.1, hrv.2] at RV
          have HRV := hid RV
          have k0 : ((k : Int) == 0) = true := by rw [beq_iff_eq]; omega
          clear RL RV hrl hrv eV eL h4 VA VB hk0
          go_wp2_with (first
            | (go_at_call 14; refine HRL.out.mono ?_; rintro r w9 ⟨a9, c9, rfl, b9, hb9⟩; have B9 := hid b9; have HB9 := hid hb9; clear b9 hb9)
            | (go_at_call 12; refine (same_any _ a9 k c9 f a k c _ B9.out (H1.out _ (HB8.out.trans (HB9.out.mono HB8.out.size)))).mono ?_; rintro r w10 ⟨rfl, hb10⟩; rw [SX.out]; have HB10 := hid (HB9.out.trans (hb10.mono HB9.out.size)); clear hb10)
            | (go_at_call 13; refine (HCM.out _ HB10.out).mono ?_; rintro r w11 ⟨rfl, rfl⟩)
            | (go_at_call 15; refine (HRV.out _ HB10.out).mono ?_; rintro r w12 ⟨a12, c12, rfl, b12, hb12⟩; have B12 := hid b12; have HB12 := hid (HB10.out.trans (hb12.mono HB10.out.size)); clear b12 hb12))
          go_ret
          exact ⟨rfl, HB8.out.trans (HB12.out.mono HB8.out.size)⟩
        · have hrv := rv_back f k (by omega) (by omega)
          rw [eV] at hrv
          rw [hrv.1, hrv.2] at RV
          have HRV := hid RV
          have k0 : ((k : Int) == 0) = false := by rw [beq_eq_false_iff_ne]; omega
          clear RL RV hrl hrv eV eL h4 VA VB hk0
          go_wp2_with (first
            | (go_at_call 14; refine HRL.out.mono ?_; rintro r w9 ⟨a9, c9, rfl, b9, hb9⟩; have B9 := hid b9; have HB9 := hid hb9; clear b9 hb9)
            | (go_at_call 12; refine (same_any _ a12 k c12 f a k c _ B12.out (H1.out _ (HB8.out.trans (HB12.out.mono HB8.out.size)))).mono ?_; rintro r w13 ⟨rfl, hb13⟩; rw [SY.out]; have HB13 := hid (HB12.out.trans (hb13.mono HB12.out.size)); clear hb13)
            | (go_at_call 12; refine (same_any _ a9 k c9 f a k c _ B9.out (H1.out _ (HB8.out.trans (HB9.out.mono HB8.out.size)))).mono ?_; rintro r w10 ⟨rfl, hb10⟩; rw [SX.out]; have HB10 := hid (HB9.out.trans (hb10.mono HB9.out.size)); clear hb10)
            | (go_at_call 13; refine (HCM.out _ HB10.out).mono ?_; rintro r w11 ⟨rfl, rfl⟩)
            | (go_at_call 15; refine (HRV.out _ HB10.out).mono ?_; rintro r w12 ⟨a12, c12, rfl, b12, hb12⟩; have B12 := hid b12; have HB12 := hid (HB10.out.trans (hb12.mono HB10.out.size)); clear b12 hb12))
          go_ret
          exact ⟨rfl, HB8.out.trans (HB13.out.mono HB8.out.size)⟩

end Go.Proofs.Ytnokdnjhajhbgaa
