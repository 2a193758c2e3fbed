/-
  What List answers.
-/

import Derived.Test.YtenhgoclfljjlaaDoorVfE
import Derived.Test.YtenhgoclfljjlaaDoorLkL
namespace Go.Proofs.YtenhgoclfljjlaaDoor

open Go.RowKit

set_option linter.unusedVariables false

set_option linter.unusedSimpArgs false

/-- The elements of a slice of numbers, whatever it is. -/
def N64 (w : World) (a : Option Addr) (n : Nat) (f : Nat → Int) : Prop :=
  n = 0 ∨ ∃ b off, a = some ⟨b, off, none⟩ ∧ b < w.heap.size ∧ ∀ j, j < n → w.cell? ⟨b, off + j, none⟩ = some (.int .u64 (f j))

theorem N64.below {w w' : World} {a : Option Addr} {n : Nat} {f : Nat → Int} (h : N64 w a n f) (hb : Below w.heap.size w w') : N64 w' a n f := by
  rcases h with h | ⟨b, off, h1, h2, h3⟩
  · exact .inl h
  · exact .inr ⟨b, off, h1, Nat.lt_of_lt_of_le h2 hb.size, fun j hj => (below_cell hb h2).trans (h3 j hj)⟩

theorem n64_row {w : World} {g n : Nat} {f : Nat → Int} {t : TypeId} (h : w.heap[g]? = some (.cells (vs .u64 n f) t)) : N64 w (some ⟨g, 0, none⟩) n f :=
  .inr ⟨g, 0, rfl, (Array.getElem?_eq_some_iff.1 h).1, fun j hj => by rw [Nat.zero_add]; exact row_int h j hj⟩

/-- A list behind k rounds, the last one first. -/
def lsV (s : Nat → Int) (n : Int) (f : Nat → Int) : Nat → Nat → Int
  | 0, j => f j
  | k + 1, j => lsV s n f k (rdV s (5 - (k : Int)) n j).toNat

theorem lsV_at (s : Nat → Int) (n : Int) (f : Nat → Int) (k : Nat) {x : Int} (h : 0 ≤ x) : lsV s n f (k + 1) x.toNat = lsV s n f k (rdV s (5 - (k : Int)) n x).toNat := by
  show lsV s n f k (rdV s (5 - (k : Int)) n (x.toNat : Int)).toNat = _
  rw [Int.toNat_of_nonneg h]

theorem lsV_six (s : Nat → Int) (n : Int) (f : Nat → Int) (j : Nat) (hj : (j : Int) < n) : lsV s n f 6 j = f (plV s n 6 j).toNat := by
  have p := fun k => plV_bd s (i := (j : Int)) (by omega) hj k
  have h0 : lsV s n f 6 j = lsV s n f 5 (plV s n 1 j).toNat := rfl
  have h1 : lsV s n f 5 (plV s n 1 j).toNat = lsV s n f 4 (plV s n 2 j).toNat := lsV_at s n f 4 (p 1).1
  have h2 : lsV s n f 4 (plV s n 2 j).toNat = lsV s n f 3 (plV s n 3 j).toNat := lsV_at s n f 3 (p 2).1
  have h3 : lsV s n f 3 (plV s n 3 j).toNat = lsV s n f 2 (plV s n 4 j).toNat := lsV_at s n f 2 (p 3).1
  have h4 : lsV s n f 2 (plV s n 4 j).toNat = lsV s n f 1 (plV s n 5 j).toNat := lsV_at s n f 1 (p 4).1
  have h5 : lsV s n f 1 (plV s n 5 j).toNat = lsV s n f 0 (plV s n 6 j).toNat := lsV_at s n f 0 (p 5).1
  rw [h0, h1, h2, h3, h4, h5]
  rfl

theorem made_64 (n : Nat) : madeCells #[.int .u64 0] n = vs .u64 n (fun _ => 0) := by
  apply Array.ext_getElem?
  intro j
  by_cases hj : j < n
  · rw [vs_get _ _ _ _ hj]
    simp [madeCells, hj, Nat.mod_one]
  · rw [Array.getElem?_eq_none (by rw [size_madeCells]; omega), Array.getElem?_eq_none (by rw [vs_size]; omega)]

theorem make_64 (W : World) (n : Nat) (hn : n ≤ 17592186044416) : (Instr.makeSlice 37 (.int .i64 n) (.int .i64 n)).run Tryd.prog W = .ok (.slice (some ⟨W.heap.size, 0, none⟩) n n) (W.alloc (.cells (vs .u64 n (fun _ => 0)) 22)) := by
  obtain ⟨i, hi, hz0, hz1, hz2⟩ := info_parts info64
  have h := run_make (P := Tryd.prog) W 37 22 i (.int .u64 0) Tryd.underlying37 hi hz0 .i64 .i64 n n (by omega) (Int.le_refl _) (by rw [hz2]; omega) (by omega)
  rw [hz1, Int.toNat_natCast, Nat.mul_one] at h
  rw [h, ← made_64]
  rfl

theorem copy_64 (W : World) (g n cap : Nat) (o f : Nat → Int) (x : Addr) (t : TypeId) (hg : W.heap[g]? = some (.cells (vs .u64 n o) t)) (hx : ∀ j, j < n → W.cell? (x.add j) = some (.int .u64 (f j))) :
    ∀ ty, (Builtin.copy_ #[37, 37] ty #[.slice (some ⟨g, 0, none⟩) n n, .slice (some x) n cap]).run Tryd.prog W = .ok (.int .i64 n) (W.setRow g (vs .u64 n f)) := by
  intro ty
  have hrun := run_copy_row (P := Tryd.prog) W 37 37 ty 22 g 0 n n x n cap (vs .u64 n o) t (ul f n) Tryd.underlying37 (by kernel_rfl) hg (by rw [ul_len]; exact (Nat.min_self n).symm)
    (fun j v hj => by
      obtain ⟨h1, rfl⟩ := ul_get f n j v hj
      exact hx j h1) (by rw [ul_len, vs_size]; omega) (ul_one f n)
  rw [hrun, ul_len]
  have e : ((vs .u64 n o).toList.take 0 ++ ul f n ++ (vs .u64 n o).toList.drop (0 + n)).toArray = vs .u64 n f := by
    rw [List.take_zero, List.nil_append, Nat.zero_add, List.drop_of_length_le (by rw [Array.length_toList, vs_size]; omega), List.append_nil]
    rfl
  rw [e]
  rfl

/-- What stands where 'before' is jumped to, k rounds done. -/
def LsJ (s f : Nat → Int) (g n : Nat) (w : World) (vl : Value) (a' : Act) (w' : World) : Prop :=
  ∃ (k : Nat) (u1 u2 u8 u9 u10 u11 u12 u13 u14 u15 u16 u17 u18 u19 u20 u21 u22 u23 u24 u25 u26 u27 u28 u29 : Value), a' = { tmps := #[vl, u1, u2, .pointer (some ⟨w.heap.size, 0, none⟩), .slice none 0 0, .int .i64 0, .slice (some ⟨g, 0, none⟩) n n, .int .i64 (6 - (k : Int)), u8, u9, u10, u11, u12, u13, u14, u15, u16, u17, u18, u19, u20, u21, u22, u23, u24, u25, u26, u27, u28, u29], defers := [] } ∧ 1 ≤ k ∧ k ≤ 5 ∧ Below w.heap.size w w' ∧ w'.heap[g]? = some (.cells (vs .u64 n (lsV s n f k)) 22) ∧ w'.heap[w.heap.size]? = some (.cells (vs .u8 32 s) 24)

attribute [local go_sem ↓] sv24_eq lv24_eq sv8_eq

set_option maxRecDepth 20000 in
set_option maxHeartbeats 1000000 in
theorem list_zero (s : Nat → Int) (a : Option Addr) (cap : Nat) (w : World) :
    Calls Tryd.prog 22 #[.slice a 0 cap, .agg (vs .u8 32 s)] w fun e w' => e = .returned (.tuple #[.slice none 0 0, .int .i64 0]) ∧ Below w.heap.size w w' := by
  go_enter Tryd.func22, Tryd.ntmps22
  go_wp2
  go_step3
  go_wp2
  rw [Exit.noGoto_ret]
  go_ret2
  exact ⟨rfl, (Below.refl _ _).alloc (Nat.le_refl _) _⟩

set_option maxRecDepth 20000 in
set_option maxHeartbeats 2000000 in
theorem list_ok (s : Nat → Int) (a : Option Addr) (n cap : Nat) (f : Nat → Int) (w : World) (hs : ∀ j, j < 32 → 0 ≤ s j ∧ s j < 256) (ha : N64 w a n f) (h0 : 0 < n) (h1 : n ≤ 65536) (hS : Sh w) :
    Calls Tryd.prog 22 #[.slice a n cap, .agg (vs .u8 32 s)] w fun e w' => ∃ g, e = .returned (.tuple #[.slice (some ⟨g, 0, none⟩) n n, .int .i64 0]) ∧ Below w.heap.size w w' ∧ w.heap.size ≤ g ∧ w'.heap[g]? = some (.cells (vs .u64 n fun j => f (plV s n 6 j).toNat) 22) := by
  have hfin : ∀ j, j < n → lsV s n f 6 j = f (plV s n 6 j).toNat := fun j hj => lsV_six s n f j (by omega)
  rcases ha with ha | ⟨b, off, rfl, hb, hc⟩
  · omega
  obtain ⟨W0, hW0⟩ : ∃ W, w.alloc (.cells (vs .u8 32 s) 24) = W := ⟨_, rfl⟩
  have r0 : W0.heap[w.heap.size]? = some (.cells (vs .u8 32 s) 24) := by rw [← hW0]; exact heap_new rfl
  have hB0 : Below w.heap.size w W0 := by rw [← hW0]; exact (Below.refl _ _).alloc (Nat.le_refl _) _
  have z0 : W0.heap.size = w.heap.size + 1 := by rw [← hW0]; simp
  obtain ⟨W1, hW1⟩ : ∃ W, W0.alloc (.cells (vs .u64 n (fun _ => 0)) 22) = W := ⟨_, rfl⟩
  have hB1 : Below W0.heap.size W0 W1 := by rw [← hW1]; exact (Below.refl _ _).alloc (Nat.le_refl _) _
  obtain ⟨g, hg⟩ : ∃ g, W0.heap.size = g := ⟨_, rfl⟩
  have r1 : W1.heap[g]? = some (.cells (vs .u64 n (fun _ => 0)) 22) := by rw [← hW1]; exact heap_new hg.symm
  have hgw : w.heap.size < g := by omega
  have mk := make_64 W0 n (by omega)
  rw [hW1, hg] at mk
  have cp := copy_64 W1 g n cap (fun _ => 0) f ⟨b, off, none⟩ 22 r1 (fun j hj => by rw [addr_add, below_cell hB1 (by omega), below_cell hB0 hb]; exact hc j hj)
  obtain ⟨W2, hW2⟩ : ∃ W, W1.setRow g (vs .u64 n f) = W := ⟨_, rfl⟩
  rw [hW2] at cp
  have hB2 : Below w.heap.size w W2 := by rw [← hW2]; exact below_row (hB0.trans (hB1.mono (by omega))) (by omega) _
  have r2 : W2.heap[g]? = some (.cells (vs .u64 n (lsV s n f 0)) 22) := by rw [← hW2]; exact setRow_at r1
  have s2 : W2.heap[w.heap.size]? = some (.cells (vs .u8 32 s) 24) := by rw [← hW2]; exact (setRow_other W1 g _ _ (by omega)).trans ((hB1.block _ (by omega)).trans r0)
  have g0 : 0 ≠ g := by have := hS.1.1; omega
  have g1 : 2 ≠ g := by have := hS.2.1; omega
  have hsw : ∀ (k : Nat) (W : World), k < 6 → Below w.heap.size w W → W.heap[g]? = some (.cells (vs .u64 n (lsV s n f k)) 22) → W.heap[w.heap.size]? = some (.cells (vs .u8 32 s) 24) → Calls Tryd.prog 30 #[.slice (some ⟨g, 0, none⟩) n n, .agg (vs .u8 32 s), .int .u8 (5 - (k : Int))] W fun e w' => e = .returned (.tuple #[]) ∧ Below w.heap.size w w' ∧ w'.heap[g]? = some (.cells (vs .u64 n (lsV s n f (k + 1))) 22) ∧ w'.heap[w.heap.size]? = some (.cells (vs .u8 32 s) 24) := fun k W hk hW hr hsd => by
    refine (swap_any s (5 - (k : Int)) g n (lsV s n f k) W hs (by omega) h0 h1 hr (hS.below hW) g0 g1).mono ?_
    rintro e w' ⟨h1, h2, h3⟩
    exact ⟨h1, hW.trans (h2.below (by omega) hW.size), h3, (h2.block _ (Array.getElem?_eq_some_iff.1 hsd).1 (by omega)).trans hsd⟩
  have n1 : ¬ (65536 : Int) < (n : Int) := by omega
  have n2 : ((n : Int) == 0) = false := by simp; omega
  have HSW := hid hsw
  have HW0 := hid hW0
  have HFIN := hid hfin
  have H2 := hid (And.intro hB2 (And.intro r2 s2))
  clear hsw hW0 hW1 hW2 hfin hB2 r2 s2 r0 hB0 hB1 r1 hs hS hc hb z0 hg g0 g1
  go_enter Tryd.func22, Tryd.ntmps22
  go_wp2
  rw [HW0.out]
  clear HW0
  refine wp_scope_jumps 0 (LsJ s f g n w (.slice (some ⟨b, off, none⟩) n cap)) (fun a' _ => (intOf (a'.tmps.getD 7 undef)).toNat) rfl ?_ ?_
  · have l0 := lv24_run H2.out.2.2
    have u5 : IntKind.u8.wrap 5 = 5 := by decide
    have hs0 := HSW.out 0 W2 (by omega) H2.out.1 H2.out.2.1 H2.out.2.2
    have HS0 : Hid (Calls Tryd.prog 30 #[.slice (some ⟨g, 0, none⟩) n n, .agg (vs .u8 32 s), .int .u8 5] W2 fun e w' => e = .returned (.tuple #[]) ∧ Below w.heap.size w w' ∧ w'.heap[g]? = some (.cells (vs .u64 n (lsV s n f 1)) 22) ∧ w'.heap[w.heap.size]? = some (.cells (vs .u8 32 s) 24)) := hs0
    clear hs0 H2 HSW
    go_wp2
    go_step3
    go_wp2_with (go_at_call 30; refine HS0.out.mono ?_; rintro e w3 ⟨rfl, hb3, hr3, hs3⟩)
    go_step3
    exact ⟨rfl, 1, _, _, _, _, _, _, _, _, _, _, _, _, _, _, _, _, _, _, _, _, _, _, _, _, rfl, by omega, by omega, hb3, hr3, hs3⟩
  · rintro a' w' ⟨k, u1, u2, u8, u9, u10, u11, u12, u13, u14, u15, u16, u17, u18, u19, u20, u21, u22, u23, u24, u25, u26, u27, u28, u29, rfl, hk1, hk5, hB, hR, hSd⟩
    clear mk cp H2
    have l0 := lv24_run hSd
    have hs0 := HSW.out k w' (by omega) hB hR hSd
    have e5 : (6 : Int) - (k : Int) - 1 = 5 - (k : Int) := by omega
    obtain ⟨R, hR5⟩ : ∃ R : Int, 5 - (k : Int) = R := ⟨_, rfl⟩
    have R6 : (6 : Int) - (k : Int) = R + 1 := by omega
    have r5 : 0 ≤ R := by omega
    have r6 : R ≤ 4 := by omega
    have rwr : IntKind.u8.wrap R = R := by rw [IntKind.wrap_u8]; omega
    rw [hR5] at hs0
    rw [R6]
    have HS0 := hid hs0
    have HK := hid hR5
    clear hs0 hB hR hSd e5 R6 hR5 HSW
    by_cases h5 : k = 5
    · obtain rfl : R = 0 := by have := HK.out; omega
      subst h5
      go_wp2_with (go_at_call 30; refine HS0.out.mono ?_; rintro e w3 ⟨rfl, hb3, hr3, hs3⟩)
      simp only [Exit.jump]
      go_ret2
      refine ⟨g, rfl, hb3, by omega, ?_⟩
      rw [hr3, vs_congr HFIN.out]
    · have h6 : (0 : Int) < R := by have := HK.out; omega
      go_wp2_with (go_at_call 30; refine HS0.out.mono ?_; rintro e w3 ⟨rfl, hb3, hr3, hs3⟩)
      go_step3
      have eR : R = 6 - ((k + 1 : Nat) : Int) := by have := HK.out; omega
      refine ⟨rfl, ⟨k + 1, _, _, _, _, _, _, _, _, _, _, _, _, _, _, _, _, _, _, _, _, _, _, _, _, by rw [← eR], by omega, by omega, hb3, hr3, hs3⟩, ?_⟩
      simp [intOf]
      omega

end Go.Proofs.YtenhgoclfljjlaaDoor
