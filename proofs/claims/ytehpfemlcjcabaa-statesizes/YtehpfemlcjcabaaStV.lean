/-
  The fields of a state whose bytes may be refused, read.
-/

import Derived.Test.YtehpfemlcjcabaaStU
namespace Go.Proofs.Ytehpfemlcjcabaa

open Go.RowKit

set_option linter.unusedVariables false

set_option linter.unusedSimpArgs false

set_option maxRecDepth 20000

/-- How long lists are. -/
structure LNS where
  n7 : Nat
  n9 : Nat
  n11 : Nat
  n12 : Nat
  n15 : Nat
  n16 : Nat
  n21 : Nat

def LN (N : LNS) (x : VState) : Prop := x.f7.n = N.n7 ∧ x.f9.n = N.n9 ∧ x.f11.n = N.n11 ∧ x.f12.n = N.n12 ∧ x.f15.n = N.n15 ∧ x.f16.n = N.n16 ∧ x.f21.n = N.n21

attribute [local go_sem ↓] lvState_eq svState_eq bdState_eq ixP_eq

/-- Parts of a state with lists of these lengths. -/
structure PN (N : LNS) (L : Nat → Nat) (f : Nat → Nat → Int) : Prop where
  l0 : L 0 = 8
  l1 : L 1 = 32
  l2 : L 2 = 8
  l3 : L 3 = 16
  l4 : L 4 = 112
  l5 : L 5 = 256
  l6 : L 6 = 256
  l7 : L 7 = N.n7 * 32
  l8 : L 8 = 72
  l9 : L 9 = N.n9 * 72
  l10 : L 10 = 8
  l11 : L 11 = N.n11 * 121
  l12 : L 12 = N.n12 * 8
  l13 : L 13 = 256
  l14 : L 14 = 64
  l15 : L 15 = N.n15
  l16 : L 16 = N.n16
  l17 : L 17 = 1
  l18 : L 18 = 40
  l19 : L 19 = 40
  l20 : L 20 = 40
  l21 : L 21 = N.n21 * 8
  l22 : L 22 = 432
  l23 : L 23 = 432
  fb : ∀ r q, 0 ≤ f r q ∧ f r q < 256
  b17 : f 17 0 < 16
  fl : ∀ i, i < N.n11 → ¬ 1 < f 11 (i * 121 + 88)
  lim : N.n7 ≤ 1024 ∧ N.n9 ≤ 8 ∧ N.n11 ≤ 65536 ∧ N.n12 ≤ 65536 ∧ N.n15 ≤ 65536 ∧ N.n16 ≤ 65536 ∧ N.n21 ≤ 65536

set_option maxHeartbeats 4000000 in
theorem rrefN (N : LNS) (L : Nat → Nat) (f : Nat → Nat → Int) (gp : Nat) (A : Nat → Option Addr) (w : World) (hp : Z.Parts w (some ⟨gp, 0, none⟩) 24 A L L f) (h0 : PN N L f) :
    Calls Try.prog 37 #[.slice (some ⟨gp, 0, none⟩) 24 24] w fun e w' => ∃ X : VState, e = .returned (.tuple #[.agg (cel (sState X)), .int .i64 0]) ∧ LN N X ∧ Below w.heap.size w w' := by
  have HP : Hid (∀ X, Below w.heap.size w X → ∀ r, r < 24 → X.cell? ⟨gp, r, none⟩ = some (.slice (A r) (L r) (L r)) ∧ Bys X (A r) (L r) (L r) (f r)) := fun X h r hr => by
    obtain ⟨b, off, e, _, h1, h2⟩ := Z.parts_at (hp.below h) r hr
    cases e
    rw [Nat.zero_add] at h1
    exact ⟨h1, h2⟩
  have HIX : Hid (∀ (r : Nat) (X : World), r < 24 → (ixP (.slice (some ⟨gp, 0, none⟩) 24 24) (.int .i64 r)).run Try.prog X = .ok (.pointer (some ⟨gp, r, none⟩)) X) := fun r X hr => by
    have := ixP_run X gp 0 24 24 r hr
    rw [Nat.zero_add] at this
    exact this
  have H0 := hid h0
  have z := zeroState
  have bd := bdState_0
  obtain ⟨W1, hW1⟩ : ∃ W, w.alloc (.cells (cel (sState oState)) 49) = W := ⟨_, rfl⟩
  obtain ⟨W2, hW2⟩ : ∃ W, W1.alloc (.cells (cel (sState oState)) 49) = W := ⟨_, rfl⟩
  have z1 : W1.heap.size = w.heap.size + 1 := by rw [← hW1]; simp
  obtain ⟨r, er⟩ : ∃ r, r = w.heap.size := ⟨_, rfl⟩
  obtain ⟨y, ey⟩ : ∃ y, W1.heap.size = y := ⟨_, rfl⟩
  have hri : RI w r y oState W2 := by
    refine ⟨?_, ?_, ?_⟩
    · rw [← hW2, ← hW1]
      exact ((Below.refl _ _).alloc (Nat.le_refl _) _).alloc (by simp) _
    · rw [← hW2, er]
      refine (heap_old (by omega)).trans ?_
      rw [← hW1]
      exact heap_new rfl
    · rw [← hW2, ← ey]
      exact heap_new rfl
  have HRI := hid hri
  have HR := hid (show r ≠ y by omega)
  have HWY := hid (show w.heap.size ≤ y by omega)
  have HWR := hid (show w.heap.size ≤ r by omega)
  have er' := er.symm
  clear hp h0 hri z1 er
  go_enter Try.func37, Try.ntmps37
  go_upto_region 3 with fail
  clear hW1 hW2 ey z er'
  obtain ⟨l7, q7⟩ := HP.out _ HRI.out.1 7 (by omega)
  rw [H0.out.l7] at l7 q7
  obtain ⟨A7, eA7⟩ : ∃ a, A 7 = a := ⟨_, rfl⟩
  rw [eA7] at l7 q7
  have ix : ∀ X : World, (ixP (.slice (some ⟨gp, 0, none⟩) 24 24) (.int .i64 7)).run Try.prog X = .ok (.pointer (some ⟨gp, 7, none⟩)) X := fun X => HIX.out 7 X (by omega)
  obtain ⟨M7, eM7⟩ : ∃ k, N.n7 * 32 = k := ⟨_, rfl⟩
  rw [eM7] at l7 q7
  obtain ⟨k7, ek7⟩ : ∃ k, N.n7 = k := ⟨_, rfl⟩
  rw [ek7] at eM7
  have hc := reRoot (f 7) A7 M7 M7 k7 W2 q7 (fun j => H0.out.fb 7 j) eM7.symm (by have := H0.out.lim; omega)
  have HC := hid hc
  have EK7 := hid ek7
  clear hc q7 eA7 ek7 eM7
  go_upto_region 4 with (go_at_call 70; refine HC.out.mono ?_; rintro e X0 ⟨g7, rfl, ho, hb⟩; have hx := HRI.out.below hb; have HX := hid hx; obtain ⟨cd, ecd⟩ := some_cell hx.2.2 (i := 653) (by omega); have fy := row_frozen hx.2.2 653; clear hb hx ho)
  obtain ⟨V0, hV⟩ : ∃ V, X0.setCell ⟨y, 653, none⟩ (.slice (some ⟨g7, 0, none⟩) k7 k7) = V := ⟨_, rfl⟩
  obtain ⟨x0, RI0, FX0⟩ : ∃ x, Hid (RI w r y x V0) ∧ Hid (x.f7.n = k7) := ⟨{ oState with f7 := ⟨(some ⟨g7, 0, none⟩), k7, k7, oState.f7.z⟩ }, by rw [← hV]; exact hid (HX.out.set HR.out HWY.out 653 _ (st_7 _ (some ⟨g7, 0, none⟩) k7 k7)), hid rfl⟩
  rw [hV]
  clear hV HX HC ix l7 ecd fy
  obtain ⟨l9, q9⟩ := HP.out _ RI0.out.1 9 (by omega)
  rw [H0.out.l9] at l9 q9
  obtain ⟨A9, eA9⟩ : ∃ a, A 9 = a := ⟨_, rfl⟩
  rw [eA9] at l9 q9
  have ix : ∀ X : World, (ixP (.slice (some ⟨gp, 0, none⟩) 24 24) (.int .i64 9)).run Try.prog X = .ok (.pointer (some ⟨gp, 9, none⟩)) X := fun X => HIX.out 9 X (by omega)
  obtain ⟨M9, eM9⟩ : ∃ k, N.n9 * 72 = k := ⟨_, rfl⟩
  rw [eM9] at l9 q9
  obtain ⟨k9, ek9⟩ : ∃ k, N.n9 = k := ⟨_, rfl⟩
  rw [ek9] at eM9
  have hc := reEth1 (f 9) A9 M9 M9 k9 V0 q9 (fun j => H0.out.fb 9 j) eM9.symm (by have := H0.out.lim; omega)
  have HC := hid hc
  have EK9 := hid ek9
  clear hc q9 eA9 ek9 eM9
  go_upto_region 7 with (go_at_call 72; refine HC.out.mono ?_; rintro e X1 ⟨g9, rfl, ho, hb⟩; have hx := RI0.out.below hb; have HX := hid hx; obtain ⟨cd, ecd⟩ := some_cell hx.2.2 (i := 719) (by omega); have fy := row_frozen hx.2.2 719; clear hb hx ho)
  obtain ⟨V1, hV⟩ : ∃ V, X1.setCell ⟨y, 719, none⟩ (.slice (some ⟨g9, 0, none⟩) k9 k9) = V := ⟨_, rfl⟩
  obtain ⟨x1, RI1, FX1⟩ : ∃ x, Hid (RI w r y x V1) ∧ Hid (x.f7.n = k7 ∧ x.f9.n = k9) := ⟨{ x0 with f9 := ⟨(some ⟨g9, 0, none⟩), k9, k9, x0.f9.z⟩ }, by rw [← hV]; exact hid (HX.out.set HR.out HWY.out 719 _ (st_9 _ (some ⟨g9, 0, none⟩) k9 k9)), hid ⟨FX0.out, rfl⟩⟩
  rw [hV]
  clear hV HX HC ix l9 ecd fy
  obtain ⟨l11, q11⟩ := HP.out _ RI1.out.1 11 (by omega)
  rw [H0.out.l11] at l11 q11
  obtain ⟨A11, eA11⟩ : ∃ a, A 11 = a := ⟨_, rfl⟩
  rw [eA11] at l11 q11
  have ix : ∀ X : World, (ixP (.slice (some ⟨gp, 0, none⟩) 24 24) (.int .i64 11)).run Try.prog X = .ok (.pointer (some ⟨gp, 11, none⟩)) X := fun X => HIX.out 11 X (by omega)
  obtain ⟨M11, eM11⟩ : ∃ k, N.n11 * 121 = k := ⟨_, rfl⟩
  rw [eM11] at l11 q11
  obtain ⟨k11, ek11⟩ : ∃ k, N.n11 = k := ⟨_, rfl⟩
  rw [ek11] at eM11
  have hc := reValidator (f 11) A11 M11 M11 k11 V1 q11 (fun j => H0.out.fb 11 j) eM11.symm (by have := H0.out.lim; omega) (fun i hi => H0.out.fl i (by rw [ek11]; exact hi))
  have HC := hid hc
  have EK11 := hid ek11
  clear hc q11 eA11 ek11 eM11
  go_upto_region 10 with (go_at_call 73; refine HC.out.mono ?_; rintro e X2 ⟨g11, rfl, ho, hb⟩; have hx := RI1.out.below hb; have HX := hid hx; obtain ⟨cd, ecd⟩ := some_cell hx.2.2 (i := 721) (by omega); have fy := row_frozen hx.2.2 721; clear hb hx ho)
  obtain ⟨V2, hV⟩ : ∃ V, X2.setCell ⟨y, 721, none⟩ (.slice (some ⟨g11, 0, none⟩) k11 k11) = V := ⟨_, rfl⟩
  obtain ⟨x2, RI2, FX2⟩ : ∃ x, Hid (RI w r y x V2) ∧ Hid (x.f7.n = k7 ∧ x.f9.n = k9 ∧ x.f11.n = k11) := ⟨{ x1 with f11 := ⟨(some ⟨g11, 0, none⟩), k11, k11, x1.f11.z⟩ }, by rw [← hV]; exact hid (HX.out.set HR.out HWY.out 721 _ (st_11 _ (some ⟨g11, 0, none⟩) k11 k11)), hid ⟨FX1.out.1, FX1.out.2, rfl⟩⟩
  rw [hV]
  clear hV HX HC ix l11 ecd fy
  obtain ⟨l12, q12⟩ := HP.out _ RI2.out.1 12 (by omega)
  rw [H0.out.l12] at l12 q12
  obtain ⟨A12, eA12⟩ : ∃ a, A 12 = a := ⟨_, rfl⟩
  rw [eA12] at l12 q12
  have ix : ∀ X : World, (ixP (.slice (some ⟨gp, 0, none⟩) 24 24) (.int .i64 12)).run Try.prog X = .ok (.pointer (some ⟨gp, 12, none⟩)) X := fun X => HIX.out 12 X (by omega)
  obtain ⟨M12, eM12⟩ : ∃ k, N.n12 * 8 = k := ⟨_, rfl⟩
  rw [eM12] at l12 q12
  obtain ⟨k12, ek12⟩ : ∃ k, N.n12 = k := ⟨_, rfl⟩
  rw [ek12] at eM12
  have hc := reU64 (f 12) A12 M12 M12 k12 V2 q12 (fun j => H0.out.fb 12 j) eM12.symm (by have := H0.out.lim; omega)
  have HC := hid hc
  have EK12 := hid ek12
  clear hc q12 eA12 ek12 eM12
  go_upto_region 13 with (go_at_call 75; refine HC.out.mono ?_; rintro e X3 ⟨g12, rfl, ho, hb⟩; have hx := RI2.out.below hb; have HX := hid hx; obtain ⟨cd, ecd⟩ := some_cell hx.2.2 (i := 722) (by omega); have fy := row_frozen hx.2.2 722; clear hb hx ho)
  obtain ⟨V3, hV⟩ : ∃ V, X3.setCell ⟨y, 722, none⟩ (.slice (some ⟨g12, 0, none⟩) k12 k12) = V := ⟨_, rfl⟩
  obtain ⟨x3, RI3, FX3⟩ : ∃ x, Hid (RI w r y x V3) ∧ Hid (x.f7.n = k7 ∧ x.f9.n = k9 ∧ x.f11.n = k11 ∧ x.f12.n = k12) := ⟨{ x2 with f12 := ⟨(some ⟨g12, 0, none⟩), k12, k12, x2.f12.z⟩ }, by rw [← hV]; exact hid (HX.out.set HR.out HWY.out 722 _ (st_12 _ (some ⟨g12, 0, none⟩) k12 k12)), hid ⟨FX2.out.1, FX2.out.2.1, FX2.out.2.2, rfl⟩⟩
  rw [hV]
  clear hV HX HC ix l12 ecd fy
  obtain ⟨l15, q15⟩ := HP.out _ RI3.out.1 15 (by omega)
  rw [H0.out.l15] at l15 q15
  obtain ⟨A15, eA15⟩ : ∃ a, A 15 = a := ⟨_, rfl⟩
  rw [eA15] at l15 q15
  have ix : ∀ X : World, (ixP (.slice (some ⟨gp, 0, none⟩) 24 24) (.int .i64 15)).run Try.prog X = .ok (.pointer (some ⟨gp, 15, none⟩)) X := fun X => HIX.out 15 X (by omega)
  obtain ⟨k15, ek15⟩ : ∃ k, N.n15 = k := ⟨_, rfl⟩
  rw [ek15] at l15 q15
  have hc := rflN (f 15) A15 k15 k15 V3 q15 (by have := H0.out.lim; omega)
  have HC := hid hc
  have EK15 := hid ek15
  clear hc q15 eA15 ek15
  go_upto_region 16 with (go_at_call 76; refine HC.out.mono ?_; rintro e X4 ⟨b15, d15, rfl, ho, hb⟩; have hx := RI3.out.below hb; have HX := hid hx; obtain ⟨cd, ecd⟩ := some_cell hx.2.2 (i := 987) (by omega); have fy := row_frozen hx.2.2 987; clear hb hx ho)
  obtain ⟨V4, hV⟩ : ∃ V, X4.setCell ⟨y, 987, none⟩ (.slice b15 k15 d15) = V := ⟨_, rfl⟩
  obtain ⟨x4, RI4, FX4⟩ : ∃ x, Hid (RI w r y x V4) ∧ Hid (x.f7.n = k7 ∧ x.f9.n = k9 ∧ x.f11.n = k11 ∧ x.f12.n = k12 ∧ x.f15.n = k15) := ⟨{ x3 with f15 := ⟨b15, k15, d15, x3.f15.z⟩ }, by rw [← hV]; exact hid (HX.out.set HR.out HWY.out 987 _ (st_15 _ b15 k15 d15)), hid ⟨FX3.out.1, FX3.out.2.1, FX3.out.2.2.1, FX3.out.2.2.2, rfl⟩⟩
  rw [hV]
  clear hV HX HC ix l15 ecd fy
  obtain ⟨l16, q16⟩ := HP.out _ RI4.out.1 16 (by omega)
  rw [H0.out.l16] at l16 q16
  obtain ⟨A16, eA16⟩ : ∃ a, A 16 = a := ⟨_, rfl⟩
  rw [eA16] at l16 q16
  have ix : ∀ X : World, (ixP (.slice (some ⟨gp, 0, none⟩) 24 24) (.int .i64 16)).run Try.prog X = .ok (.pointer (some ⟨gp, 16, none⟩)) X := fun X => HIX.out 16 X (by omega)
  obtain ⟨k16, ek16⟩ : ∃ k, N.n16 = k := ⟨_, rfl⟩
  rw [ek16] at l16 q16
  have hc := rflN (f 16) A16 k16 k16 V4 q16 (by have := H0.out.lim; omega)
  have HC := hid hc
  have EK16 := hid ek16
  clear hc q16 eA16 ek16
  go_upto_region 19 with (go_at_call 76; refine HC.out.mono ?_; rintro e X5 ⟨b16, d16, rfl, ho, hb⟩; have hx := RI4.out.below hb; have HX := hid hx; obtain ⟨cd, ecd⟩ := some_cell hx.2.2 (i := 988) (by omega); have fy := row_frozen hx.2.2 988; clear hb hx ho)
  obtain ⟨V5, hV⟩ : ∃ V, X5.setCell ⟨y, 988, none⟩ (.slice b16 k16 d16) = V := ⟨_, rfl⟩
  obtain ⟨x5, RI5, FX5⟩ : ∃ x, Hid (RI w r y x V5) ∧ Hid (x.f7.n = k7 ∧ x.f9.n = k9 ∧ x.f11.n = k11 ∧ x.f12.n = k12 ∧ x.f15.n = k15 ∧ x.f16.n = k16) := ⟨{ x4 with f16 := ⟨b16, k16, d16, x4.f16.z⟩ }, by rw [← hV]; exact hid (HX.out.set HR.out HWY.out 988 _ (st_16 _ b16 k16 d16)), hid ⟨FX4.out.1, FX4.out.2.1, FX4.out.2.2.1, FX4.out.2.2.2.1, FX4.out.2.2.2.2, rfl⟩⟩
  rw [hV]
  clear hV HX HC ix l16 ecd fy
  obtain ⟨l17, q17⟩ := HP.out _ RI5.out.1 17 (by omega)
  rw [H0.out.l17] at l17 q17
  obtain ⟨A17, eA17⟩ : ∃ a, A 17 = a := ⟨_, rfl⟩
  rw [eA17] at l17 q17
  have ix : ∀ X : World, (ixP (.slice (some ⟨gp, 0, none⟩) 24 24) (.int .i64 17)).run Try.prog X = .ok (.pointer (some ⟨gp, 17, none⟩)) X := fun X => HIX.out 17 X (by omega)
  have hrv := Z.readv_any (fun q => (f 17 q).toNat) A17 1 1 4 V5 (by
    have e : (fun q => (((f 17 q).toNat : Nat) : Int)) = f 17 := funext fun q => Int.toNat_of_nonneg (H0.out.fb 17 q).1
    rw [e]
    exact q17) (fun q _ => by have := H0.out.fb 17 q; omega) (by omega)
  have e17 : Z.rvE (fun q => (f 17 q).toNat) 1 4 = 0 ∧ Z.rvN (fun q => (f 17 q).toNat) 1 4 = 4 := Z.rv_ok (by omega) (by omega) (by decide) (Z.frB_false fun i h1 h2 => by
    unfold Z.tb
    have hb := H0.out.b17
    have h8 : i < 8 := by omega
    have h4 : 4 ≤ i := h2
    rw [show i / 8 = 0 by omega, show i % 8 = i by omega]
    exact Nat.testBit_lt_two_pow (Nat.lt_of_lt_of_le (show (f 17 0).toNat < 2 ^ 4 by omega) (Nat.pow_le_pow_right (by omega) h4)))
  rw [e17.1, e17.2] at hrv
  have HC := hid hrv
  clear hrv e17 q17 eA17
  go_upto_region 22 with (go_at_call 77; refine HC.out.mono ?_; rintro e X6 ⟨a17, c17, rfl, hbl, hb⟩; have HX := hid (RI5.out.below hb); have HBL := hid hbl; clear hb hbl)
  clear HC ix l17
  obtain ⟨b8, o8, e8, hb8⟩ : ∃ b o, a17 = some ⟨b, o, none⟩ ∧ ∀ j, j < 4 → X6.cell? ⟨b, o + j, none⟩ = some (.bool (Z.tb (fun q => (f 17 q).toNat) j)) := by
    rcases HBL.out with ⟨_, h, _⟩ | ⟨_, _, h⟩ | ⟨b, o, h1, _, _, _, h2⟩
    · omega
    · omega
    · exact ⟨b, o, h1, h2⟩
  subst e8
  have hcp := copy_bits4 X6 y _ (Z.tb (fun q => (f 17 q).toNat)) ⟨b8, o8, none⟩ c17 4 49 HX.out.2.2 (fun j hj => by rw [addr_add]; exact hb8 j hj)
  obtain ⟨x6, ex⟩ : ∃ x, { x5 with f17 := Z.tb (fun q => (f 17 q).toNat) } = x := ⟨_, rfl⟩
  rw [ex] at hcp
  obtain ⟨V6, hV⟩ : ∃ V, X6.setRow y (cel (sState x6)) = V := ⟨_, rfl⟩
  have RI6 : Hid (RI w r y x6 V6) := by rw [← hV]; exact HX.out.row HR.out HWY.out
  have FX6 := hid (show x6.f7.n = k7 ∧ x6.f9.n = k9 ∧ x6.f11.n = k11 ∧ x6.f12.n = k12 ∧ x6.f15.n = k15 ∧ x6.f16.n = k16 by rw [← ex]; exact FX5.out)
  rw [hV] at hcp
  have cp := hcp 3
  clear hcp hb8 HBL ex hV HX
  go_upto_region 25 with fail
  clear cp
  obtain ⟨l21, q21⟩ := HP.out _ RI6.out.1 21 (by omega)
  rw [H0.out.l21] at l21 q21
  obtain ⟨A21, eA21⟩ : ∃ a, A 21 = a := ⟨_, rfl⟩
  rw [eA21] at l21 q21
  have ix : ∀ X : World, (ixP (.slice (some ⟨gp, 0, none⟩) 24 24) (.int .i64 21)).run Try.prog X = .ok (.pointer (some ⟨gp, 21, none⟩)) X := fun X => HIX.out 21 X (by omega)
  obtain ⟨M21, eM21⟩ : ∃ k, N.n21 * 8 = k := ⟨_, rfl⟩
  rw [eM21] at l21 q21
  obtain ⟨k21, ek21⟩ : ∃ k, N.n21 = k := ⟨_, rfl⟩
  rw [ek21] at eM21
  have hc := reU64 (f 21) A21 M21 M21 k21 V6 q21 (fun j => H0.out.fb 21 j) eM21.symm (by have := H0.out.lim; omega)
  have HC := hid hc
  have EK21 := hid ek21
  clear hc q21 eA21 ek21 eM21
  go_upto_region 26 with (go_at_call 75; refine HC.out.mono ?_; rintro e X7 ⟨g21, rfl, ho, hb⟩; have hx := RI6.out.below hb; have HX := hid hx; obtain ⟨cd, ecd⟩ := some_cell hx.2.2 (i := 1092) (by omega); have fy := row_frozen hx.2.2 1092; clear hb hx ho)
  obtain ⟨V7, hV⟩ : ∃ V, X7.setCell ⟨y, 1092, none⟩ (.slice (some ⟨g21, 0, none⟩) k21 k21) = V := ⟨_, rfl⟩
  obtain ⟨x7, RI7, FX7⟩ : ∃ x, Hid (RI w r y x V7) ∧ Hid (x.f7.n = k7 ∧ x.f9.n = k9 ∧ x.f11.n = k11 ∧ x.f12.n = k12 ∧ x.f15.n = k15 ∧ x.f16.n = k16 ∧ x.f21.n = k21) := ⟨{ x6 with f21 := ⟨(some ⟨g21, 0, none⟩), k21, k21, x6.f21.z⟩ }, by rw [← hV]; exact hid (HX.out.set HR.out HWY.out 1092 _ (st_21 _ (some ⟨g21, 0, none⟩) k21 k21)), hid ⟨FX6.out.1, FX6.out.2.1, FX6.out.2.2.1, FX6.out.2.2.2.1, FX6.out.2.2.2.2.1, FX6.out.2.2.2.2.2, rfl⟩⟩
  rw [hV]
  clear hV HX HC ix l21 ecd fy
  have lv := lvState_run RI7.out.2.2
  have sv := svState_run RI7.out.2.1 x7
  go_wp2
  refine retState _ _ r _ 49 _ rfl rfl rfl rfl (setRow_at RI7.out.2.1) ⟨x7, rfl, ?_, ?_⟩
  · obtain ⟨h1, h2, h3, h4, h5, h6, h7⟩ := FX7.out
    exact ⟨h1.trans EK7.out.symm, h2.trans EK9.out.symm, h3.trans EK11.out.symm, h4.trans EK12.out.symm, h5.trans EK15.out.symm, h6.trans EK16.out.symm, h7.trans EK21.out.symm⟩
  exact below_row RI7.out.1 HWR.out _

end Go.Proofs.Ytehpfemlcjcabaa
