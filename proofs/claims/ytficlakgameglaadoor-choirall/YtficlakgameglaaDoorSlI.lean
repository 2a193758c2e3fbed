/-
  A state copied list by list (package slash).
-/

import Derived.Test.YtficlakgameglaaDoorQN
import Derived.Test.YtficlakgameglaaDoorQK
import Derived.Test.YtficlakgameglaaDoorQG
import Derived.Test.YtficlakgameglaaDoorQM
namespace Go.Proofs.YtficlakgameglaaDoor

open Go.RowKit

set_option linter.unusedVariables false

set_option linter.unusedSimpArgs false

set_option maxRecDepth 20000

attribute [local go_sem ↓] lvState_eq svState_eq

set_option maxHeartbeats 8000000 in
theorem copyS_any (x : VState) (w : World) (hw : InW w x) (hn : NilW x) (hb : Rch x) :
    Calls Tryd.prog 43 #[.agg (cel (sState x))] w fun e w' => ∃ X : VState, e = .returned (.agg (cel (sState X))) ∧ SimF x X ∧ CpdF w.heap.size w' X ∧ Below w.heap.size w w' := by
  obtain ⟨V0, hV0⟩ : ∃ W, (w.alloc (.cells (cel (sState x)) 49)).alloc (.cells (cel (sState oState)) 49) = W := ⟨_, rfl⟩
  have r0 : V0.heap[w.heap.size]? = some (.cells (cel (sState x)) 49) := by rw [← hV0]; exact (heap_old (by simp)).trans (heap_new rfl)
  have r1 : V0.heap[w.heap.size + 1]? = some (.cells (cel (sState oState)) 49) := by rw [← hV0]; exact heap_new (by simp)
  have hB0 : Up w V0 := by rw [← hV0]; exact ((Below.refl _ _).alloc (Nat.le_refl _) _).alloc (by simp) _
  have z := zeroState
  unfold Rch at hb
  have HU0 := hid hB0
  have RY0 := hid r0
  have RR0 := hid r1
  have SM0 := hid (SimF.refl x)
  have HV := hid hV0
  have SR7 : Hid (∀ V, Up w V → Src V 32 x.f7.a x.f7.n x.f7.c (bl x.f7.z (32 * x.f7.n))) := fun V h => (src_rts hw.i7).below h
  have SR9 : Hid (∀ V, Up w V → Src V 65 x.f9.a x.f9.n x.f9.c (flat (fun i => celL (sEth1 (x.f9.z i))) x.f9.n)) := fun V h => (src_els hw.i9 hn.n9 (fun i => by rw [celL_len]; rfl) (fun i => celL_one _)).below h
  have SR11 : Hid (∀ V, Up w V → Src V 86 x.f11.a x.f11.n x.f11.c (flat (fun i => celL (sValidator (x.f11.z i))) x.f11.n)) := fun V h => (src_els hw.i11 hn.n11 (fun i => by rw [celL_len]; rfl) (fun i => celL_one _)).below h
  have SR12 : Hid (∀ V, Up w V → Src V 1 x.f12.a x.f12.n x.f12.c (nl x.f12.z x.f12.n)) := fun V h => (src_nms hw.i12 hn.n12).below h
  have SR15 : Hid (∀ V, Up w V → Src V 1 x.f15.a x.f15.n x.f15.c (bl x.f15.z x.f15.n)) := fun V h => (src_bys hw.i15).below h
  have SR16 : Hid (∀ V, Up w V → Src V 1 x.f16.a x.f16.n x.f16.c (bl x.f16.z x.f16.n)) := fun V h => (src_bys hw.i16).below h
  have SR21 : Hid (∀ V, Up w V → Src V 1 x.f21.a x.f21.n x.f21.c (nl x.f21.z x.f21.n)) := fun V h => (src_nms hw.i21 hn.n21).below h
  clear hB0 r0 r1 hw hn hV0
  go_enter Tryd.func43, Tryd.ntmps43
  go_upto_region 1 with fail
  rw [HV.out]
  clear HV z
  have l7 := cS7 RY0.out
  have HC := hid (clR x.f7.a x.f7.n x.f7.c _ V0 (SR7.out V0 HU0.out) (by omega))
  go_upto_region 2 with (go_at_call 69; refine HC.out.mono ?_; rintro e' w1 ⟨a7, c7, rfl, ho, hd⟩; have ry := upR hd RY0.out; have fy := row_frozen ry 653; obtain ⟨cd, ecd⟩ := some_cell (i := 653) ry (by omega); have HO := hid ho; have HD := hid hd; have RW := hid ry; clear ho hd ry)
  obtain ⟨V1, hV⟩ : ∃ V, w1.setCell ⟨w.heap.size, 653, none⟩ (.slice a7 x.f7.n c7) = V := ⟨_, rfl⟩
  have hk : Kept w.heap.size w1 V1 := by rw [← hV]; exact (Kept.refl _ _).setCell _ _
  obtain ⟨X1, eX⟩ : ∃ X, { x with f7 := ⟨a7, x.f7.n, c7, x.f7.z⟩ } = X := ⟨_, rfl⟩
  have RY1 : Hid (V1.heap[w.heap.size]? = some (.cells (cel (sState X1)) 49)) := by
    rw [← hV, ← eX]
    exact (row_set RW.out 653 _).trans (congrArg (fun c => some (Obj.cells c 49)) (st_7 x a7 x.f7.n c7))
  have q1 := some_ltK RR0.out
  have RR1 : Hid (V1.heap[w.heap.size + 1]? = some (.cells (cel (sState oState)) 49)) := (hk.block _ (by have := HD.out.size; omega) (by omega)).trans (upR HD.out RR0.out)
  have HU1 : Hid (Up w V1) := by
    have := upT HU0.out HD.out
    exact this.trans (hk.below (Nat.le_refl _) this.size)
  have SM1 : Hid (SimF x X1) := by rw [← eX]; exact { SM0.out with l7 := rfl }
  have G9 : Hid (X1.f9 = x.f9) := by rw [← eX]; exact rfl
  have G11 : Hid (X1.f11 = x.f11) := by rw [← eX]; exact rfl
  have G12 : Hid (X1.f12 = x.f12) := by rw [← eX]; exact rfl
  have G15 : Hid (X1.f15 = x.f15) := by rw [← eX]; exact rfl
  have G16 : Hid (X1.f16 = x.f16) := by rw [← eX]; exact rfl
  have G21 : Hid (X1.f21 = x.f21) := by rw [← eX]; exact rfl
  have P7 : Hid (V1.ownsRow w.heap.size 24 32 (.slice X1.f7.a X1.f7.n X1.f7.c) X1.f7.n (bl X1.f7.z (32 * X1.f7.n))) := by
    rw [← eX]
    show V1.ownsRow _ _ _ (.slice a7 x.f7.n c7) x.f7.n (bl x.f7.z (32 * x.f7.n))
    exact own_down (own_keptB HO.out hk (own_ne HO.out RW.out (by decide))) HU0.out.size
  have F9 := G9
  clear G9
  have F11 := G11
  clear G11
  have F12 := G12
  clear G12
  have F15 := G15
  clear G15
  have F16 := G16
  clear G16
  have F21 := G21
  clear G21
  have O7 := P7
  rw [hV]
  clear P7 hV hk eX q1 l7 ecd fy HC HO HD RW RY0 RR0 HU0 SM0 SR7
  have l9 := cS9 RY1.out
  rw [F9.out] at l9
  have HC := hid (clE x.f9.a x.f9.n x.f9.c _ V1 (SR9.out V1 HU1.out) (by omega))
  go_upto_region 3 with (go_at_call 70; refine HC.out.mono ?_; rintro e' w2 ⟨a9, c9, rfl, ho, hd⟩; have ry := upR hd RY1.out; have fy := row_frozen ry 719; obtain ⟨cd, ecd⟩ := some_cell (i := 719) ry (by omega); have HO := hid ho; have HD := hid hd; have RW := hid ry; clear ho hd ry)
  obtain ⟨V2, hV⟩ : ∃ V, w2.setCell ⟨w.heap.size, 719, none⟩ (.slice a9 x.f9.n c9) = V := ⟨_, rfl⟩
  have hk : Kept w.heap.size w2 V2 := by rw [← hV]; exact (Kept.refl _ _).setCell _ _
  obtain ⟨X2, eX⟩ : ∃ X, { X1 with f9 := ⟨a9, x.f9.n, c9, X1.f9.z⟩ } = X := ⟨_, rfl⟩
  have RY2 : Hid (V2.heap[w.heap.size]? = some (.cells (cel (sState X2)) 49)) := by
    rw [← hV, ← eX]
    exact (row_set RW.out 719 _).trans (congrArg (fun c => some (Obj.cells c 49)) (st_9 X1 a9 x.f9.n c9))
  have q1 := some_ltK RR1.out
  have RR2 : Hid (V2.heap[w.heap.size + 1]? = some (.cells (cel (sState oState)) 49)) := (hk.block _ (by have := HD.out.size; omega) (by omega)).trans (upR HD.out RR1.out)
  have HU2 : Hid (Up w V2) := by
    have := upT HU1.out HD.out
    exact this.trans (hk.below (Nat.le_refl _) this.size)
  have SM2 : Hid (SimF x X2) := by rw [← eX]; exact { SM1.out with l9 := rfl }
  have G11 : Hid (X2.f11 = x.f11) := by rw [← eX]; exact F11.out
  have G12 : Hid (X2.f12 = x.f12) := by rw [← eX]; exact F12.out
  have G15 : Hid (X2.f15 = x.f15) := by rw [← eX]; exact F15.out
  have G16 : Hid (X2.f16 = x.f16) := by rw [← eX]; exact F16.out
  have G21 : Hid (X2.f21 = x.f21) := by rw [← eX]; exact F21.out
  have P7 : Hid (V2.ownsRow w.heap.size 24 32 (.slice X2.f7.a X2.f7.n X2.f7.c) X2.f7.n (bl X2.f7.z (32 * X2.f7.n))) := by rw [← eX]; exact own_keptB (ownsRow_below O7.out HD.out) hk (own_ne (ownsRow_below O7.out HD.out) RW.out (by decide))
  have P9 : Hid (V2.ownsRow w.heap.size 34 65 (.slice X2.f9.a X2.f9.n X2.f9.c) X2.f9.n (flat (fun i => celL (sEth1 (X2.f9.z i))) X2.f9.n)) := by
    rw [← eX]
    show V2.ownsRow _ _ _ (.slice a9 x.f9.n c9) x.f9.n (flat (fun i => celL (sEth1 (X1.f9.z i))) x.f9.n)
    rw [F9.out]
    exact own_down (own_keptB HO.out hk (own_ne HO.out RW.out (by decide))) HU1.out.size
  clear F11
  have F11 := G11
  clear G11
  clear F12
  have F12 := G12
  clear G12
  clear F15
  have F15 := G15
  clear G15
  clear F16
  have F16 := G16
  clear G16
  clear F21
  have F21 := G21
  clear G21
  clear O7
  have O7 := P7
  clear P7
  have O9 := P9
  rw [hV]
  clear P9 hV hk eX q1 l9 ecd fy HC HO HD RW RY1 RR1 HU1 SM1 SR9 F9
  have l11 := cS11 RY2.out
  rw [F11.out] at l11
  have HC := hid (clV x.f11.a x.f11.n x.f11.c _ V2 (SR11.out V2 HU2.out) (by omega))
  go_upto_region 4 with (go_at_call 71; refine HC.out.mono ?_; rintro e' w3 ⟨a11, c11, rfl, ho, hd⟩; have ry := upR hd RY2.out; have fy := row_frozen ry 721; obtain ⟨cd, ecd⟩ := some_cell (i := 721) ry (by omega); have HO := hid ho; have HD := hid hd; have RW := hid ry; clear ho hd ry)
  obtain ⟨V3, hV⟩ : ∃ V, w3.setCell ⟨w.heap.size, 721, none⟩ (.slice a11 x.f11.n c11) = V := ⟨_, rfl⟩
  have hk : Kept w.heap.size w3 V3 := by rw [← hV]; exact (Kept.refl _ _).setCell _ _
  obtain ⟨X3, eX⟩ : ∃ X, { X2 with f11 := ⟨a11, x.f11.n, c11, X2.f11.z⟩ } = X := ⟨_, rfl⟩
  have RY3 : Hid (V3.heap[w.heap.size]? = some (.cells (cel (sState X3)) 49)) := by
    rw [← hV, ← eX]
    exact (row_set RW.out 721 _).trans (congrArg (fun c => some (Obj.cells c 49)) (st_11 X2 a11 x.f11.n c11))
  have q1 := some_ltK RR2.out
  have RR3 : Hid (V3.heap[w.heap.size + 1]? = some (.cells (cel (sState oState)) 49)) := (hk.block _ (by have := HD.out.size; omega) (by omega)).trans (upR HD.out RR2.out)
  have HU3 : Hid (Up w V3) := by
    have := upT HU2.out HD.out
    exact this.trans (hk.below (Nat.le_refl _) this.size)
  have SM3 : Hid (SimF x X3) := by rw [← eX]; exact { SM2.out with l11 := rfl }
  have G12 : Hid (X3.f12 = x.f12) := by rw [← eX]; exact F12.out
  have G15 : Hid (X3.f15 = x.f15) := by rw [← eX]; exact F15.out
  have G16 : Hid (X3.f16 = x.f16) := by rw [← eX]; exact F16.out
  have G21 : Hid (X3.f21 = x.f21) := by rw [← eX]; exact F21.out
  have P7 : Hid (V3.ownsRow w.heap.size 24 32 (.slice X3.f7.a X3.f7.n X3.f7.c) X3.f7.n (bl X3.f7.z (32 * X3.f7.n))) := by rw [← eX]; exact own_keptB (ownsRow_below O7.out HD.out) hk (own_ne (ownsRow_below O7.out HD.out) RW.out (by decide))
  have P9 : Hid (V3.ownsRow w.heap.size 34 65 (.slice X3.f9.a X3.f9.n X3.f9.c) X3.f9.n (flat (fun i => celL (sEth1 (X3.f9.z i))) X3.f9.n)) := by rw [← eX]; exact own_keptB (ownsRow_below O9.out HD.out) hk (own_ne (ownsRow_below O9.out HD.out) RW.out (by decide))
  have P11 : Hid (V3.ownsRow w.heap.size 82 86 (.slice X3.f11.a X3.f11.n X3.f11.c) X3.f11.n (flat (fun i => celL (sValidator (X3.f11.z i))) X3.f11.n)) := by
    rw [← eX]
    show V3.ownsRow _ _ _ (.slice a11 x.f11.n c11) x.f11.n (flat (fun i => celL (sValidator (X2.f11.z i))) x.f11.n)
    rw [F11.out]
    exact own_down (own_keptB HO.out hk (own_ne HO.out RW.out (by decide))) HU2.out.size
  clear F12
  have F12 := G12
  clear G12
  clear F15
  have F15 := G15
  clear G15
  clear F16
  have F16 := G16
  clear G16
  clear F21
  have F21 := G21
  clear G21
  clear O7
  have O7 := P7
  clear P7
  clear O9
  have O9 := P9
  clear P9
  have O11 := P11
  rw [hV]
  clear P11 hV hk eX q1 l11 ecd fy HC HO HD RW RY2 RR2 HU2 SM2 SR11 F11
  have l12 := cS12 RY3.out
  rw [F12.out] at l12
  have HC := hid (clU x.f12.a x.f12.n x.f12.c _ V3 (SR12.out V3 HU3.out) (by omega))
  go_upto_region 5 with (go_at_call 72; refine HC.out.mono ?_; rintro e' w4 ⟨a12, c12, rfl, ho, hd⟩; have ry := upR hd RY3.out; have fy := row_frozen ry 722; obtain ⟨cd, ecd⟩ := some_cell (i := 722) ry (by omega); have HO := hid ho; have HD := hid hd; have RW := hid ry; clear ho hd ry)
  obtain ⟨V4, hV⟩ : ∃ V, w4.setCell ⟨w.heap.size, 722, none⟩ (.slice a12 x.f12.n c12) = V := ⟨_, rfl⟩
  have hk : Kept w.heap.size w4 V4 := by rw [← hV]; exact (Kept.refl _ _).setCell _ _
  obtain ⟨X4, eX⟩ : ∃ X, { X3 with f12 := ⟨a12, x.f12.n, c12, X3.f12.z⟩ } = X := ⟨_, rfl⟩
  have RY4 : Hid (V4.heap[w.heap.size]? = some (.cells (cel (sState X4)) 49)) := by
    rw [← hV, ← eX]
    exact (row_set RW.out 722 _).trans (congrArg (fun c => some (Obj.cells c 49)) (st_12 X3 a12 x.f12.n c12))
  have q1 := some_ltK RR3.out
  have RR4 : Hid (V4.heap[w.heap.size + 1]? = some (.cells (cel (sState oState)) 49)) := (hk.block _ (by have := HD.out.size; omega) (by omega)).trans (upR HD.out RR3.out)
  have HU4 : Hid (Up w V4) := by
    have := upT HU3.out HD.out
    exact this.trans (hk.below (Nat.le_refl _) this.size)
  have SM4 : Hid (SimF x X4) := by rw [← eX]; exact { SM3.out with l12 := rfl }
  have G15 : Hid (X4.f15 = x.f15) := by rw [← eX]; exact F15.out
  have G16 : Hid (X4.f16 = x.f16) := by rw [← eX]; exact F16.out
  have G21 : Hid (X4.f21 = x.f21) := by rw [← eX]; exact F21.out
  have P7 : Hid (V4.ownsRow w.heap.size 24 32 (.slice X4.f7.a X4.f7.n X4.f7.c) X4.f7.n (bl X4.f7.z (32 * X4.f7.n))) := by rw [← eX]; exact own_keptB (ownsRow_below O7.out HD.out) hk (own_ne (ownsRow_below O7.out HD.out) RW.out (by decide))
  have P9 : Hid (V4.ownsRow w.heap.size 34 65 (.slice X4.f9.a X4.f9.n X4.f9.c) X4.f9.n (flat (fun i => celL (sEth1 (X4.f9.z i))) X4.f9.n)) := by rw [← eX]; exact own_keptB (ownsRow_below O9.out HD.out) hk (own_ne (ownsRow_below O9.out HD.out) RW.out (by decide))
  have P11 : Hid (V4.ownsRow w.heap.size 82 86 (.slice X4.f11.a X4.f11.n X4.f11.c) X4.f11.n (flat (fun i => celL (sValidator (X4.f11.z i))) X4.f11.n)) := by rw [← eX]; exact own_keptB (ownsRow_below O11.out HD.out) hk (own_ne (ownsRow_below O11.out HD.out) RW.out (by decide))
  have P12 : Hid (V4.ownsRow w.heap.size 22 1 (.slice X4.f12.a X4.f12.n X4.f12.c) X4.f12.n (nl X4.f12.z X4.f12.n)) := by
    rw [← eX]
    show V4.ownsRow _ _ _ (.slice a12 x.f12.n c12) x.f12.n (nl X3.f12.z x.f12.n)
    rw [F12.out]
    exact own_down (own_keptB HO.out hk (own_ne HO.out RW.out (by decide))) HU3.out.size
  clear F15
  have F15 := G15
  clear G15
  clear F16
  have F16 := G16
  clear G16
  clear F21
  have F21 := G21
  clear G21
  clear O7
  have O7 := P7
  clear P7
  clear O9
  have O9 := P9
  clear P9
  clear O11
  have O11 := P11
  clear P11
  have O12 := P12
  rw [hV]
  clear P12 hV hk eX q1 l12 ecd fy HC HO HD RW RY3 RR3 HU3 SM3 SR12 F12
  have l15 := cS15 RY4.out
  rw [F15.out] at l15
  have HC := hid (clB x.f15.a x.f15.n x.f15.c _ V4 (SR15.out V4 HU4.out) (by omega))
  go_upto_region 6 with (go_at_call 73; refine HC.out.mono ?_; rintro e' w5 ⟨a15, c15, rfl, ho, hd⟩; have ry := upR hd RY4.out; have fy := row_frozen ry 987; obtain ⟨cd, ecd⟩ := some_cell (i := 987) ry (by omega); have HO := hid ho; have HD := hid hd; have RW := hid ry; clear ho hd ry)
  obtain ⟨V5, hV⟩ : ∃ V, w5.setCell ⟨w.heap.size, 987, none⟩ (.slice a15 x.f15.n c15) = V := ⟨_, rfl⟩
  have hk : Kept w.heap.size w5 V5 := by rw [← hV]; exact (Kept.refl _ _).setCell _ _
  obtain ⟨X5, eX⟩ : ∃ X, { X4 with f15 := ⟨a15, x.f15.n, c15, X4.f15.z⟩ } = X := ⟨_, rfl⟩
  have RY5 : Hid (V5.heap[w.heap.size]? = some (.cells (cel (sState X5)) 49)) := by
    rw [← hV, ← eX]
    exact (row_set RW.out 987 _).trans (congrArg (fun c => some (Obj.cells c 49)) (st_15 X4 a15 x.f15.n c15))
  have q1 := some_ltK RR4.out
  have RR5 : Hid (V5.heap[w.heap.size + 1]? = some (.cells (cel (sState oState)) 49)) := (hk.block _ (by have := HD.out.size; omega) (by omega)).trans (upR HD.out RR4.out)
  have HU5 : Hid (Up w V5) := by
    have := upT HU4.out HD.out
    exact this.trans (hk.below (Nat.le_refl _) this.size)
  have SM5 : Hid (SimF x X5) := by rw [← eX]; exact { SM4.out with l15 := rfl }
  have G16 : Hid (X5.f16 = x.f16) := by rw [← eX]; exact F16.out
  have G21 : Hid (X5.f21 = x.f21) := by rw [← eX]; exact F21.out
  have P7 : Hid (V5.ownsRow w.heap.size 24 32 (.slice X5.f7.a X5.f7.n X5.f7.c) X5.f7.n (bl X5.f7.z (32 * X5.f7.n))) := by rw [← eX]; exact own_keptB (ownsRow_below O7.out HD.out) hk (own_ne (ownsRow_below O7.out HD.out) RW.out (by decide))
  have P9 : Hid (V5.ownsRow w.heap.size 34 65 (.slice X5.f9.a X5.f9.n X5.f9.c) X5.f9.n (flat (fun i => celL (sEth1 (X5.f9.z i))) X5.f9.n)) := by rw [← eX]; exact own_keptB (ownsRow_below O9.out HD.out) hk (own_ne (ownsRow_below O9.out HD.out) RW.out (by decide))
  have P11 : Hid (V5.ownsRow w.heap.size 82 86 (.slice X5.f11.a X5.f11.n X5.f11.c) X5.f11.n (flat (fun i => celL (sValidator (X5.f11.z i))) X5.f11.n)) := by rw [← eX]; exact own_keptB (ownsRow_below O11.out HD.out) hk (own_ne (ownsRow_below O11.out HD.out) RW.out (by decide))
  have P12 : Hid (V5.ownsRow w.heap.size 22 1 (.slice X5.f12.a X5.f12.n X5.f12.c) X5.f12.n (nl X5.f12.z X5.f12.n)) := by rw [← eX]; exact own_keptB (ownsRow_below O12.out HD.out) hk (own_ne (ownsRow_below O12.out HD.out) RW.out (by decide))
  have P15 : Hid (V5.ownsRow w.heap.size 5 1 (.slice X5.f15.a X5.f15.n X5.f15.c) X5.f15.n (bl X5.f15.z X5.f15.n)) := by
    rw [← eX]
    show V5.ownsRow _ _ _ (.slice a15 x.f15.n c15) x.f15.n (bl X4.f15.z x.f15.n)
    rw [F15.out]
    exact own_down (own_keptB HO.out hk (own_ne HO.out RW.out (by decide))) HU4.out.size
  clear F16
  have F16 := G16
  clear G16
  clear F21
  have F21 := G21
  clear G21
  clear O7
  have O7 := P7
  clear P7
  clear O9
  have O9 := P9
  clear P9
  clear O11
  have O11 := P11
  clear P11
  clear O12
  have O12 := P12
  clear P12
  have O15 := P15
  rw [hV]
  clear P15 hV hk eX q1 l15 ecd fy HC HO HD RW RY4 RR4 HU4 SM4 SR15 F15
  have l16 := cS16 RY5.out
  rw [F16.out] at l16
  have HC := hid (clB x.f16.a x.f16.n x.f16.c _ V5 (SR16.out V5 HU5.out) (by omega))
  go_upto_region 7 with (go_at_call 73; refine HC.out.mono ?_; rintro e' w6 ⟨a16, c16, rfl, ho, hd⟩; have ry := upR hd RY5.out; have fy := row_frozen ry 988; obtain ⟨cd, ecd⟩ := some_cell (i := 988) ry (by omega); have HO := hid ho; have HD := hid hd; have RW := hid ry; clear ho hd ry)
  obtain ⟨V6, hV⟩ : ∃ V, w6.setCell ⟨w.heap.size, 988, none⟩ (.slice a16 x.f16.n c16) = V := ⟨_, rfl⟩
  have hk : Kept w.heap.size w6 V6 := by rw [← hV]; exact (Kept.refl _ _).setCell _ _
  obtain ⟨X6, eX⟩ : ∃ X, { X5 with f16 := ⟨a16, x.f16.n, c16, X5.f16.z⟩ } = X := ⟨_, rfl⟩
  have RY6 : Hid (V6.heap[w.heap.size]? = some (.cells (cel (sState X6)) 49)) := by
    rw [← hV, ← eX]
    exact (row_set RW.out 988 _).trans (congrArg (fun c => some (Obj.cells c 49)) (st_16 X5 a16 x.f16.n c16))
  have q1 := some_ltK RR5.out
  have RR6 : Hid (V6.heap[w.heap.size + 1]? = some (.cells (cel (sState oState)) 49)) := (hk.block _ (by have := HD.out.size; omega) (by omega)).trans (upR HD.out RR5.out)
  have HU6 : Hid (Up w V6) := by
    have := upT HU5.out HD.out
    exact this.trans (hk.below (Nat.le_refl _) this.size)
  have SM6 : Hid (SimF x X6) := by rw [← eX]; exact { SM5.out with l16 := rfl }
  have G21 : Hid (X6.f21 = x.f21) := by rw [← eX]; exact F21.out
  have P7 : Hid (V6.ownsRow w.heap.size 24 32 (.slice X6.f7.a X6.f7.n X6.f7.c) X6.f7.n (bl X6.f7.z (32 * X6.f7.n))) := by rw [← eX]; exact own_keptB (ownsRow_below O7.out HD.out) hk (own_ne (ownsRow_below O7.out HD.out) RW.out (by decide))
  have P9 : Hid (V6.ownsRow w.heap.size 34 65 (.slice X6.f9.a X6.f9.n X6.f9.c) X6.f9.n (flat (fun i => celL (sEth1 (X6.f9.z i))) X6.f9.n)) := by rw [← eX]; exact own_keptB (ownsRow_below O9.out HD.out) hk (own_ne (ownsRow_below O9.out HD.out) RW.out (by decide))
  have P11 : Hid (V6.ownsRow w.heap.size 82 86 (.slice X6.f11.a X6.f11.n X6.f11.c) X6.f11.n (flat (fun i => celL (sValidator (X6.f11.z i))) X6.f11.n)) := by rw [← eX]; exact own_keptB (ownsRow_below O11.out HD.out) hk (own_ne (ownsRow_below O11.out HD.out) RW.out (by decide))
  have P12 : Hid (V6.ownsRow w.heap.size 22 1 (.slice X6.f12.a X6.f12.n X6.f12.c) X6.f12.n (nl X6.f12.z X6.f12.n)) := by rw [← eX]; exact own_keptB (ownsRow_below O12.out HD.out) hk (own_ne (ownsRow_below O12.out HD.out) RW.out (by decide))
  have P15 : Hid (V6.ownsRow w.heap.size 5 1 (.slice X6.f15.a X6.f15.n X6.f15.c) X6.f15.n (bl X6.f15.z X6.f15.n)) := by rw [← eX]; exact own_keptB (ownsRow_below O15.out HD.out) hk (own_ne (ownsRow_below O15.out HD.out) RW.out (by decide))
  have P16 : Hid (V6.ownsRow w.heap.size 5 1 (.slice X6.f16.a X6.f16.n X6.f16.c) X6.f16.n (bl X6.f16.z X6.f16.n)) := by
    rw [← eX]
    show V6.ownsRow _ _ _ (.slice a16 x.f16.n c16) x.f16.n (bl X5.f16.z x.f16.n)
    rw [F16.out]
    exact own_down (own_keptB HO.out hk (own_ne HO.out RW.out (by decide))) HU5.out.size
  have D15 : Hid (∀ ad ad', X6.f15.a = some ad → X6.f16.a = some ad' → ad.block ≠ ad'.block) := fun ad ad' e1 e2 => by
    rw [← eX] at e1 e2
    have e3 : a16 = some ad' := e2
    have h1 := O15.out
    rw [show X5.f15.a = some ad from e1] at h1
    have h2 := HO.out
    rw [e3] at h2
    have := (own_ge h1).2
    have := (own_ge h2).1
    omega
  clear F21
  have F21 := G21
  clear G21
  clear O7
  have O7 := P7
  clear P7
  clear O9
  have O9 := P9
  clear P9
  clear O11
  have O11 := P11
  clear P11
  clear O12
  have O12 := P12
  clear P12
  clear O15
  have O15 := P15
  clear P15
  have O16 := P16
  rw [hV]
  clear P16 hV hk eX q1 l16 ecd fy HC HO HD RW RY5 RR5 HU5 SM5 SR16 F16
  have l21 := cS21 RY6.out
  rw [F21.out] at l21
  have HC := hid (clU x.f21.a x.f21.n x.f21.c _ V6 (SR21.out V6 HU6.out) (by omega))
  go_upto_region 8 with (go_at_call 72; refine HC.out.mono ?_; rintro e' w7 ⟨a21, c21, rfl, ho, hd⟩; have ry := upR hd RY6.out; have fy := row_frozen ry 1092; obtain ⟨cd, ecd⟩ := some_cell (i := 1092) ry (by omega); have HO := hid ho; have HD := hid hd; have RW := hid ry; clear ho hd ry)
  obtain ⟨V7, hV⟩ : ∃ V, w7.setCell ⟨w.heap.size, 1092, none⟩ (.slice a21 x.f21.n c21) = V := ⟨_, rfl⟩
  have hk : Kept w.heap.size w7 V7 := by rw [← hV]; exact (Kept.refl _ _).setCell _ _
  obtain ⟨X7, eX⟩ : ∃ X, { X6 with f21 := ⟨a21, x.f21.n, c21, X6.f21.z⟩ } = X := ⟨_, rfl⟩
  have RY7 : Hid (V7.heap[w.heap.size]? = some (.cells (cel (sState X7)) 49)) := by
    rw [← hV, ← eX]
    exact (row_set RW.out 1092 _).trans (congrArg (fun c => some (Obj.cells c 49)) (st_21 X6 a21 x.f21.n c21))
  have q1 := some_ltK RR6.out
  have RR7 : Hid (V7.heap[w.heap.size + 1]? = some (.cells (cel (sState oState)) 49)) := (hk.block _ (by have := HD.out.size; omega) (by omega)).trans (upR HD.out RR6.out)
  have HU7 : Hid (Up w V7) := by
    have := upT HU6.out HD.out
    exact this.trans (hk.below (Nat.le_refl _) this.size)
  have SM7 : Hid (SimF x X7) := by rw [← eX]; exact { SM6.out with l21 := rfl }
  have P7 : Hid (V7.ownsRow w.heap.size 24 32 (.slice X7.f7.a X7.f7.n X7.f7.c) X7.f7.n (bl X7.f7.z (32 * X7.f7.n))) := by rw [← eX]; exact own_keptB (ownsRow_below O7.out HD.out) hk (own_ne (ownsRow_below O7.out HD.out) RW.out (by decide))
  have P9 : Hid (V7.ownsRow w.heap.size 34 65 (.slice X7.f9.a X7.f9.n X7.f9.c) X7.f9.n (flat (fun i => celL (sEth1 (X7.f9.z i))) X7.f9.n)) := by rw [← eX]; exact own_keptB (ownsRow_below O9.out HD.out) hk (own_ne (ownsRow_below O9.out HD.out) RW.out (by decide))
  have P11 : Hid (V7.ownsRow w.heap.size 82 86 (.slice X7.f11.a X7.f11.n X7.f11.c) X7.f11.n (flat (fun i => celL (sValidator (X7.f11.z i))) X7.f11.n)) := by rw [← eX]; exact own_keptB (ownsRow_below O11.out HD.out) hk (own_ne (ownsRow_below O11.out HD.out) RW.out (by decide))
  have P12 : Hid (V7.ownsRow w.heap.size 22 1 (.slice X7.f12.a X7.f12.n X7.f12.c) X7.f12.n (nl X7.f12.z X7.f12.n)) := by rw [← eX]; exact own_keptB (ownsRow_below O12.out HD.out) hk (own_ne (ownsRow_below O12.out HD.out) RW.out (by decide))
  have P15 : Hid (V7.ownsRow w.heap.size 5 1 (.slice X7.f15.a X7.f15.n X7.f15.c) X7.f15.n (bl X7.f15.z X7.f15.n)) := by rw [← eX]; exact own_keptB (ownsRow_below O15.out HD.out) hk (own_ne (ownsRow_below O15.out HD.out) RW.out (by decide))
  have P16 : Hid (V7.ownsRow w.heap.size 5 1 (.slice X7.f16.a X7.f16.n X7.f16.c) X7.f16.n (bl X7.f16.z X7.f16.n)) := by rw [← eX]; exact own_keptB (ownsRow_below O16.out HD.out) hk (own_ne (ownsRow_below O16.out HD.out) RW.out (by decide))
  have P21 : Hid (V7.ownsRow w.heap.size 22 1 (.slice X7.f21.a X7.f21.n X7.f21.c) X7.f21.n (nl X7.f21.z X7.f21.n)) := by
    rw [← eX]
    show V7.ownsRow _ _ _ (.slice a21 x.f21.n c21) x.f21.n (nl X6.f21.z x.f21.n)
    rw [F21.out]
    exact own_down (own_keptB HO.out hk (own_ne HO.out RW.out (by decide))) HU6.out.size
  have E15 : Hid (∀ ad ad', X7.f15.a = some ad → X7.f16.a = some ad' → ad.block ≠ ad'.block) := by rw [← eX]; exact D15.out
  clear D15
  have D15 := E15
  clear E15
  have D12 : Hid (∀ ad ad', X7.f12.a = some ad → X7.f21.a = some ad' → ad.block ≠ ad'.block) := fun ad ad' e1 e2 => by
    rw [← eX] at e1 e2
    have e3 : a21 = some ad' := e2
    have h1 := O12.out
    rw [show X6.f12.a = some ad from e1] at h1
    have h2 := HO.out
    rw [e3] at h2
    have := (own_ge h1).2
    have := (own_ge h2).1
    omega
  clear O7
  have O7 := P7
  clear P7
  clear O9
  have O9 := P9
  clear P9
  clear O11
  have O11 := P11
  clear P11
  clear O12
  have O12 := P12
  clear P12
  clear O15
  have O15 := P15
  clear P15
  clear O16
  have O16 := P16
  clear P16
  have O21 := P21
  rw [hV]
  clear P21 hV hk eX q1 l21 ecd fy HC HO HD RW RY6 RR6 HU6 SM6 SR21 F21
  have ly := lvState_run RY7.out
  have s1 := svState_run RR7.out X7
  have HR := hid (setRow_at (c := cel (sState X7)) RR7.out)
  have hk : Kept (w.heap.size + 1) V7 (V7.setRow (w.heap.size + 1) (cel (sState X7))) := (Kept.refl _ _).setRow _
  have HC : Hid (CpdF w.heap.size (V7.setRow (w.heap.size + 1) (cel (sState X7))) X7) := ⟨own_keptB O7.out hk (own_ne O7.out RR7.out (by decide)), own_keptB O9.out hk (own_ne O9.out RR7.out (by decide)), own_keptB O11.out hk (own_ne O11.out RR7.out (by decide)), own_keptB O12.out hk (own_ne O12.out RR7.out (by decide)), own_keptB O15.out hk (own_ne O15.out RR7.out (by decide)), own_keptB O16.out hk (own_ne O16.out RR7.out (by decide)), own_keptB O21.out hk (own_ne O21.out RR7.out (by decide)), D15.out, D12.out⟩
  clear hk
  go_wp2
  exact retState1 2 (w.heap.size + 1) X7 49 rfl rfl rfl HR.out ⟨X7, rfl, SM7.out, HC.out, below_row HU7.out (by omega) _⟩

end Go.Proofs.YtficlakgameglaaDoor
