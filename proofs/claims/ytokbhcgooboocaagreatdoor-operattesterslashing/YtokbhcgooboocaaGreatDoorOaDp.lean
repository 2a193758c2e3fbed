/-
  What EncAttesterSlashing answers.
-/
import Derived.Test.YtokbhcgooboocaaGreatDoorOaAp
namespace Go.Proofs.YtokbhcgooboocaaGreatDoor
open Go.RowKit
set_option linter.unusedVariables false
set_option linter.unusedSimpArgs false
set_option maxRecDepth 20000

attribute [local go_sem ↓] bsP_eq bsI_eq lvIndexed_eq

set_option maxHeartbeats 2000000 in
theorem encAttesterSlashing_bad0 (x : VAttesterSlashing) (w : World) (E : Int) (hE : E ≠ 0) (h0 : ∀ W, Below w.heap.size w W → Calls Tryz.prog 18 #[.agg (cel (sIndexed x.f0))] W fun e w' => e = .returned (.tuple #[.slice none 0 0, .int .i64 E]) ∧ Below W.heap.size W w') :
    Calls Tryz.prog 12 #[.agg (cel (sAttesterSlashing x))] w fun e w' => e = .returned (.tuple #[.slice none 0 0, .int .i64 E]) ∧ Below w.heap.size w w' := by
  obtain ⟨W0, hW0⟩ : ∃ W, w.alloc (.cells (cel (sAttesterSlashing x)) 48) = W := ⟨_, rfl⟩
  have hB0 : Below w.heap.size w W0 := by rw [← hW0]; exact (Below.refl _ _).alloc (Nat.le_refl _) _
  have r0 : W0.heap[w.heap.size]? = some (.cells (cel (sAttesterSlashing x)) 48) := by rw [← hW0]; exact heap_new rfl
  have z0 : w.heap.size < W0.heap.size := by rw [← hW0]; simp
  obtain ⟨y, ey⟩ : ∃ y, w.heap.size = y := ⟨_, rfl⟩
  have hry : ∀ X, Below W0.heap.size W0 X → X.heap[y]? = some (.cells (cel (sAttesterSlashing x)) 48) := fun X h => by rw [← ey]; exact (h.block _ z0).trans r0
  have HL0 : Hid (∀ X, Below W0.heap.size W0 X → (lvIndexed ⟨y, 0, none⟩).run Tryz.prog X = .ok (.agg (cel (sIndexed x.f0))) X) := fun X h => lvIndexed_mid (hry X h) 0 rfl rfl
  have HL1 : Hid (∀ X, Below W0.heap.size W0 X → (lvIndexed ⟨y, 197, none⟩).run Tryz.prog X = .ok (.agg (cel (sIndexed x.f1))) X) := fun X h => lvIndexed_mid (hry X h) 197 rfl rfl
  have S0 := hid (Below.refl W0.heap.size W0)
  have HB0w := hid hB0
  have EY := hid ey
  have H0 : Hid (∀ X, Below W0.heap.size W0 X → _) := fun X h => h0 X (hB0.trans (h.mono hB0.size))
  have q0 : (E != 0) = true := by rw [bne_iff_ne]; exact hE
  clear hB0 r0 hry h0 hE
  go_enter Tryz.func12, Tryz.ntmps12
  go_upto_region 1 with fail
  clear hW0 ey z0
  have l0 := HL0.out _ S0.out
  go_upto_region 2 with (go_at_call 18; refine (H0.out _ S0.out).mono ?_; rintro e X1 ⟨rfl, hb1⟩)
  have S1 := hid (S0.out.trans (hb1.mono S0.out.size))
  clear l0 hb1
  go_wp2
  go_ret2
  exact ⟨rfl, HB0w.out.trans (S1.out.mono HB0w.out.size)⟩

set_option maxHeartbeats 2000000 in
theorem encAttesterSlashing_bad1 (x : VAttesterSlashing) (w : World) (h0 : ∀ W, Below w.heap.size w W → Calls Tryz.prog 18 #[.agg (cel (sIndexed x.f0))] W fun e w' => ∃ a c, e = .returned (.tuple #[.slice a (lnX x.f0) c, .int .i64 0]) ∧ Bys w' a (lnX x.f0) c (ct7 (eIndexed x.f0)) ∧ Below W.heap.size W w') (E : Int) (hE : E ≠ 0) (h1 : ∀ W, Below w.heap.size w W → Calls Tryz.prog 18 #[.agg (cel (sIndexed x.f1))] W fun e w' => e = .returned (.tuple #[.slice none 0 0, .int .i64 E]) ∧ Below W.heap.size W w') :
    Calls Tryz.prog 12 #[.agg (cel (sAttesterSlashing x))] w fun e w' => e = .returned (.tuple #[.slice none 0 0, .int .i64 E]) ∧ Below w.heap.size w w' := by
  obtain ⟨W0, hW0⟩ : ∃ W, w.alloc (.cells (cel (sAttesterSlashing x)) 48) = W := ⟨_, rfl⟩
  have hB0 : Below w.heap.size w W0 := by rw [← hW0]; exact (Below.refl _ _).alloc (Nat.le_refl _) _
  have r0 : W0.heap[w.heap.size]? = some (.cells (cel (sAttesterSlashing x)) 48) := by rw [← hW0]; exact heap_new rfl
  have z0 : w.heap.size < W0.heap.size := by rw [← hW0]; simp
  obtain ⟨y, ey⟩ : ∃ y, w.heap.size = y := ⟨_, rfl⟩
  have hry : ∀ X, Below W0.heap.size W0 X → X.heap[y]? = some (.cells (cel (sAttesterSlashing x)) 48) := fun X h => by rw [← ey]; exact (h.block _ z0).trans r0
  have HL0 : Hid (∀ X, Below W0.heap.size W0 X → (lvIndexed ⟨y, 0, none⟩).run Tryz.prog X = .ok (.agg (cel (sIndexed x.f0))) X) := fun X h => lvIndexed_mid (hry X h) 0 rfl rfl
  have HL1 : Hid (∀ X, Below W0.heap.size W0 X → (lvIndexed ⟨y, 197, none⟩).run Tryz.prog X = .ok (.agg (cel (sIndexed x.f1))) X) := fun X h => lvIndexed_mid (hry X h) 197 rfl rfl
  have S0 := hid (Below.refl W0.heap.size W0)
  have HB0w := hid hB0
  have EY := hid ey
  have H0 : Hid (∀ X, Below W0.heap.size W0 X → _) := fun X h => h0 X (hB0.trans (h.mono hB0.size))
  have H1 : Hid (∀ X, Below W0.heap.size W0 X → _) := fun X h => h1 X (hB0.trans (h.mono hB0.size))
  have q0 : (E != 0) = true := by rw [bne_iff_ne]; exact hE
  clear hB0 r0 hry h0 h1 hE
  go_enter Tryz.func12, Tryz.ntmps12
  go_upto_region 1 with fail
  clear hW0 ey z0
  have l0 := HL0.out _ S0.out
  go_upto_region 4 with (go_at_call 18; refine (H0.out _ S0.out).mono ?_; rintro e X1 ⟨a1, c1, rfl, hr1, hb1⟩)
  have S1 := hid (S0.out.trans (hb1.mono S0.out.size))
  clear l0 hb1 hr1
  have l1 := HL1.out _ S1.out
  go_upto_region 5 with (go_at_call 18; refine (H1.out _ S1.out).mono ?_; rintro e X2 ⟨rfl, hb2⟩)
  have S2 := hid (S1.out.trans (hb2.mono S1.out.size))
  clear l1 hb2
  go_wp2
  go_ret2
  exact ⟨rfl, HB0w.out.trans (S2.out.mono HB0w.out.size)⟩

set_option maxHeartbeats 2000000 in
theorem encAttesterSlashing_ok (x : VAttesterSlashing) (w : World) (h0 : ∀ W, Below w.heap.size w W → Calls Tryz.prog 18 #[.agg (cel (sIndexed x.f0))] W fun e w' => ∃ a c, e = .returned (.tuple #[.slice a (lnX x.f0) c, .int .i64 0]) ∧ Bys w' a (lnX x.f0) c (ct7 (eIndexed x.f0)) ∧ Below W.heap.size W w') (h1 : ∀ W, Below w.heap.size w W → Calls Tryz.prog 18 #[.agg (cel (sIndexed x.f1))] W fun e w' => ∃ a c, e = .returned (.tuple #[.slice a (lnX x.f1) c, .int .i64 0]) ∧ Bys w' a (lnX x.f1) c (ct7 (eIndexed x.f1)) ∧ Below W.heap.size W w') (hn0 : x.f0.n ≤ 64) (hn1 : x.f1.n ≤ 64) :
    Calls Tryz.prog 12 #[.agg (cel (sAttesterSlashing x))] w fun e w' => ∃ v, e = .returned (.tuple #[v, .int .i64 0]) ∧ w'.ownsRow w.heap.size 5 1 v (8 + lnX x.f0 + lnX x.f1) (bl (ct7 (eAttesterSlashing x)) (8 + lnX x.f0 + lnX x.f1)) ∧ Below w.heap.size w w' := by
  obtain ⟨W0, hW0⟩ : ∃ W, w.alloc (.cells (cel (sAttesterSlashing x)) 48) = W := ⟨_, rfl⟩
  have hB0 : Below w.heap.size w W0 := by rw [← hW0]; exact (Below.refl _ _).alloc (Nat.le_refl _) _
  have r0 : W0.heap[w.heap.size]? = some (.cells (cel (sAttesterSlashing x)) 48) := by rw [← hW0]; exact heap_new rfl
  have z0 : w.heap.size < W0.heap.size := by rw [← hW0]; simp
  obtain ⟨y, ey⟩ : ∃ y, w.heap.size = y := ⟨_, rfl⟩
  have hry : ∀ X, Below W0.heap.size W0 X → X.heap[y]? = some (.cells (cel (sAttesterSlashing x)) 48) := fun X h => by rw [← ey]; exact (h.block _ z0).trans r0
  have HL0 : Hid (∀ X, Below W0.heap.size W0 X → (lvIndexed ⟨y, 0, none⟩).run Tryz.prog X = .ok (.agg (cel (sIndexed x.f0))) X) := fun X h => lvIndexed_mid (hry X h) 0 rfl rfl
  have HL1 : Hid (∀ X, Below W0.heap.size W0 X → (lvIndexed ⟨y, 197, none⟩).run Tryz.prog X = .ok (.agg (cel (sIndexed x.f1))) X) := fun X h => lvIndexed_mid (hry X h) 197 rfl rfl
  have S0 := hid (Below.refl W0.heap.size W0)
  have HB0w := hid hB0
  have EY := hid ey
  have H0 : Hid (∀ X, Below W0.heap.size W0 X → _) := fun X h => h0 X (hB0.trans (h.mono hB0.size))
  have H1 : Hid (∀ X, Below W0.heap.size W0 X → _) := fun X h => h1 X (hB0.trans (h.mono hB0.size))
  obtain ⟨N0, eN0⟩ : ∃ N, lnX x.f0 = N := ⟨_, rfl⟩
  obtain ⟨N1, eN1⟩ : ∃ N, lnX x.f1 = N := ⟨_, rfl⟩
  obtain ⟨V, eV⟩ : ∃ V, ct7 (eAttesterSlashing x) = V := ⟨_, rfl⟩
  have hFL : ∀ (P : World) gp gs a1 c1 a2 c2, P.heap[gp]? = some (.cells (([(a1, N0, c1, ct7 (eIndexed x.f0)), (a2, N1, c2, ct7 (eIndexed x.f1))] : List Pt).map ptv).toArray 34) → P.heap[gs]? = some (.cells (vs .i64 2 zA) 3) → Bys P a1 N0 c1 (ct7 (eIndexed x.f0)) → Bys P a2 N1 c2 (ct7 (eIndexed x.f1)) → Calls Tryz.prog 20 #[.slice (some ⟨gp, 0, none⟩) 2 2, .slice (some ⟨gs, 0, none⟩) 2 2] P fun e w' => ∃ v, e = .returned (.tuple #[v, .int .i64 0]) ∧ w'.ownsRow P.heap.size 5 1 v (8 + N0 + N1) (bl V (8 + N0 + N1)) ∧ Below P.heap.size P w' := fun P gp gs a1 c1 a2 c2 h1 h2 h3 h4 => by
    have hl0 : N0 ≤ 65536 := by rw [← eN0]; unfold lnX; omega
    have hl1 : N1 ≤ 65536 := by rw [← eN1]; unfold lnX; omega
    have := olayA (a1, N0, c1, ct7 (eIndexed x.f0)) (a2, N1, c2, ct7 (eIndexed x.f1)) gp gs P hl0 hl1 h1 h2 h3 h4
    rw [← eV]
    unfold eAttesterSlashing
    rw [eN0, eN1]
    exact this
  rw [eV]
  rw [eN0] at H0 ⊢
  rw [eN1] at H1 ⊢
  have HFL := hid hFL
  clear hB0 r0 hry h0 h1 hFL eV eN0 eN1 hn0 hn1
  go_enter Tryz.func12, Tryz.ntmps12
  go_upto_region 1 with fail
  clear hW0 ey z0
  have l0 := HL0.out _ S0.out
  go_upto_region 4 with (go_at_call 18; refine (H0.out _ S0.out).mono ?_; rintro e X1 ⟨a1, c1, rfl, hr1, hb1⟩)
  have S1 := hid (S0.out.trans (hb1.mono S0.out.size))
  have R0 := hid (show ∀ X, Below X1.heap.size X1 X → Bys X a1 N0 c1 (ct7 (eIndexed x.f0)) from fun X h => hr1.below h)
  clear l0 hb1 hr1
  have l1 := HL1.out _ S1.out
  go_upto_region 7 with (go_at_call 18; refine (H1.out _ S1.out).mono ?_; rintro e X2 ⟨a2, c2, rfl, hr2, hb2⟩)
  have S2 := hid (S1.out.trans (hb2.mono S1.out.size))
  have K1 := hid (show Below X1.heap.size X1 X2 from hb2)
  have R1 := hid (show ∀ X, Below X2.heap.size X2 X → Bys X a2 N1 c2 (ct7 (eIndexed x.f1)) from fun X h => hr2.below h)
  clear l1 hb2 hr2
  obtain ⟨ps, eps⟩ : ∃ ps : List Pt, ([(a1, N0, c1, ct7 (eIndexed x.f0)), (a2, N1, c2, ct7 (eIndexed x.f1))] : List Pt) = ps := ⟨_, rfl⟩
  obtain ⟨Y1, hY1⟩ : ∃ Y, X2.alloc (.cells (ps.map ptv).toArray 34) = Y := ⟨_, rfl⟩
  obtain ⟨P, hP⟩ : ∃ Y, Y1.alloc (.cells (vs .i64 2 zA) 3) = Y := ⟨_, rfl⟩
  have hy1 : Below X2.heap.size X2 Y1 := by rw [← hY1]; exact (Below.refl _ _).alloc (Nat.le_refl _) _
  have hy2 : Below X2.heap.size X2 P := by rw [← hP]; exact hy1.alloc hy1.size _
  have g1 : P.heap[X2.heap.size]? = some (.cells (ps.map ptv).toArray 34) := by
    rw [← hP, ← hY1]
    exact (heap_old (by simp)).trans (heap_new rfl)
  have g2 : P.heap[Y1.heap.size]? = some (.cells (vs .i64 2 zA) 3) := by rw [← hP]; exact heap_new rfl
  have bs1 := bsP_2 X2 (a1, N0, c1, ct7 (eIndexed x.f0)) (a2, N1, c2, ct7 (eIndexed x.f1))
  have hsz : Calls Tryz.prog 43 #[] Y1 fun e w' => e = .returned (.slice (some ⟨Y1.heap.size, 0, none⟩) 2 2) ∧ w' = P := by rw [← hP]; exact aasz_any Y1
  have hla := HFL.out P X2.heap.size Y1.heap.size a1 c1 a2 c2 (by rw [eps]; exact g1) g2 (R0.out _ (K1.out.trans (hy2.mono K1.out.size))) (R1.out _ hy2)
  rw [eps, hY1] at bs1
  obtain ⟨u1, eu1⟩ : ∃ u, X2.heap.size = u := ⟨_, rfl⟩
  obtain ⟨u2, eu2⟩ : ∃ u, Y1.heap.size = u := ⟨_, rfl⟩
  rw [eu1] at bs1 hla
  rw [eu2] at hsz hla
  replace bs1 : (bsP 2 #[(0, Value.slice a1 N0 c1), (1, Value.slice a2 N1 c2)]).run Tryz.prog X2 = .ok (.slice (some ⟨u1, 0, none⟩) 2 2) Y1 := bs1
  have HLA := hid hla
  have HSZ := hid hsz
  have HP := hid hy2
  clear hla hsz hy1 hy2 g1 g2 eps hY1 hP eu1 eu2
  go_wp2_with (first
    | (go_at_call 43; refine HSZ.out.mono ?_; rintro e w0 ⟨rfl, hw0⟩; obtain rfl := hw0.symm)
    | (go_at_call 20; refine HLA.out.mono ?_; rintro e Y ⟨v, rfl, ho, hbY⟩))
  go_ret2
  have e0 := EY.out
  have e1 := HB0w.out.size
  have e2 := S2.out.size
  have e3 := HP.out.size
  exact ⟨v, rfl, (ho.mono (by omega) : _), HB0w.out.trans ((S2.out.mono (by omega)).trans ((HP.out.mono (by omega)).trans (hbY.mono (by omega))))⟩

end Go.Proofs.YtokbhcgooboocaaGreatDoor

namespace Go.Proofs.YtokbhcgooboocaaGreatDoor
open Go.RowKit
set_option linter.unusedVariables false
set_option linter.unusedSimpArgs false
set_option maxRecDepth 20000

attribute [local go_sem ↓] bsP_eq bsI_eq lvIndexed_eq

set_option maxHeartbeats 2000000 in
theorem rencAttesterSlashing_bad0 (x : VAttesterSlashing) (w : World) (E : Int) (hE : E ≠ 0) (h0 : ∀ W, Below w.heap.size w W → Calls Tryz.prog 45 #[.agg (cel (sIndexed x.f0))] W fun e w' => e = .returned (.tuple #[.slice none 0 0, .int .i64 E]) ∧ Below W.heap.size W w') :
    Calls Tryz.prog 14 #[.agg (cel (sAttesterSlashing x))] w fun e w' => e = .returned (.tuple #[.slice none 0 0, .int .i64 E]) ∧ Below w.heap.size w w' := by
  obtain ⟨W0, hW0⟩ : ∃ W, w.alloc (.cells (cel (sAttesterSlashing x)) 48) = W := ⟨_, rfl⟩
  have hB0 : Below w.heap.size w W0 := by rw [← hW0]; exact (Below.refl _ _).alloc (Nat.le_refl _) _
  have r0 : W0.heap[w.heap.size]? = some (.cells (cel (sAttesterSlashing x)) 48) := by rw [← hW0]; exact heap_new rfl
  have z0 : w.heap.size < W0.heap.size := by rw [← hW0]; simp
  obtain ⟨y, ey⟩ : ∃ y, w.heap.size = y := ⟨_, rfl⟩
  have hry : ∀ X, Below W0.heap.size W0 X → X.heap[y]? = some (.cells (cel (sAttesterSlashing x)) 48) := fun X h => by rw [← ey]; exact (h.block _ z0).trans r0
  have HL0 : Hid (∀ X, Below W0.heap.size W0 X → (lvIndexed ⟨y, 0, none⟩).run Tryz.prog X = .ok (.agg (cel (sIndexed x.f0))) X) := fun X h => lvIndexed_mid (hry X h) 0 rfl rfl
  have HL1 : Hid (∀ X, Below W0.heap.size W0 X → (lvIndexed ⟨y, 197, none⟩).run Tryz.prog X = .ok (.agg (cel (sIndexed x.f1))) X) := fun X h => lvIndexed_mid (hry X h) 197 rfl rfl
  have S0 := hid (Below.refl W0.heap.size W0)
  have HB0w := hid hB0
  have EY := hid ey
  have H0 : Hid (∀ X, Below W0.heap.size W0 X → _) := fun X h => h0 X (hB0.trans (h.mono hB0.size))
  have q0 : (E != 0) = true := by rw [bne_iff_ne]; exact hE
  clear hB0 r0 hry h0 hE
  go_enter Tryz.func14, Tryz.ntmps14
  go_upto_region 1 with fail
  clear hW0 ey z0
  go_upto_region 4 with fail
  have l0 := HL0.out _ S0.out
  go_upto_region 5 with (go_at_call 45; refine (H0.out _ S0.out).mono ?_; rintro e X1 ⟨rfl, hb1⟩)
  have S1 := hid (S0.out.trans (hb1.mono S0.out.size))
  clear l0 hb1
  go_wp2
  go_ret2
  exact ⟨rfl, HB0w.out.trans (S1.out.mono HB0w.out.size)⟩

set_option maxHeartbeats 2000000 in
theorem rencAttesterSlashing_bad1 (x : VAttesterSlashing) (w : World) (h0 : ∀ W, Below w.heap.size w W → Calls Tryz.prog 45 #[.agg (cel (sIndexed x.f0))] W fun e w' => ∃ a c, e = .returned (.tuple #[.slice a (lnX x.f0) c, .int .i64 0]) ∧ Bys w' a (lnX x.f0) c (ct7 (eIndexed x.f0)) ∧ Below W.heap.size W w') (E : Int) (hE : E ≠ 0) (h1 : ∀ W, Below w.heap.size w W → Calls Tryz.prog 45 #[.agg (cel (sIndexed x.f1))] W fun e w' => e = .returned (.tuple #[.slice none 0 0, .int .i64 E]) ∧ Below W.heap.size W w') :
    Calls Tryz.prog 14 #[.agg (cel (sAttesterSlashing x))] w fun e w' => e = .returned (.tuple #[.slice none 0 0, .int .i64 E]) ∧ Below w.heap.size w w' := by
  obtain ⟨W0, hW0⟩ : ∃ W, w.alloc (.cells (cel (sAttesterSlashing x)) 48) = W := ⟨_, rfl⟩
  have hB0 : Below w.heap.size w W0 := by rw [← hW0]; exact (Below.refl _ _).alloc (Nat.le_refl _) _
  have r0 : W0.heap[w.heap.size]? = some (.cells (cel (sAttesterSlashing x)) 48) := by rw [← hW0]; exact heap_new rfl
  have z0 : w.heap.size < W0.heap.size := by rw [← hW0]; simp
  obtain ⟨y, ey⟩ : ∃ y, w.heap.size = y := ⟨_, rfl⟩
  have hry : ∀ X, Below W0.heap.size W0 X → X.heap[y]? = some (.cells (cel (sAttesterSlashing x)) 48) := fun X h => by rw [← ey]; exact (h.block _ z0).trans r0
  have HL0 : Hid (∀ X, Below W0.heap.size W0 X → (lvIndexed ⟨y, 0, none⟩).run Tryz.prog X = .ok (.agg (cel (sIndexed x.f0))) X) := fun X h => lvIndexed_mid (hry X h) 0 rfl rfl
  have HL1 : Hid (∀ X, Below W0.heap.size W0 X → (lvIndexed ⟨y, 197, none⟩).run Tryz.prog X = .ok (.agg (cel (sIndexed x.f1))) X) := fun X h => lvIndexed_mid (hry X h) 197 rfl rfl
  have S0 := hid (Below.refl W0.heap.size W0)
  have HB0w := hid hB0
  have EY := hid ey
  have H0 : Hid (∀ X, Below W0.heap.size W0 X → _) := fun X h => h0 X (hB0.trans (h.mono hB0.size))
  have H1 : Hid (∀ X, Below W0.heap.size W0 X → _) := fun X h => h1 X (hB0.trans (h.mono hB0.size))
  have q0 : (E != 0) = true := by rw [bne_iff_ne]; exact hE
  clear hB0 r0 hry h0 h1 hE
  go_enter Tryz.func14, Tryz.ntmps14
  go_upto_region 1 with fail
  clear hW0 ey z0
  go_upto_region 4 with fail
  have l0 := HL0.out _ S0.out
  go_upto_region 7 with (go_at_call 45; refine (H0.out _ S0.out).mono ?_; rintro e X1 ⟨a1, c1, rfl, hr1, hb1⟩)
  have S1 := hid (S0.out.trans (hb1.mono S0.out.size))
  clear l0 hb1 hr1
  have l1 := HL1.out _ S1.out
  go_upto_region 8 with (go_at_call 45; refine (H1.out _ S1.out).mono ?_; rintro e X2 ⟨rfl, hb2⟩)
  have S2 := hid (S1.out.trans (hb2.mono S1.out.size))
  clear l1 hb2
  go_wp2
  go_ret2
  exact ⟨rfl, HB0w.out.trans (S2.out.mono HB0w.out.size)⟩

set_option maxHeartbeats 2000000 in
theorem rencAttesterSlashing_ok (x : VAttesterSlashing) (w : World) (h0 : ∀ W, Below w.heap.size w W → Calls Tryz.prog 45 #[.agg (cel (sIndexed x.f0))] W fun e w' => ∃ a c, e = .returned (.tuple #[.slice a (lnX x.f0) c, .int .i64 0]) ∧ Bys w' a (lnX x.f0) c (ct7 (eIndexed x.f0)) ∧ Below W.heap.size W w') (h1 : ∀ W, Below w.heap.size w W → Calls Tryz.prog 45 #[.agg (cel (sIndexed x.f1))] W fun e w' => ∃ a c, e = .returned (.tuple #[.slice a (lnX x.f1) c, .int .i64 0]) ∧ Bys w' a (lnX x.f1) c (ct7 (eIndexed x.f1)) ∧ Below W.heap.size W w') (hn0 : x.f0.n ≤ 64) (hn1 : x.f1.n ≤ 64) :
    Calls Tryz.prog 14 #[.agg (cel (sAttesterSlashing x))] w fun e w' => ∃ v, e = .returned (.tuple #[v, .int .i64 0]) ∧ w'.ownsRow w.heap.size 5 1 v (8 + lnX x.f0 + lnX x.f1) (bl (ct7 (eAttesterSlashing x)) (8 + lnX x.f0 + lnX x.f1)) ∧ Below w.heap.size w w' := by
  obtain ⟨W0, hW0⟩ : ∃ W, w.alloc (.cells (cel (sAttesterSlashing x)) 48) = W := ⟨_, rfl⟩
  have hB0 : Below w.heap.size w W0 := by rw [← hW0]; exact (Below.refl _ _).alloc (Nat.le_refl _) _
  have r0 : W0.heap[w.heap.size]? = some (.cells (cel (sAttesterSlashing x)) 48) := by rw [← hW0]; exact heap_new rfl
  have z0 : w.heap.size < W0.heap.size := by rw [← hW0]; simp
  obtain ⟨y, ey⟩ : ∃ y, w.heap.size = y := ⟨_, rfl⟩
  have hry : ∀ X, Below W0.heap.size W0 X → X.heap[y]? = some (.cells (cel (sAttesterSlashing x)) 48) := fun X h => by rw [← ey]; exact (h.block _ z0).trans r0
  have HL0 : Hid (∀ X, Below W0.heap.size W0 X → (lvIndexed ⟨y, 0, none⟩).run Tryz.prog X = .ok (.agg (cel (sIndexed x.f0))) X) := fun X h => lvIndexed_mid (hry X h) 0 rfl rfl
  have HL1 : Hid (∀ X, Below W0.heap.size W0 X → (lvIndexed ⟨y, 197, none⟩).run Tryz.prog X = .ok (.agg (cel (sIndexed x.f1))) X) := fun X h => lvIndexed_mid (hry X h) 197 rfl rfl
  have S0 := hid (Below.refl W0.heap.size W0)
  have HB0w := hid hB0
  have EY := hid ey
  have H0 : Hid (∀ X, Below W0.heap.size W0 X → _) := fun X h => h0 X (hB0.trans (h.mono hB0.size))
  have H1 : Hid (∀ X, Below W0.heap.size W0 X → _) := fun X h => h1 X (hB0.trans (h.mono hB0.size))
  obtain ⟨N0, eN0⟩ : ∃ N, lnX x.f0 = N := ⟨_, rfl⟩
  obtain ⟨N1, eN1⟩ : ∃ N, lnX x.f1 = N := ⟨_, rfl⟩
  obtain ⟨V, eV⟩ : ∃ V, ct7 (eAttesterSlashing x) = V := ⟨_, rfl⟩
  have hFL : ∀ (P : World) gp gs a1 c1 a2 c2, P.heap[gp]? = some (.cells (([(a1, N0, c1, ct7 (eIndexed x.f0)), (a2, N1, c2, ct7 (eIndexed x.f1))] : List Pt).map ptv).toArray 34) → P.heap[gs]? = some (.cells (vs .i64 2 zA) 3) → Bys P a1 N0 c1 (ct7 (eIndexed x.f0)) → Bys P a2 N1 c2 (ct7 (eIndexed x.f1)) → Calls Tryz.prog 31 #[.slice (some ⟨gp, 0, none⟩) 2 2, .slice (some ⟨gs, 0, none⟩) 2 2] P fun e w' => ∃ v, e = .returned (.tuple #[v, .int .i64 0]) ∧ w'.ownsRow P.heap.size 5 1 v (8 + N0 + N1) (bl V (8 + N0 + N1)) ∧ Below P.heap.size P w' := fun P gp gs a1 c1 a2 c2 h1 h2 h3 h4 => by
    have hl0 : N0 ≤ 65536 := by rw [← eN0]; unfold lnX; omega
    have hl1 : N1 ≤ 65536 := by rw [← eN1]; unfold lnX; omega
    have := rolayA (a1, N0, c1, ct7 (eIndexed x.f0)) (a2, N1, c2, ct7 (eIndexed x.f1)) gp gs P hl0 hl1 h1 h2 h3 h4
    rw [← eV]
    unfold eAttesterSlashing
    rw [eN0, eN1]
    exact this
  rw [eV]
  rw [eN0] at H0 ⊢
  rw [eN1] at H1 ⊢
  have HFL := hid hFL
  clear hB0 r0 hry h0 h1 hFL eV eN0 eN1 hn0 hn1
  go_enter Tryz.func14, Tryz.ntmps14
  go_upto_region 1 with fail
  clear hW0 ey z0
  go_upto_region 4 with fail
  have l0 := HL0.out _ S0.out
  go_upto_region 7 with (go_at_call 45; refine (H0.out _ S0.out).mono ?_; rintro e X1 ⟨a1, c1, rfl, hr1, hb1⟩)
  have S1 := hid (S0.out.trans (hb1.mono S0.out.size))
  have R0 := hid (show ∀ X, Below X1.heap.size X1 X → Bys X a1 N0 c1 (ct7 (eIndexed x.f0)) from fun X h => hr1.below h)
  clear l0 hb1 hr1
  have l1 := HL1.out _ S1.out
  go_upto_region 10 with (go_at_call 45; refine (H1.out _ S1.out).mono ?_; rintro e X2 ⟨a2, c2, rfl, hr2, hb2⟩)
  have S2 := hid (S1.out.trans (hb2.mono S1.out.size))
  have K1 := hid (show Below X1.heap.size X1 X2 from hb2)
  have R1 := hid (show ∀ X, Below X2.heap.size X2 X → Bys X a2 N1 c2 (ct7 (eIndexed x.f1)) from fun X h => hr2.below h)
  clear l1 hb2 hr2
  obtain ⟨ps, eps⟩ : ∃ ps : List Pt, ([(a1, N0, c1, ct7 (eIndexed x.f0)), (a2, N1, c2, ct7 (eIndexed x.f1))] : List Pt) = ps := ⟨_, rfl⟩
  obtain ⟨Y1, hY1⟩ : ∃ Y, X2.alloc (.cells (ps.map ptv).toArray 34) = Y := ⟨_, rfl⟩
  obtain ⟨P, hP⟩ : ∃ Y, Y1.alloc (.cells (vs .i64 2 zA) 3) = Y := ⟨_, rfl⟩
  have hy1 : Below X2.heap.size X2 Y1 := by rw [← hY1]; exact (Below.refl _ _).alloc (Nat.le_refl _) _
  have hy2 : Below X2.heap.size X2 P := by rw [← hP]; exact hy1.alloc hy1.size _
  have g1 : P.heap[X2.heap.size]? = some (.cells (ps.map ptv).toArray 34) := by
    rw [← hP, ← hY1]
    exact (heap_old (by simp)).trans (heap_new rfl)
  have g2 : P.heap[Y1.heap.size]? = some (.cells (vs .i64 2 zA) 3) := by rw [← hP]; exact heap_new rfl
  have bs1 := bsP_2 X2 (a1, N0, c1, ct7 (eIndexed x.f0)) (a2, N1, c2, ct7 (eIndexed x.f1))
  have bs2 := bsI_zA Y1
  have hla := HFL.out P X2.heap.size Y1.heap.size a1 c1 a2 c2 (by rw [eps]; exact g1) g2 (R0.out _ (K1.out.trans (hy2.mono K1.out.size))) (R1.out _ hy2)
  rw [eps, hY1] at bs1
  rw [hP] at bs2
  obtain ⟨u1, eu1⟩ : ∃ u, X2.heap.size = u := ⟨_, rfl⟩
  obtain ⟨u2, eu2⟩ : ∃ u, Y1.heap.size = u := ⟨_, rfl⟩
  rw [eu1] at bs1 hla
  rw [eu2] at bs2 hla
  replace bs1 : (bsP 2 #[(0, Value.slice a1 N0 c1), (1, Value.slice a2 N1 c2)]).run Tryz.prog X2 = .ok (.slice (some ⟨u1, 0, none⟩) 2 2) Y1 := bs1
  have HLA := hid hla
  have HP := hid hy2
  clear hla hy1 hy2 g1 g2 eps hY1 hP eu1 eu2
  go_wp2_with (go_at_call 31; refine HLA.out.mono ?_; rintro e Y ⟨v, rfl, ho, hbY⟩)
  go_ret2
  have e0 := EY.out
  have e1 := HB0w.out.size
  have e2 := S2.out.size
  have e3 := HP.out.size
  exact ⟨v, rfl, (ho.mono (by omega) : _), HB0w.out.trans ((S2.out.mono (by omega)).trans ((HP.out.mono (by omega)).trans (hbY.mono (by omega))))⟩

end Go.Proofs.YtokbhcgooboocaaGreatDoor
