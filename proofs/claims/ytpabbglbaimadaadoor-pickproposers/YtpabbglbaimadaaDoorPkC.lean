/-
  What the reference's Sync answers.
-/

import Derived.Test.YtpabbglbaimadaaDoorPkB
namespace Go.Proofs.YtpabbglbaimadaaDoor

open Go.RowKit

set_option linter.unusedVariables false

set_option linter.unusedSimpArgs false

set_option maxRecDepth 20000

attribute [local go_sem ↓] lvState_eq svState_eq bdState_eq lvValidator_eq svValidator_eq ixValidator_eq sv24_eq lv24_eq sv8_eq

/-- The next sync committee's members. -/
def syL (x : VState) : List Int := dwL x.f11.z (acE x (x.f2 / 4 + 1)) (seedV x (x.f2 / 4 + 1) 7) 8

def syE (x : VState) : Int := dwE x.f11.z (acE x (x.f2 / 4 + 1)) (seedV x (x.f2 / 4 + 1) 7) 8

set_option maxHeartbeats 2000000 in
theorem rsync_any (x : VState) (w : World) (ho : OkState x) (hx : Lk w x) (hC : Tab w 1 64 KW) :
    Calls Tryd.prog 13 #[.agg (cel (sState x))] w fun e' w' => ∃ a c, e' = .returned (.tuple #[.slice a (syL x).length c, .int .i64 (syE x)]) ∧ Nml w' a (syL x) ∧ Below w.heap.size w w' := by
  obtain ⟨W0, hW0⟩ : ∃ W, w.alloc (.cells (cel (sState x)) 49) = W := ⟨_, rfl⟩
  have r0 : W0.heap[w.heap.size]? = some (.cells (cel (sState x)) 49) := by rw [← hW0]; exact heap_new rfl
  have hB0 : Below w.heap.size w W0 := by rw [← hW0]; exact (Below.refl _ _).alloc (Nat.le_refl _) _
  have z0 : w.heap.size < W0.heap.size := (Array.getElem?_eq_some_iff.1 r0).1
  have hld : ∀ W : World, Below W0.heap.size W0 W → (lvState ⟨w.heap.size, 0, none⟩).run Tryd.prog W = .ok (.agg (cel (sState x))) W := fun W h => lvState_run ((h.block _ z0).trans r0)
  have hx0 := hx.below hB0
  have hC0 := hC.below hB0
  have hsl := hx.sl
  have hep := repoch_any x W0 hx.sl.1 hx.sl.2
  have hac : ∀ W, Below W0.heap.size W0 W → Calls Tryd.prog 20 #[.agg (cel (sState x)), .int .u64 (x.f2 / 4 + 1)] W fun e' w' => ∃ a c, e' = .returned (.slice a (acE x (x.f2 / 4 + 1)).length c) ∧ Nml w' a (acE x (x.f2 / 4 + 1)) ∧ Below W.heap.size W w' := fun W h => ractives_any x (x.f2 / 4 + 1) W (hx0.below h)
  have hse : ∀ W, Below W0.heap.size W0 W → Calls Tryd.prog 28 #[.agg (cel (sState x)), .int .u64 (x.f2 / 4 + 1), .int .i64 7] W fun e' w' => e' = .returned (.agg (vs .u8 32 (seedV x (x.f2 / 4 + 1) 7))) ∧ Below W.heap.size W w' := fun W h => rseed_any x (x.f2 / 4 + 1) 7 W ho (by omega) (by omega) (hC0.below h)
  have hdw : ∀ (W : World) a c, Below W0.heap.size W0 W → Nml W a (acE x (x.f2 / 4 + 1)) → Calls Tryd.prog 30 #[.agg (cel (sState x)), .slice a (acE x (x.f2 / 4 + 1)).length c, .agg (vs .u8 32 (seedV x (x.f2 / 4 + 1) 7)), .int .i64 8] W fun e' w' => ∃ a c, e' = .returned (.tuple #[.slice a (syL x).length c, .int .i64 (syE x)]) ∧ Nml w' a (syL x) ∧ Below W.heap.size W w' := fun W a c h hn => rdraw_any x a c _ _ 8 W (hx0.below h) hn (fun v hv => acL_bd _ _ _ v hv) (acE_len hx.nb) (fun j _ => seedV_bd ..) (by omega) (by omega) (hC0.below h)
  have nlb : ∀ (W W' : World) (a : Option Addr), Nml W a (acE x (x.f2 / 4 + 1)) → Below W.heap.size W W' → Nml W' a (acE x (x.f2 / 4 + 1)) := fun W W' a h hb => Z.Nms.below h hb
  generalize syL x = SL at *
  generalize syE x = SE at *
  generalize acE x (x.f2 / 4 + 1) = L at *
  generalize seedV x (x.f2 / 4 + 1) 7 = SD at *
  have he : 0 ≤ x.f2 / 4 ∧ x.f2 / 4 < 274877906944 := by omega
  generalize x.f2 / 4 = E at *
  obtain ⟨m, em⟩ : ∃ m, L.length = m := ⟨_, rfl⟩
  obtain ⟨k, ek⟩ : ∃ k, SL.length = k := ⟨_, rfl⟩
  rw [em] at hac hdw
  rw [ek] at hdw ⊢
  obtain ⟨F, eF⟩ : ∃ F, E + 1 = F := ⟨_, rfl⟩
  rw [eF] at hac hse
  obtain ⟨e0, e1⟩ := he
  have l0 := hld W0 (Below.refl _ _)
  have HB := hid hB0
  have HW := hid hW0
  have HLD := hid hld
  have HEP := hid hep
  have HAC := hid hac
  have HSE := hid hse
  have HDW := hid hdw
  have NLB := hid nlb
  clear hB0 hW0 hld hep hac hse hdw nlb hx hx0 ho hC hC0 r0 em ek hsl
  go_enter Tryd.func13, Tryd.ntmps13
  go_upto_region 1 with fail
  rw [HW.out]
  clear HW
  go_upto_region 2 with (go_at_call 27; refine HEP.out.mono ?_; rintro e' w1 ⟨rfl, hb1⟩)
  have hBd : Below W0.heap.size W0 w1.drew := hb1.drew
  clear l0 eF
  refine wp_region_noPanic ?_
  refine wp_region_held_drew (S := fun W => Below W0.heap.size W0 W) (by kernel_rfl) (hBd) (fun hHeld => ?_)
  refine tk 0 (v := ?v1) ?y1 hHeld ?r1
  case y1 => intro w hSw; have ld := HLD.out _ hSw; go_simp; try with_reducible rfl
  refine tk 1 (v := ?v2) ?y2 hHeld ?r2
  case y2 => intro w hSw; have ld := HLD.out _ hSw; go_simp; try with_reducible rfl
  refine tk 2 (v := ?v3) ?y3 hHeld ?r3
  case y3 => intro w hSw; go_simp; try with_reducible rfl
  refine tk 4 (v := ?v4) ?y4 hHeld ?r4
  case y4 => intro w hSw; have ld := HLD.out _ hSw; go_simp; try with_reducible rfl
  refine tk 5 (v := ?v5) ?y5 hHeld ?r5
  case y5 => intro w hSw; go_simp; try with_reducible rfl
  try simp only [Act.put, List.setIfInBounds_toArray, List.set_cons_zero, List.set_cons_succ, Array.toArray_toList, List.getElem_toArray, List.getElem_cons_zero, List.getElem_cons_succ]
  refine wpAnyH_ready (rs := [3]) (by kernel_rfl) (by simp) ?_
  refine AllReadyH.cons rfl (fun K hK => ?_) AllReadyH.nil
  go_simp
  refine (HAC.out _ hBd).mono ?_
  rintro e' w2 ⟨a2, c2, rfl, hn2, hb2⟩
  dsimp only
  have hB2 : Below W0.heap.size W0 w2 := hBd.trans (hb2.mono hBd.size)
  refine hK.out _ _ (hB2) (fun hHeld => ?_)
  clear hK K
  try simp only [Act.put, List.setIfInBounds_toArray, List.set_cons_zero, List.set_cons_succ, Array.toArray_toList, List.getElem_toArray, List.getElem_cons_zero, List.getElem_cons_succ]
  refine wpAnyH_ready (rs := [6]) (by kernel_rfl) (by simp) ?_
  refine AllReadyH.cons rfl (fun K hK => ?_) AllReadyH.nil
  go_simp
  refine (HSE.out _ hB2).mono ?_
  rintro e' w3 ⟨rfl, hb3⟩
  dsimp only
  have hB3 : Below W0.heap.size W0 w3 := hB2.trans (hb3.mono hB2.size)
  refine hK.out _ _ (hB3) (fun hHeld => ?_)
  clear hK K
  try simp only [Act.put, List.setIfInBounds_toArray, List.set_cons_zero, List.set_cons_succ, Array.toArray_toList, List.getElem_toArray, List.getElem_cons_zero, List.getElem_cons_succ]
  refine wpAnyH_ready (rs := [7]) (by kernel_rfl) (by simp) ?_
  refine AllReadyH.cons rfl (fun K hK => ?_) AllReadyH.nil
  go_simp
  refine (HDW.out w3 a2 c2 hB3 (NLB.out _ _ _ hn2 hb3)).mono ?_
  rintro e' w4 ⟨a4, c4, rfl, hn4, hb4⟩
  dsimp only
  have hB4 : Below W0.heap.size W0 w4 := hB3.trans (hb4.mono hB3.size)
  refine hK.out _ _ (hB4) (fun hHeld => ?_)
  clear hK K
  try simp only [Act.put, List.setIfInBounds_toArray, List.set_cons_zero, List.set_cons_succ, Array.toArray_toList, List.getElem_toArray, List.getElem_cons_zero, List.getElem_cons_succ]
  refine tk 8 (v := ?v6) ?y6 hHeld ?r6
  case y6 => intro w hSw; go_simp; try with_reducible rfl
  refine tk 9 (v := ?v7) ?y7 hHeld ?r7
  case y7 => intro w hSw; go_simp; try with_reducible rfl
  refine tk 10 (v := ?v8) ?y8 hHeld ?r8
  case y8 => intro w hSw; go_simp; try with_reducible rfl
  refine tk 11 (v := ?v9) ?y9 hHeld ?r9
  case y9 => intro w hSw; go_simp; try with_reducible rfl
  try simp only [Act.put, List.setIfInBounds_toArray, List.set_cons_zero, List.set_cons_succ, Array.toArray_toList, List.getElem_toArray, List.getElem_cons_zero, List.getElem_cons_succ]
  refine wpAnyH_done (by kernel_rfl) ?_ _
  refine NoPanic.normal ?_
  go_wp2
  go_ret2
  exact ⟨a4, c4, rfl, hn4, HB.out.trans (hB4.mono HB.out.size)⟩

end Go.Proofs.YtpabbglbaimadaaDoor
