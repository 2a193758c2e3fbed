/-
  What the document's All and Churn answer.
-/

import Derived.Test.YtmjdofegmelgbaaLkB
namespace Go.Proofs.Ytmjdofegmelgbaa

open Go.RowKit

set_option linter.unusedVariables false

set_option linter.unusedSimpArgs false

set_option maxRecDepth 20000

attribute [local go_sem ↓] lvState_eq svState_eq bdState_eq lvValidator_eq svValidator_eq ixValidator_eq

/-- The actives of a state's epoch; their sum; how many may come. -/
def acS (x : VState) : List Int := acL x.f11.z (x.f2 / 4) x.f11.n

def allS (x : VState) : Int := lst (ttl x.f11.z x.f11.n (fun j => (acS x).getD j 0) (acS x).length)

def chuS (x : VState) : Int := if ((acS x).length : Int) / 32 < 2 then 2 else ((acS x).length : Int) / 32

theorem acS_bd (x : VState) (hn : x.f11.n ≤ 65536) : ∀ j, j < (acS x).length → 0 ≤ (acS x).getD j 0 ∧ (acS x).getD j 0 < 18446744073709551616 := fun j hj => by
  have := acL_bd x.f11.z (x.f2 / 4) x.f11.n ((acS x).getD j 0) (by rw [List.getD_eq_getElem?_getD, List.getElem?_eq_getElem hj]; exact List.getElem_mem hj)
  omega

theorem allS_bd (x : VState) (hn : x.f11.n ≤ 65536) (hz : ∀ j, j < x.f11.n → 0 ≤ (x.f11.z j).f2 ∧ (x.f11.z j).f2 ≤ 32000000000) : 1000000000 ≤ allS x ∧ allS x ≤ 2097152000000000 := by
  have h1 := acL_len x.f11.z (x.f2 / 4) x.f11.n
  have h2 := ttl_bd x.f11.z x.f11.n (fun j => (acS x).getD j 0) hz (acS x).length (fun j hj => (acS_bd x hn j hj).1)
  have h3 : (acS x).length ≤ 65536 := Nat.le_trans h1 hn
  unfold allS lst
  split <;> omega

set_option maxHeartbeats 2000000 in
theorem rall_any (x : VState) (w : World) (hx : Lk w x) :
    Calls Try.prog 30 #[.agg (cel (sState x))] w fun e' w' => e' = .returned (.int .u64 (allS x)) ∧ Below w.heap.size w w' := by
  obtain ⟨W0, hW0⟩ : ∃ W, w.alloc (.cells (cel (sState x)) 49) = W := ⟨_, rfl⟩
  have r0 : W0.heap[w.heap.size]? = some (.cells (cel (sState x)) 49) := by rw [← hW0]; exact heap_new rfl
  have hB0 : Below w.heap.size w W0 := by rw [← hW0]; exact (Below.refl _ _).alloc (Nat.le_refl _) _
  have z0 : w.heap.size < W0.heap.size := (Array.getElem?_eq_some_iff.1 r0).1
  have hld : ∀ W : World, Below W0.heap.size W0 W → (lvState ⟨w.heap.size, 0, none⟩).run Try.prog W = .ok (.agg (cel (sState x))) W := fun W h => lvState_run ((h.block _ z0).trans r0)
  have hx0 := hx.below hB0
  have hep := fun W : World => repoch_any x W hx.sl.1 hx.sl.2
  have hac : ∀ W : World, Below W0.heap.size W0 W → Calls Try.prog 14 #[.agg (cel (sState x)), .int .u64 (x.f2 / 4)] W fun e' w' => ∃ a c, e' = .returned (.slice a (acS x).length c) ∧ Nml w' a (acS x) ∧ Below W.heap.size W w' := fun W h => ractives_any x (x.f2 / 4) W (hx0.below h)
  have hto : ∀ (W : World) a c, Below W0.heap.size W0 W → Nml W a (acS x) → Calls Try.prog 18 #[.agg (cel (sState x)), .slice a (acS x).length c] W fun e' w' => e' = .returned (.int .u64 (allS x)) ∧ Below W.heap.size W w' := fun W a c h hn => rtotal_any x a (acS x).length c (fun j => (acS x).getD j 0) W (hx0.below h) hn (acS_bd x hx.nb) (Nat.le_trans (acL_len _ _ _) hx.nb)
  generalize allS x = R at *
  generalize x.f2 / 4 = E at *
  generalize (acS x) = L at *
  have hdr : Below W0.heap.size W0 W0.drew := (Below.refl _ _).drew
  have HDR := hid hdr
  have HB := hid hB0
  have HW := hid hW0
  have HLD := hid hld
  have HEP := hid hep
  have HAC := hid hac
  have HTO := hid hto
  clear hdr hB0 hW0 hld hep hac hto hx hx0 r0
  go_enter Try.func30, Try.ntmps30
  go_upto_region 1 with fail
  rw [HW.out]
  clear HW
  refine wp_region_noPanic ?_
  refine wp_region_held_drew (S := fun W => Below W0.heap.size W0 W) (by kernel_rfl) (HDR.out) (fun hHeld => ?_)
  refine tk 0 (v := ?v1) ?y1 hHeld ?r1
  case y1 => intro w hSw; have ld := HLD.out _ hSw; go_simp; try with_reducible rfl
  refine tk 1 (v := ?v2) ?y2 hHeld ?r2
  case y2 => intro w hSw; have ld := HLD.out _ hSw; go_simp; try with_reducible rfl
  refine tk 2 (v := ?v3) ?y3 hHeld ?r3
  case y3 => intro w hSw; have ld := HLD.out _ hSw; go_simp; try with_reducible rfl
  try simp only [Act.put, List.setIfInBounds_toArray, List.set_cons_zero, List.set_cons_succ, Array.toArray_toList, List.getElem_toArray, List.getElem_cons_zero, List.getElem_cons_succ]
  refine wpAnyH_ready (rs := [3]) (by kernel_rfl) (by simp) ?_
  refine AllReadyH.cons rfl (fun K hK => ?_) AllReadyH.nil
  go_simp
  refine (HEP.out _).mono ?_
  rintro e' w1 ⟨rfl, hb1⟩
  dsimp only
  have hB1 : Below W0.heap.size W0 w1 := HDR.out.trans hb1
  refine hK.out _ _ (hB1) (fun hHeld => ?_)
  clear hK K
  try simp only [Act.put, List.setIfInBounds_toArray, List.set_cons_zero, List.set_cons_succ, Array.toArray_toList, List.getElem_toArray, List.getElem_cons_zero, List.getElem_cons_succ]
  refine wpAnyH_ready (rs := [4]) (by kernel_rfl) (by simp) ?_
  refine AllReadyH.cons rfl (fun K hK => ?_) AllReadyH.nil
  go_simp
  refine (HAC.out _ hB1).mono ?_
  rintro e' w2 ⟨a2, c2, rfl, hn2, hb2⟩
  dsimp only
  have hB2 : Below W0.heap.size W0 w2 := hB1.trans (hb2.mono hB1.size)
  refine hK.out _ _ (hB2) (fun hHeld => ?_)
  clear hK K
  try simp only [Act.put, List.setIfInBounds_toArray, List.set_cons_zero, List.set_cons_succ, Array.toArray_toList, List.getElem_toArray, List.getElem_cons_zero, List.getElem_cons_succ]
  refine wpAnyH_ready (rs := [5]) (by kernel_rfl) (by simp) ?_
  refine AllReadyH.cons rfl (fun K hK => ?_) AllReadyH.nil
  go_simp
  refine (HTO.out _ a2 c2 hB2 hn2).mono ?_
  rintro e' w3 ⟨rfl, hb3⟩
  dsimp only
  have hB3 : Below W0.heap.size W0 w3 := hB2.trans (hb3.mono hB2.size)
  refine hK.out _ _ (hB3) (fun hHeld => ?_)
  clear hK K
  try simp only [Act.put, List.setIfInBounds_toArray, List.set_cons_zero, List.set_cons_succ, Array.toArray_toList, List.getElem_toArray, List.getElem_cons_zero, List.getElem_cons_succ]
  refine tk 6 (v := ?v4) ?y4 hHeld ?r4
  case y4 => intro w hSw; go_simp; try with_reducible rfl
  try simp only [Act.put, List.setIfInBounds_toArray, List.set_cons_zero, List.set_cons_succ, Array.toArray_toList, List.getElem_toArray, List.getElem_cons_zero, List.getElem_cons_succ]
  refine wpAnyH_done (by kernel_rfl) ?_ _
  refine NoPanic.normal ?_
  go_wp2
  go_ret
  exact ⟨ret_int rfl, HB.out.trans (hB3.mono (by omega))⟩

set_option maxHeartbeats 2000000 in
theorem rchurn_any (x : VState) (w : World) (hx : Lk w x) :
    Calls Try.prog 20 #[.agg (cel (sState x))] w fun e' w' => e' = .returned (.int .u64 (chuS x)) ∧ Below w.heap.size w w' := by
  obtain ⟨W0, hW0⟩ : ∃ W, w.alloc (.cells (cel (sState x)) 49) = W := ⟨_, rfl⟩
  have r0 : W0.heap[w.heap.size]? = some (.cells (cel (sState x)) 49) := by rw [← hW0]; exact heap_new rfl
  have hB0 : Below w.heap.size w W0 := by rw [← hW0]; exact (Below.refl _ _).alloc (Nat.le_refl _) _
  have z0 : w.heap.size < W0.heap.size := (Array.getElem?_eq_some_iff.1 r0).1
  have hld : ∀ W : World, Below W0.heap.size W0 W → (lvState ⟨w.heap.size, 0, none⟩).run Try.prog W = .ok (.agg (cel (sState x))) W := fun W h => lvState_run ((h.block _ z0).trans r0)
  have hx0 := hx.below hB0
  have hep := fun W : World => repoch_any x W hx.sl.1 hx.sl.2
  have hac : ∀ W : World, Below W0.heap.size W0 W → Calls Try.prog 14 #[.agg (cel (sState x)), .int .u64 (x.f2 / 4)] W fun e' w' => ∃ a c, e' = .returned (.slice a (acS x).length c) ∧ Nml w' a (acS x) ∧ Below W.heap.size W w' := fun W h => ractives_any x (x.f2 / 4) W (hx0.below h)
  have hch : chuS x = if ((acS x).length : Int) / 32 < 2 then 2 else ((acS x).length : Int) / 32 := rfl
  have hlen : (acS x).length ≤ 65536 := Nat.le_trans (acL_len _ _ _) hx.nb
  generalize chuS x = R at *
  generalize x.f2 / 4 = E at *
  generalize (acS x) = L at *
  obtain ⟨n, hn⟩ : ∃ n, L.length = n := ⟨_, rfl⟩
  rw [hn] at hac hch hlen
  have nw : IntKind.u64.wrap (n : Int) = (n : Int) := by rw [IntKind.wrap_u64]; omega
  have n0 : (0 : Int) ≤ (n : Int) := by omega
  have n1 : (n : Int) ≤ 65536 := by omega
  have n2 : IntKind.u64.wrap ((n : Int) / 32) = (n : Int) / 32 := by rw [IntKind.wrap_u64]; omega
  have hdr : Below W0.heap.size W0 W0.drew := (Below.refl _ _).drew
  have HDR := hid hdr
  have HB := hid hB0
  have HW := hid hW0
  have HLD := hid hld
  have HEP := hid hep
  have HAC := hid hac
  have HCH := hid hch
  clear hdr hB0 hW0 hld hep hac hx hx0 r0 hch hn
  go_enter Try.func20, Try.ntmps20
  go_upto_region 1 with fail
  rw [HW.out]
  clear HW
  refine wp_region_noPanic ?_
  refine wp_region_held_drew (S := fun W => Below W0.heap.size W0 W) (by kernel_rfl) (HDR.out) (fun hHeld => ?_)
  refine tk 0 (v := ?v5) ?y5 hHeld ?r5
  case y5 => intro w hSw; have ld := HLD.out _ hSw; go_simp; try with_reducible rfl
  refine tk 1 (v := ?v6) ?y6 hHeld ?r6
  case y6 => intro w hSw; have ld := HLD.out _ hSw; go_simp; try with_reducible rfl
  try simp only [Act.put, List.setIfInBounds_toArray, List.set_cons_zero, List.set_cons_succ, Array.toArray_toList, List.getElem_toArray, List.getElem_cons_zero, List.getElem_cons_succ]
  refine wpAnyH_ready (rs := [2]) (by kernel_rfl) (by simp) ?_
  refine AllReadyH.cons rfl (fun K hK => ?_) AllReadyH.nil
  go_simp
  refine (HEP.out _).mono ?_
  rintro e' w1 ⟨rfl, hb1⟩
  dsimp only
  have hB1 : Below W0.heap.size W0 w1 := HDR.out.trans hb1
  refine hK.out _ _ (hB1) (fun hHeld => ?_)
  clear hK K
  try simp only [Act.put, List.setIfInBounds_toArray, List.set_cons_zero, List.set_cons_succ, Array.toArray_toList, List.getElem_toArray, List.getElem_cons_zero, List.getElem_cons_succ]
  refine wpAnyH_ready (rs := [3]) (by kernel_rfl) (by simp) ?_
  refine AllReadyH.cons rfl (fun K hK => ?_) AllReadyH.nil
  go_simp
  refine (HAC.out _ hB1).mono ?_
  rintro e' w2 ⟨a2, c2, rfl, hn2, hb2⟩
  dsimp only
  have hB2 : Below W0.heap.size W0 w2 := hB1.trans (hb2.mono hB1.size)
  refine hK.out _ _ (hB2) (fun hHeld => ?_)
  clear hK K
  try simp only [Act.put, List.setIfInBounds_toArray, List.set_cons_zero, List.set_cons_succ, Array.toArray_toList, List.getElem_toArray, List.getElem_cons_zero, List.getElem_cons_succ]
  refine tk 4 (v := ?v7) ?y7 hHeld ?r7
  case y7 => intro w hSw; go_simp; try with_reducible rfl
  refine tk 5 (v := ?v8) ?y8 hHeld ?r8
  case y8 => intro w hSw; go_simp; try with_reducible rfl
  refine tk 6 (v := ?v9) ?y9 hHeld ?r9
  case y9 => intro w hSw; go_simp; try with_reducible rfl
  refine tk 7 (v := ?v10) ?y10 hHeld ?r10
  case y10 => intro w hSw; go_simp; try with_reducible rfl
  try simp only [Act.put, List.setIfInBounds_toArray, List.set_cons_zero, List.set_cons_succ, Array.toArray_toList, List.getElem_toArray, List.getElem_cons_zero, List.getElem_cons_succ]
  refine wpAnyH_done (by kernel_rfl) ?_ _
  refine NoPanic.normal ?_
  by_cases h2 : (n : Int) / 32 < 2
  · go_wp2
    go_ret
    exact ⟨ret_int (by rw [HCH.out, if_pos h2]), HB.out.trans (hB2.mono (by omega))⟩
  · go_wp2
    go_ret
    exact ⟨ret_int (by rw [HCH.out, if_neg (by omega)]), HB.out.trans (hB2.mono (by omega))⟩

end Go.Proofs.Ytmjdofegmelgbaa
