/-
  SlashQueue.
-/

import Derived.Test.YtlplmdhlelgihaaGreatDoorSlU
import Derived.Test.YtlplmdhlelgihaaGreatDoorSlS
import Derived.Test.YtlplmdhlelgihaaGreatDoorQG
import Derived.Test.YtlplmdhlelgihaaGreatDoorStY
import Derived.Test.YtlplmdhlelgihaaGreatDoorQJ
namespace Go.Proofs.YtlplmdhlelgihaaGreatDoor

open Go.RowKit

set_option linter.unusedVariables false

set_option linter.unusedSimpArgs false

set_option maxRecDepth 20000

/-- As many of all. -/
structure AsM (n : Nat) (x : VState) : Prop where
  m11 : x.f11.n = n
  m12 : x.f12.n = n
  m15 : x.f15.n = n
  m16 : x.f16.n = n
  m21 : x.f21.n = n

theorem RtO.asM {x : VState} (h : RtO x) : AsM x.f11.n x := ⟨rfl, h.c1, h.c2, h.c3, h.c4⟩

theorem AsM.sim {n : Nat} {x X : VState} (h : AsM n x) (s : SimF x X) : AsM n X := ⟨s.l11.trans h.m11, s.l12.trans h.m12, s.l15.trans h.m15, s.l16.trans h.m16, s.l21.trans h.m21⟩

attribute [local go_sem ↓] lvState_eq svState_eq ixValidator_eq

set_option maxHeartbeats 4000000 in
theorem rlike_any (a b : VState) (n : Nat) (w : World) (ha : AsM n a) (hb : AsM n b) :
    Calls Tryz.prog 6 #[.agg (cel (sState a)), .agg (cel (sState b))] w fun e' w' => e' = .returned (.bool true) ∧ Below w.heap.size w w' := by
  obtain ⟨W0, hW0⟩ : ∃ W, (w.alloc (.cells (cel (sState a)) 49)).alloc (.cells (cel (sState b)) 49) = W := ⟨_, rfl⟩
  have r0 : W0.heap[w.heap.size]? = some (.cells (cel (sState a)) 49) := by rw [← hW0]; exact (heap_old (by simp)).trans (heap_new rfl)
  have r1 : W0.heap[w.heap.size + 1]? = some (.cells (cel (sState b)) 49) := by rw [← hW0]; exact heap_new (by simp)
  have hB0 : Up w W0 := by rw [← hW0]; exact ((Below.refl _ _).alloc (Nat.le_refl _) _).alloc (by simp) _
  have c11 := cS11 r0
  rw [ha.m11] at c11
  have d11 := cS11 r1
  rw [hb.m11] at d11
  have c12 := cS12 r0
  rw [ha.m12] at c12
  have d12 := cS12 r1
  rw [hb.m12] at d12
  have c15 := cS15 r0
  rw [ha.m15] at c15
  have d15 := cS15 r1
  rw [hb.m15] at d15
  have c16 := cS16 r0
  rw [ha.m16] at c16
  have d16 := cS16 r1
  rw [hb.m16] at d16
  have c21 := cS21 r0
  rw [ha.m21] at c21
  have d21 := cS21 r1
  rw [hb.m21] at d21
  have HB := hid hB0
  have HW := hid hW0
  clear hB0 hW0 r0 r1
  generalize a.f11.a = A11 at c11
  generalize a.f11.c = C11 at c11
  generalize b.f11.a = B11 at d11
  generalize b.f11.c = D11 at d11
  generalize a.f12.a = A12 at c12
  generalize a.f12.c = C12 at c12
  generalize b.f12.a = B12 at d12
  generalize b.f12.c = D12 at d12
  generalize a.f15.a = A15 at c15
  generalize a.f15.c = C15 at c15
  generalize b.f15.a = B15 at d15
  generalize b.f15.c = D15 at d15
  generalize a.f16.a = A16 at c16
  generalize a.f16.c = C16 at c16
  generalize b.f16.a = B16 at d16
  generalize b.f16.c = D16 at d16
  generalize a.f21.a = A21 at c21
  generalize a.f21.c = C21 at c21
  generalize b.f21.a = B21 at d21
  generalize b.f21.c = D21 at d21
  go_enter Tryz.func6, Tryz.ntmps6
  go_upto_region 1 with fail
  rw [HW.out]
  clear HW
  go_wp2
  go_ret
  exact ⟨rfl, HB.out⟩

end Go.Proofs.YtlplmdhlelgihaaGreatDoor
