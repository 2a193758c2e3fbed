/-
  What the program's functions answer, handed to the laws of layer 13.
-/

import Derived.Test.YtmjdofegmelgbaaDoorLkQ
import Derived.Test.YtmjdofegmelgbaaDoorWalkD
namespace Go.Proofs.YtmjdofegmelgbaaDoor

open Go.RowKit

set_option linter.unusedVariables false

set_option linter.unusedSimpArgs false

set_option maxRecDepth 20000

attribute [local go_sem ↓] lvState_eq svState_eq bdState_eq lvValidator_eq svValidator_eq ixValidator_eq

theorem root_prog : PRoot := fun n w h0 h1 => root_any n w h0 h1

theorem active_prog : PActive := fun v e w _ => active_any v e w

theorem churn_prog : PChurn := fun x w hx _ => churn_any x w hx

set_option maxHeartbeats 1000000 in
theorem reward_no (x : VState) (i : Int) (w : World) (hx : Lk w x) (hi : (x.f11.n : Int) ≤ i) :
    Calls Tryd.prog 12 #[.agg (cel (sState x)), .int .u64 i] w fun e' w' => e' = .returned (.tuple #[.int .u64 0, .int .i64 1]) ∧ Below w.heap.size w w' := by
  obtain ⟨W0, hW0⟩ : ∃ W, w.alloc (.cells (cel (sState x)) 49) = W := ⟨_, rfl⟩
  have r0 : W0.heap[w.heap.size]? = some (.cells (cel (sState x)) 49) := by rw [← hW0]; exact heap_new rfl
  have hB0 : Below w.heap.size w W0 := by rw [← hW0]; exact (Below.refl _ _).alloc (Nat.le_refl _) _
  have l0 : (lvState ⟨w.heap.size, 0, none⟩).run Tryd.prog W0 = .ok (.agg (cel (sState x))) W0 := lvState_run r0
  have his := fun W : World => isThere_any x i W hx.nb
  rw [show decide (i < (x.f11.n : Int)) = false by simp; omega] at his
  have HIS := hid his
  have HB := hid hB0
  have HW := hid hW0
  clear his hB0 hW0 hx r0
  go_enter Tryd.func12, Tryd.ntmps12
  go_upto_region 1 with fail
  rw [HW.out]
  clear HW
  go_wp2_with (go_at_call 25; refine (HIS.out _).mono ?_; rintro e' w1 ⟨rfl, hb1⟩)
  go_ret2
  exact ⟨rfl, HB.out.trans (hb1.mono HB.out.size)⟩

theorem reward_prog : PReward := fun x r i w hx _ hr h0 => by
  by_cases h : i < (x.f11.n : Int)
  · have := reward_ok root_prog x r i.toNat w hx hr (by omega)
    rw [show ((i.toNat : Nat) : Int) = i by omega] at this
    unfold rewA rewE
    rw [if_pos h, if_pos h]
    exact this
  · unfold rewA rewE
    rw [if_neg h, if_neg h]
    exact reward_no x i w hx (by omega)

end Go.Proofs.YtmjdofegmelgbaaDoor
