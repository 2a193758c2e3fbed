/-
  What the program's functions of layer 15 have to answer, and the statements' own alone and awake.
-/

import Derived.Test.YtlidilnakiphiaaDoorPkD
import Derived.Test.YtlidilnakiphiaaDoorCmC
namespace Go.Proofs.YtlidilnakiphiaaDoor

open Go.RowKit

set_option linter.unusedVariables false

set_option linter.unusedSimpArgs false

set_option maxRecDepth 100000

/-- What the program's functions have to answer. -/
def PProp : Prop := ∀ (x : VState) (w : World), OkState x → Lk w x → Sh w → Calls Tryd.prog 4 #[.agg (cel (sState x))] w fun e' w' => e' = .returned (.tuple #[.int .u64 (prV x), .int .i64 (prE x)]) ∧ Below w.heap.size w w'

def PSync : Prop := ∀ (x : VState) (w : World), OkState x → Lk w x → Sh w → Calls Tryd.prog 9 #[.agg (cel (sState x))] w fun e' w' => ∃ a c, e' = .returned (.tuple #[.slice a (syL x).length c, .int .i64 (syE x)]) ∧ Nml w' a (syL x) ∧ Below w.heap.size w w'

theorem bd_z15 (W : World) : (bdState #[]).run Tryd.prog W = .ok (.agg (cel (sState oState))) W := by kernel_rfl

theorem ok_z15 : OkState oState := by
  have h := okCz
  exact ⟨h.o0, h.o1, h.o2, h.o3, h.o4, h.o5, h.o6, h.o7, h.o8, h.o9, h.o10, fun _ hj => absurd hj (Nat.not_lt_zero _), fun _ hj => absurd hj (Nat.not_lt_zero _), h.o13, h.o14, fun _ hj => absurd hj (Nat.not_lt_zero _), fun _ hj => absurd hj (Nat.not_lt_zero _), h.o18, h.o19, h.o20, fun _ hj => absurd hj (Nat.not_lt_zero _), h.o22, h.o23⟩

theorem pr_zero : prE oState = 7 := by
  have hL : acE oState (oState.f2 / 4) = [] := rfl
  unfold prE
  rw [hL]
  exact (dw_none (.inl rfl)).2

theorem lk_zero (w : World) : Lk w oState := ⟨.inl rfl, by show 0 ≤ 65536; omega, fun j hj => absurd hj (Nat.not_lt_zero _), by show (0 : Int) ≤ 0 ∧ (0 : Int) < 1099511627776; omega⟩

theorem setRow_other {w : World} {b k : Nat} {C : Array Value} (h : k ≠ b) : (w.setRow b C).heap[k]? = w.heap[k]? := by
  simp only [World.setRow, Array.getElem?_modify]
  rw [if_neg (fun e => h e.symm)]

attribute [local go_sem ↓] lvState_eq svState_eq bdState_eq lvValidator_eq svValidator_eq ixValidator_eq bvV_eq bsV_eq

end Go.Proofs.YtlidilnakiphiaaDoor
