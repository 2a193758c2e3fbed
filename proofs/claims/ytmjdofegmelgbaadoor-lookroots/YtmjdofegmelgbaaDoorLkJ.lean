/-
  The state of the statements' own awake.
-/

import Derived.Test.YtmjdofegmelgbaaDoorLkH
import Derived.Test.YtmjdofegmelgbaaDoorStI
namespace Go.Proofs.YtmjdofegmelgbaaDoor

open Go.RowKit

set_option linter.unusedVariables false

set_option linter.unusedSimpArgs false

set_option maxRecDepth 100000

def bvV (ps : Array (Nat × Value)) : Sem Value := Instr.build 58 ps

theorem bvV_eq (ps : Array (Nat × Value)) : Instr.build 58 ps = bvV ps := rfl

def bsV (n : Nat) (ps : Array (Nat × Value)) : Sem Value := Instr.buildSlice 36 n ps

theorem bsV_eq (n : Nat) (ps : Array (Nat × Value)) : Instr.buildSlice 36 n ps = bsV n ps := rfl

/-- One validator that is active up to the epoch 9. -/
def oV1 : VValidator := ⟨fun _ => 0, fun _ => 0, 32000000000, false, 0, 0, 9, 0⟩

theorem bvV_1 (W : World) : (bvV #[(2, .int .u64 32000000000), (6, .int .u64 9)]).run Tryd.prog W = .ok (.agg (cel (sValidator oV1))) W := by kernel_rfl

theorem bsV_1 (W : World) : (bsV 1 #[(0, .agg (cel (sValidator oV1)))]).run Tryd.prog W = .ok (.slice (some ⟨W.heap.size, 0, none⟩) 1 1) (W.alloc (.cells (cel (sValidator oV1)) 58)) := by kernel_rfl

def X0 (g1 g2 g3 g4 g5 : Nat) : VState := { oState with f11 := ⟨some ⟨g1, 0, none⟩, 1, 1, fun _ => oV1⟩, f12 := ⟨some ⟨g2, 0, none⟩, 1, 1, fun _ => 0⟩, f15 := ⟨some ⟨g3, 0, none⟩, 1, 1, fun _ => 0⟩, f16 := ⟨some ⟨g4, 0, none⟩, 1, 1, fun _ => 0⟩, f21 := ⟨some ⟨g5, 0, none⟩, 1, 1, fun _ => 0⟩ }

theorem bd_x0 (W : World) (g1 g2 g3 g4 g5 : Nat) : (bdState #[(11, .slice (some ⟨g1, 0, none⟩) 1 1), (12, .slice (some ⟨g2, 0, none⟩) 1 1), (15, .slice (some ⟨g3, 0, none⟩) 1 1), (16, .slice (some ⟨g4, 0, none⟩) 1 1), (21, .slice (some ⟨g5, 0, none⟩) 1 1)]).run Tryd.prog W = .ok (.agg (cel (sState (X0 g1 g2 g3 g4 g5)))) W := by kernel_rfl

theorem okV1 : OkValidator oV1 := ⟨fun _ _ => (by decide : (0 : Int) ≤ 0 ∧ (0 : Int) < 256), fun _ _ => (by decide : (0 : Int) ≤ 0 ∧ (0 : Int) < 256), by decide, trivial, by decide, by decide, by decide, by decide⟩

theorem range_x0 {w : World} {g : Nat} {t : TypeId} (h : w.heap[g]? = some (.cells (cel (sValidator oV1)) t)) : w.rangeAt g 0 (celL (sValidator oV1)) := by
  intro j v hj
  rw [Nat.zero_add, row_cell h, ← hj]
  exact List.getElem?_toArray ..

theorem lk_x0 {w : World} {g1 g2 g3 g4 g5 : Nat} {t : TypeId} (h : w.heap[g1]? = some (.cells (cel (sValidator oV1)) t)) : Lk w (X0 g1 g2 g3 g4 g5) :=
  ⟨.inr ⟨g1, 0, rfl, (Array.getElem?_eq_some_iff.1 h).1, fun i hi => by
    obtain rfl : i = 0 := by have : i < 1 := hi; omega
    exact range_x0 h⟩, by show 1 ≤ 65536; omega, fun j _ => by show (0 : Int) ≤ 32000000000 ∧ (32000000000 : Int) ≤ 32000000000; omega, by show (0 : Int) ≤ 0 ∧ (0 : Int) < 1099511627776; omega⟩

theorem all_x0 (g1 g2 g3 g4 g5 : Nat) : allS (X0 g1 g2 g3 g4 g5) = 32000000000 := by kernel_rfl

theorem chu_x0 (g1 g2 g3 g4 g5 : Nat) : chuS (X0 g1 g2 g3 g4 g5) = 2 := by kernel_rfl

theorem rewA_x0 (g1 g2 g3 g4 g5 : Nat) : rewA (X0 g1 g2 g3 g4 g5) 178885 0 = 11448672 := by kernel_rfl

theorem rewE_x0 (g1 g2 g3 g4 g5 : Nat) : rewE (X0 g1 g2 g3 g4 g5) 0 = 0 := by kernel_rfl

end Go.Proofs.YtmjdofegmelgbaaDoor
