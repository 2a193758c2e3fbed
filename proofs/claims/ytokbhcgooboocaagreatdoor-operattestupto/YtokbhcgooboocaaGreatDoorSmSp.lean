/-
  What the statements of layer 7 stand on.
-/
import Derived.Test.YtokbhcgooboocaaGreatDoorCoAp
import Derived.Test.YtokbhcgooboocaaGreatDoorCoBp
import Derived.Test.YtokbhcgooboocaaGreatDoorCoCp
namespace Go.Proofs.YtokbhcgooboocaaGreatDoor
open Go.RowKit
set_option linter.unusedVariables false
set_option linter.unusedSimpArgs false

theorem strF_congr {f g : Nat → Int} {n : Nat} (h : ∀ q, q < n → f q = g q) : Z.strF f n = Z.strF g n := by
  unfold Z.strF
  rw [show (List.range n).map f = (List.range n).map g from List.map_congr_left fun q hq => h q (List.mem_range.1 hq)]

theorem sl7 (W : World) (g o len cap hi : Nat) (h : hi ≤ cap) :
    (sl22 (.slice (some ⟨g, o, none⟩) len cap) none (some (.int .i64 (hi : Nat)))).run Tryz.prog W = .ok (.slice (some ⟨g, o, none⟩) hi cap) W := by
  obtain ⟨i, hi8, _, hz, _⟩ := info_parts info8
  have b1 : ∀ (k n : Nat) (c : BoundsCode), k ≤ n → (Instr.sliceBound (.int .i64 (k : Int)) n c).run Tryz.prog W = .ok k W := by
    intro k n c hk
    have h0 : (k : Int) ≤ (n : Int) := by omega
    simp [Instr.sliceBound, asIntOf, h0]
  have c1 := fun c => b1 0 hi c (Nat.zero_le _)
  have c2 := fun c => b1 hi cap c h
  have e0 : (⟨g, o, none⟩ : Addr).add 0 = ⟨g, o, none⟩ := by simp [Addr.add]
  unfold sl22 Instr.sliceAt
  simp [run_underlying Tryz.underlying34, Instr.slice, Instr.sliceBounds, c1, c2, sizeOf, typeInfo, hi8, hz]
  try (intro _; exact e0)

theorem own_open7 {w : World} {B n : Nat} {v : Value} {m : Nat → Int} (h : w.ownsRow B 5 1 v n (bl m n)) (hn : 0 < n) : ∃ a C, v = .slice a n C ∧ n ≤ C ∧ C ≤ 9223372036854775807 ∧ Bys w a n C m := by
  obtain ⟨a, C, rfl, hb⟩ := own_at h
  obtain ⟨_, _, _, _, h2, _⟩ := bys_at hb hn
  exact ⟨a, C, rfl, h2, bys_cap hb hn, hb⟩

theorem empty7 (w : World) {B : Nat} (h : B ≤ w.heap.size) : (w.alloc (.cells #[] 5)).ownsRow B 5 1 (.slice (some ⟨w.heap.size, 0, none⟩) 0 0) 0 [] :=
  World.ownsRow_made w #[] 0 h (Nat.zero_le _) rfl

/-- Bytes, and one more behind them. -/
def aft (m : Nat → Int) (n : Nat) (z : Int) (q : Nat) : Int := if q < n then m q else z

theorem aft_lt {m : Nat → Int} {n : Nat} {z : Int} {q : Nat} (h : q < n) : aft m n z q = m q := if_pos h

theorem aft_at (m : Nat → Int) (n : Nat) (z : Int) : z = aft m n z n := (if_neg (Nat.lt_irrefl n)).symm

end Go.Proofs.YtokbhcgooboocaaGreatDoor
