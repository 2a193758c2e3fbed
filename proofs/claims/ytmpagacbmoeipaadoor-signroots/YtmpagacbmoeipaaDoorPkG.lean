/-
  Keys in a row, and what the reference's Sum answers.
-/

import Derived.Test.YtmpagacbmoeipaaDoorCmA
import Derived.Test.YtmpagacbmoeipaaDoorVQ
import Derived.Test.YtmpagacbmoeipaaDoorLQ
import Derived.Test.YtmpagacbmoeipaaDoorLkM
import Derived.Test.YtmpagacbmoeipaaDoorSkA
import Derived.Test.YtmpagacbmoeipaaDoorStS
namespace Go.Proofs.YtmpagacbmoeipaaDoor

open Go.RowKit

set_option linter.unusedVariables false

set_option linter.unusedSimpArgs false

set_option maxRecDepth 20000

/-- The keys of a slice, their bytes one behind the other. -/
def Kys (w : World) (a : Option Addr) (len cap : Nat) (f : Nat → Int) : Prop :=
  (a = none ∧ len = 0 ∧ cap = 0) ∨ (∃ x, a = some x ∧ len = 0) ∨ ∃ b off, a = some ⟨b, off, none⟩ ∧ len ≤ cap ∧ b < w.heap.size ∧ ∀ j, j < 48 * len → w.cell? ⟨b, off + j, none⟩ = some (.int .u8 (f j))

theorem Kys.below {w w' : World} {a : Option Addr} {len cap : Nat} {f : Nat → Int} (h : Kys w a len cap f) (hb : Below w.heap.size w w') : Kys w' a len cap f := by
  rcases h with h | h | ⟨b, off, h1, h2, h3, h4⟩
  · exact .inl h
  · exact .inr (.inl h)
  · exact .inr (.inr ⟨b, off, h1, h2, Nat.lt_of_lt_of_le h3 hb.size, fun j hj => (below_cell hb h3).trans (h4 j hj)⟩)

/-- The place of a key in a slice. -/
def ixKy (x i : Value) : Sem Value := Instr.indexAt 62 x i

theorem ixKy_eq (x i : Value) : Instr.indexAt 62 x i = ixKy x i := rfl

theorem sizeKy (w : World) : (sizeOf 44).run Tryd.prog w = .ok 48 w := by
  have hi : (Tryd.prog.info? 44).map (·.size) = some 48 := by kernel_rfl
  cases hq : Tryd.prog.info? 44 with
  | none => simp [hq] at hi
  | some i => simp [hq] at hi; simp [sizeOf, typeInfo, hq, hi]

theorem ixKy_run (w : World) (b off len cap i : Nat) (h : i < len) : (ixKy (.slice (some ⟨b, off, none⟩) len cap) (.int .i64 i)).run Tryd.prog w = .ok (.pointer (some ⟨b, off + 48 * i, none⟩)) w := by
  unfold ixKy Instr.indexAt
  have h1 : (0 : Int) ≤ (i : Int) ∧ (i : Int) < (len : Int) := by omega
  simp only [asIntOf, Sem.run_bind, Sem.run_pure, Result.andThen_ok, run_underlying Tryd.underlying62, if_pos h1, sizeKy, Addr.add_mid, Int.toNat_natCast]
  rw [Nat.mul_comm]

def lvKy (a : Addr) : Sem Value := loadVar 44 a

theorem lvKy_eq (a : Addr) : loadVar 44 a = lvKy a := rfl

attribute [local go_sem ↓] ixKy_eq lvKy_eq svKy_eq sv24_eq lv24_eq

end Go.Proofs.YtmpagacbmoeipaaDoor
