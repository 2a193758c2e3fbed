/-
  What the reading of a state calls.
-/

import Derived.Test.YtmbgidfngefniaaStF
import Derived.Test.YtmbgidfngefniaaSkA
namespace Go.Proofs.Ytmbgidfngefniaa

open Go.RowKit

set_option linter.unusedVariables false

set_option linter.unusedSimpArgs false

set_option maxRecDepth 20000

theorem info_out {P : Program} {t : TypeId} {z : Value} {s b : Nat} (h : (P.info? t).map (fun i => (i.zero, i.size, i.bytes)) = some (some z, s, b)) : ∃ i, P.info? t = some i ∧ i.zero = some z ∧ i.size = s ∧ i.bytes = b := by
  cases hq : P.info? t with
  | none => simp [hq] at h
  | some i => simp [hq] at h; exact ⟨i, rfl, h.1, h.2.1, h.2.2⟩

attribute [local go_sem ↓] ix22_eq sl22_eq

def ixU (x i : Value) : Sem Value := Instr.indexAt 37 x i

theorem ixU_eq (x i : Value) : Instr.indexAt 37 x i = ixU x i := rfl

theorem size_u64 (w : World) : (sizeOf 22).run Try.prog w = .ok 1 w := by
  obtain ⟨i, hi, _, hs, _⟩ := info_out (P := Try.prog) (t := 22) (z := .int .u64 0) (s := 1) (b := 8) (by kernel_rfl)
  simp [sizeOf, typeInfo, hi, hs]

theorem ixU_run (w : World) (b off len cap i : Nat) (h : i < len) : (ixU (.slice (some ⟨b, off, none⟩) len cap) (.int .i64 i)).run Try.prog w = .ok (.pointer (some ⟨b, off + i, none⟩)) w := by
  unfold ixU Instr.indexAt
  have h1 : (0 : Int) ≤ (i : Int) ∧ (i : Int) < (len : Int) := by omega
  simp only [asIntOf, Sem.run_bind, Sem.run_pure, Result.andThen_ok, run_underlying Try.underlying37, if_pos h1, size_u64, Addr.add_mid, Int.toNat_natCast, Nat.mul_one]

attribute [local go_sem ↓] ixU_eq

end Go.Proofs.Ytmbgidfngefniaa
