/-
  The bytes of a state's lists.
-/

import Derived.Test.YtmbgidfngefniaaStA
namespace Go.Proofs.Ytmbgidfngefniaa

open Go.RowKit

set_option linter.unusedVariables false

set_option linter.unusedSimpArgs false

set_option maxRecDepth 20000

attribute [local go_sem ↓] sv24_eq lv24_eq ix22_eq

/-- Bytes of elements of one size, one behind the other. -/
def eB (K : Nat) (g : Nat → Nat → Int) (q : Nat) : Int := g (q / K) (q % K)

/-- The place of an element of the type Eth1 in a slice; such an element. -/
def ixEth1 (x i : Value) : Sem Value := Instr.indexAt 35 x i

theorem ixEth1_eq (x i : Value) : Instr.indexAt 35 x i = ixEth1 x i := rfl

attribute [local go_sem ↓] lvEth1_eq svEth1_eq ixEth1_eq

/-- The place of an element of the type Validator in a slice; such an element. -/
def ixValidator (x i : Value) : Sem Value := Instr.indexAt 36 x i

theorem ixValidator_eq (x i : Value) : Instr.indexAt 36 x i = ixValidator x i := rfl

theorem sizeValidator (w : World) : (sizeOf 63).run Try.prog w = .ok 86 w := by
  have hi : (Try.prog.info? 63).map (·.size) = some 86 := by kernel_rfl
  cases hq : Try.prog.info? 63 with
  | none => simp [hq] at hi
  | some i => simp [hq] at hi; simp [sizeOf, typeInfo, hq, hi]

theorem ixValidator_run (w : World) (b off len cap i : Nat) (h : i < len) : (ixValidator (.slice (some ⟨b, off, none⟩) len cap) (.int .i64 i)).run Try.prog w = .ok (.pointer (some ⟨b, off + 86 * i, none⟩)) w := by
  unfold ixValidator Instr.indexAt
  have h1 : (0 : Int) ≤ (i : Int) ∧ (i : Int) < (len : Int) := by omega
  simp only [asIntOf, Sem.run_bind, Sem.run_pure, Result.andThen_ok, run_underlying Try.underlying36, if_pos h1, sizeValidator, Addr.add_mid, Int.toNat_natCast]
  rw [Nat.mul_comm]

theorem lvValidator_at {w : World} {g o : Nat} {x : VValidator} (h : w.rangeAt g o (celL (sValidator x))) : (lvValidator ⟨g, o, none⟩).run Try.prog w = .ok (.agg (cel (sValidator x))) w :=
  loadAt_var (run_loadAt_mid w g o 63 _ _ h Try.underlying63 rfl (by rw [celL_len, show slen (sValidator x) = 86 from rfl]; kernel_rfl))

attribute [local go_sem ↓] lvValidator_eq svValidator_eq ixValidator_eq

end Go.Proofs.Ytmbgidfngefniaa
