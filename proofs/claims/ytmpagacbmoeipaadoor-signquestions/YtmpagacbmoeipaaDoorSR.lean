/-
  The bytes of a state's lists.
  Bits and bytes: what Vector, List, ReadVector and the reference answer (of the texts of layer 4, what others stand on).
  The bytes of a state.
  Whether a state is right.
-/
import Derived.Test.YtmpagacbmoeipaaDoorSQ
import Derived.Test.YtmpagacbmoeipaaDoorZQ
import Derived.Test.YtmpagacbmoeipaaDoorShelf
namespace Go.Proofs.YtmpagacbmoeipaaDoor

open Go.RowKit

set_option linter.unusedVariables false

set_option linter.unusedSimpArgs false

set_option maxRecDepth 20000

attribute [local go_sem ↓] sv24_eq lv24_eq ix22_eq sv8_eq

/-- The place of an element of the type Eth1 in a slice; such an element. -/
def ixEth1 (x i : Value) : Sem Value := Instr.indexAt 35 x i

theorem ixEth1_eq (x i : Value) : Instr.indexAt 35 x i = ixEth1 x i := rfl

attribute [local go_sem ↓] lvEth1_eq svEth1_eq ixEth1_eq

/-- The place of an element of the type Validator in a slice; such an element. -/
def ixValidator (x i : Value) : Sem Value := Instr.indexAt 36 x i

theorem ixValidator_eq (x i : Value) : Instr.indexAt 36 x i = ixValidator x i := rfl

theorem sizeValidator (w : World) : (sizeOf 73).run Tryd.prog w = .ok 86 w := by
  have hi : (Tryd.prog.info? 73).map (·.size) = some 86 := by kernel_rfl
  cases hq : Tryd.prog.info? 73 with
  | none => simp [hq] at hi
  | some i => simp [hq] at hi; simp [sizeOf, typeInfo, hq, hi]

theorem ixValidator_run (w : World) (b off len cap i : Nat) (h : i < len) : (ixValidator (.slice (some ⟨b, off, none⟩) len cap) (.int .i64 i)).run Tryd.prog w = .ok (.pointer (some ⟨b, off + 86 * i, none⟩)) w := by
  unfold ixValidator Instr.indexAt
  have h1 : (0 : Int) ≤ (i : Int) ∧ (i : Int) < (len : Int) := by omega
  simp only [asIntOf, Sem.run_bind, Sem.run_pure, Result.andThen_ok, run_underlying Tryd.underlying36, if_pos h1, sizeValidator, Addr.add_mid, Int.toNat_natCast]
  rw [Nat.mul_comm]

theorem lvValidator_at {w : World} {g o : Nat} {x : VValidator} (h : w.rangeAt g o (celL (sValidator x))) : (lvValidator ⟨g, o, none⟩).run Tryd.prog w = .ok (.agg (cel (sValidator x))) w :=
  loadAt_var (run_loadAt_mid w g o 73 _ _ h Tryd.underlying73 rfl (by rw [celL_len, show slen (sValidator x) = 86 from rfl]; kernel_rfl))

attribute [local go_sem ↓] lvValidator_eq svValidator_eq ixValidator_eq

end Go.Proofs.YtmpagacbmoeipaaDoor

namespace Go.Proofs.YtmpagacbmoeipaaDoor.Z

open Go.RowKit

set_option linter.unusedVariables false

set_option linter.unusedSimpArgs false

/-- The number whose lowest n bits are g's. -/
def bo (g : Nat → Bool) : Nat → Nat
  | 0 => 0
  | k + 1 => bo g k + (if g k = true then 2 ^ k else 0)

theorem bo_lt (g : Nat → Bool) (k : Nat) : bo g k < 2 ^ k := by
  induction k with
  | zero => simp [bo]
  | succ k ih =>
    unfold bo
    rw [Nat.pow_succ]
    split <;> omega

theorem bo_bit (g : Nat → Bool) (n k : Nat) : (bo g n).testBit k = (decide (k < n) && g k) := by
  induction n with
  | zero => simp [bo]
  | succ n ih =>
    have hl := bo_lt g n
    unfold bo
    by_cases hg : g n = true
    · rw [if_pos hg, Nat.add_comm]
      by_cases h : k < n
      · rw [Nat.testBit_two_pow_add_gt h, ih]
        simp [h, Nat.lt_succ_of_lt h]
      · by_cases e : k = n
        · subst e
          rw [Nat.testBit_two_pow_add_eq, Nat.testBit_lt_two_pow hl]
          simp [hg]
        · rw [Nat.testBit_lt_two_pow]
          · simp [show ¬ k < n + 1 by omega]
          · have : 2 ^ (n + 1) ≤ 2 ^ k := Nat.pow_le_pow_right (by omega) (by omega)
            rw [Nat.pow_succ] at this
            omega
    · rw [if_neg hg, Nat.add_zero, ih]
      by_cases e : k = n
      · subst e
        simp at hg
        simp [hg]
      · have : k < n + 1 ↔ k < n := by omega
        simp [this]

/-- The byte q of the bytes of the first n bits of f. -/
def byt (f : Nat → Bool) (n q : Nat) : Nat := bo (fun k => decide (8 * q + k < n) && f (8 * q + k)) 8

theorem byt_bit (f : Nat → Bool) (n q k : Nat) : (byt f n q).testBit k = (decide (k < 8) && (decide (8 * q + k < n) && f (8 * q + k))) := bo_bit _ 8 k

theorem byt_zero (f : Nat → Bool) (q : Nat) : byt f 0 q = 0 := by
  apply Nat.eq_of_testBit_eq
  intro k
  rw [byt_bit]
  simp

end Go.Proofs.YtmpagacbmoeipaaDoor.Z

namespace Go.Proofs.YtmpagacbmoeipaaDoor.Z

open Go.RowKit

set_option linter.unusedVariables false

set_option linter.unusedSimpArgs false

end Go.Proofs.YtmpagacbmoeipaaDoor.Z

namespace Go.Proofs.YtmpagacbmoeipaaDoor.Z

open Go.RowKit

set_option linter.unusedVariables false

set_option linter.unusedSimpArgs false

end Go.Proofs.YtmpagacbmoeipaaDoor.Z

namespace Go.Proofs.YtmpagacbmoeipaaDoor.Z

open Go.RowKit

set_option linter.unusedVariables false

set_option linter.unusedSimpArgs false

theorem vs0 (f : Nat → Bool) (N : Nat) : vs .u8 N (fun _ => 0) = vs .u8 N (fun q => (byt f 0 q : Int)) := vs_congr fun q _ => by rw [byt_zero]; rfl

end Go.Proofs.YtmpagacbmoeipaaDoor.Z

namespace Go.Proofs.YtmpagacbmoeipaaDoor.Z

open Go.RowKit

set_option linter.unusedVariables false

set_option linter.unusedSimpArgs false

end Go.Proofs.YtmpagacbmoeipaaDoor.Z

namespace Go.Proofs.YtmpagacbmoeipaaDoor.Z

open Go.RowKit

set_option linter.unusedVariables false

set_option linter.unusedSimpArgs false

end Go.Proofs.YtmpagacbmoeipaaDoor.Z

namespace Go.Proofs.YtmpagacbmoeipaaDoor.Z

open Go.RowKit

set_option linter.unusedVariables false

set_option linter.unusedSimpArgs false

end Go.Proofs.YtmpagacbmoeipaaDoor.Z

namespace Go.Proofs.YtmpagacbmoeipaaDoor.Z

open Go.RowKit

set_option linter.unusedVariables false

set_option linter.unusedSimpArgs false



end Go.Proofs.YtmpagacbmoeipaaDoor.Z

namespace Go.Proofs.YtmpagacbmoeipaaDoor

open Go.RowKit

set_option linter.unusedVariables false

set_option linter.unusedSimpArgs false

set_option maxRecDepth 20000



/-- The numbers and bits of a field in memory. -/
theorem seg_na {w : World} {g : Nat} {t : TypeId} {x : VState} (h : w.heap[g]? = some (.cells (cel (sState x)) t)) : Z.Nms .u64 w (some ⟨g, 979, none⟩) 8 x.f14 :=
  .inr ⟨g, 979, rfl, (Array.getElem?_eq_some_iff.1 h).1, fun j hj => by
    rcases (by omega : j = 0 ∨ j = 1 ∨ j = 2 ∨ j = 3 ∨ j = 4 ∨ j = 5 ∨ j = 6 ∨ j = 7) with rfl | rfl | rfl | rfl | rfl | rfl | rfl | rfl
    · exact cS14_0 h
    · exact cS14_1 h
    · exact cS14_2 h
    · exact cS14_3 h
    · exact cS14_4 h
    · exact cS14_5 h
    · exact cS14_6 h
    · exact cS14_7 h⟩

attribute [local go_sem ↓] lvState_eq svState_eq lvFork_eq lvHeader_eq lvEth1_eq lvCheckpoint_eq lvCommittee_eq

end Go.Proofs.YtmpagacbmoeipaaDoor

namespace Go.Proofs.YtmpagacbmoeipaaDoor

open Go.RowKit

set_option linter.unusedVariables false

set_option linter.unusedSimpArgs false

set_option maxRecDepth 20000

attribute [local go_sem ↓] lvState_eq svState_eq bdState_eq lvValidator_eq svValidator_eq ixValidator_eq

def vldB (v : VValidator) : Bool := decide (v.f2 % 1000000000 = 0) && (decide (v.f2 ≤ 32000000000) && (epB v.f4 && (epB v.f5 && (epB v.f6 && epB v.f7))))

def valsB (z : Nat → VValidator) (n : Nat) : Bool := (List.range n).all fun i => vldB (z i)

/-- What Right looks at. -/
structure OkR (x : VState) : Prop where
  o2 : 0 ≤ x.f2 ∧ x.f2 < 18446744073709551616
  o11 : ∀ j, j < x.f11.n → OkValidator (x.f11.z j)
  o12 : ∀ j, j < x.f12.n → 0 ≤ x.f12.z j ∧ x.f12.z j < 18446744073709551616
  o14 : ∀ j, j < 8 → 0 ≤ x.f14 j ∧ x.f14 j < 18446744073709551616
  o21 : ∀ j, j < x.f21.n → 0 ≤ x.f21.z j ∧ x.f21.z j < 18446744073709551616

structure InR (w : World) (x : VState) : Prop where
  i11 : Els w x.f11.a x.f11.n 86 (fun i => celL (sValidator (x.f11.z i)))
  i12 : Z.Nms .u64 w x.f12.a x.f12.n x.f12.z
  i21 : Z.Nms .u64 w x.f21.a x.f21.n x.f21.z

theorem InR.below {w w' : World} {x : VState} (h : InR w x) (hb : Below w.heap.size w w') : InR w' x := ⟨h.i11.below hb, h.i12.below hb, h.i21.below hb⟩

theorem InW.r {w : World} {x : VState} (h : InW w x) : InR w x := ⟨h.i11, h.i12, h.i21⟩

theorem OkState.r {x : VState} (h : OkState x) : OkR x := ⟨h.o2, h.o11, h.o12, h.o14, h.o21⟩

/-- Whether a state is right. -/
def rightB (x : VState) : Bool := fitB x && (lensB x && (timB x && (decide (x.f10 < 1099511627776) && (valsB x.f11.z x.f11.n && (scoB x.f21.z x.f21.n && (togB x.f12.z x.f12.n 144115188075855872 && togB x.f14 8 144115188075855872))))))

end Go.Proofs.YtmpagacbmoeipaaDoor
