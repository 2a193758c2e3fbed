/-
  What the reference's Same, Depth and Zero answer.
-/
import Derived.Test.YtjimdkpppgjokaaDoorMkL
namespace Go.Proofs.YtjimdkpppgjokaaDoor
open Go.RowKit
set_option linter.unusedVariables false
set_option linter.unusedSimpArgs false

theorem yields_neo {ops : Array Oper} {S : World → Prop} {op : Oper} {a : Act} (hw : Region.wanted op (yielded ops a.tmps) = true) (x y : Operand) (rt : TypeId) (ho : op.op = .binOp .neq 33 x y rt) (c d : Nat → Int)
    (hx : a.eval x = .agg (vs .u8 32 c)) (hy : a.eval y = .agg (vs .u8 32 d)) : YieldsIf Tryd.prog ops S op (.bool (!eqR c d)) a :=
  .inl ⟨hw, fun w _ => by
    have h : (Op.equalIn Op.maxDepth 33 (.agg (vs .u8 32 c)) (.agg (vs .u8 32 d))).run Tryd.prog w = .ok (eqR c d) w := eq32g w c d
    unfold execOp
    simp [ho, hx, hy, eqGuard, binOp, Op.equal, h]⟩

attribute [local go_sem ↓] sv24_eq lv24_eq ix22_eq slr_eq lv48_eq sv48_eq bd48_eq bd27_eq bs22_eq sl22_eq mk22_eq eqo_eq

theorem shl_one (d : Nat) (hd : d ≤ 40) : wrap64 ((2 : Int) ^ d) = ((2 ^ d : Nat) : Int) := by
  have : 2 ^ d ≤ 2 ^ 40 := Nat.pow_le_pow_right (by omega) hd
  unfold wrap64
  have e : ((2 : Int) ^ d) = ((2 ^ d : Nat) : Int) := by simp
  rw [e]
  have h0 : 0 < 2 ^ d := Nat.two_pow_pos d
  generalize 2 ^ d = X at this h0 ⊢
  have h1 : (X : Int) ≤ 1099511627776 := by omega
  omega

set_option maxRecDepth 20000 in
set_option maxHeartbeats 1000000 in
theorem rdepth_any (n : Nat) (w : World) (hn : n ≤ 1099511627776) :
    Calls Tryd.prog 33 #[.int .i64 n] w fun e w' => e = .returned (.int .i64 (dpt n : Nat)) ∧ w' = w := by
  have hD2 := dpt_le n hn
  have hD3 := dpt_ge n hn
  have hD4 := fun k => dpt_lt n k hn
  generalize dpt n = D at hD2 hD3 hD4 ⊢
  have HD4 := hid hD4
  clear hD4
  go_enter Tryd.func33, Tryd.ntmps33
  go_wp2
  go_loopw [3] (fun i wr => ∃ k : Nat, k ≤ D ∧ i = .int .i64 k ∧ wr = w) (fun i _ => D - (intOf i).toNat)
  case atStart => exact ⟨0, by omega, rfl, rfl⟩
  case round =>
    obtain ⟨k, hk, rfl, rfl⟩ := hrel
    have hs := shl_one k (by omega)
    obtain ⟨X, eX⟩ : ∃ X : Nat, 2 ^ k = X := ⟨_, rfl⟩
    rw [eX] at hs
    by_cases hlt : k < D
    · have hx := HD4.out k hlt
      rw [eX] at hx
      have b3 : decide (X < n) = true := by simp; omega
      have b4 : decide ((X : Int) < (n : Int)) = true := by simp; omega
      clear eX
      go_wp2
      go_roundw
      case rel => exact ⟨k + 1, by omega, by go_num, by trivial⟩
      case measure => simp [intOf]; omega
    · have ek : k = D := by omega
      subst ek
      have b3 : decide (X < n) = false := by simp; omega
      have b4 : decide ((X : Int) < (n : Int)) = false := by simp; omega
      clear eX hD3
      go_wp2
      go_ret
      exact ⟨rfl, rfl⟩

end Go.Proofs.YtjimdkpppgjokaaDoor
