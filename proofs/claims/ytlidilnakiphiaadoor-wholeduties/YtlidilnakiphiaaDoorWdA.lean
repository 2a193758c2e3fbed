/-
  What WholeDuties looks at: who stood how often, a state at another slot, who was chosen.
-/

import Derived.Test.YtlidilnakiphiaaDoorCmE
import Derived.Test.YtlidilnakiphiaaDoorPkM
import Derived.Test.YtlidilnakiphiaaDoorLkG
namespace Go.Proofs.YtlidilnakiphiaaDoor

open Go.RowKit

set_option linter.unusedVariables false

set_option linter.unusedSimpArgs false

set_option maxRecDepth 20000

theorem tw_step (F : Nat → Int) (M v : Nat) (hv : F M = (v : Int)) : (vs .i64 100 (tvF F M)).setIfInBounds v (.int .i64 (tvF F M v + 1)) = vs .i64 100 (tvF F (M + 1)) := by
  rw [vs_set]
  refine vs_congr fun j _ => ?_
  unfold tvF
  show _ = ((if F M = (j : Int) then tmV F j M + 1 else tmV F j M : Nat) : Int)
  by_cases h : j = v
  · subst h
    rw [if_pos rfl, if_pos hv]
    rfl
  · rw [if_neg h, if_neg (by omega)]

theorem zero_100i (w : World) : (zeroValue 55).run Tryd.prog w = .ok (.agg (vs .i64 100 fun _ => 0)) w := by kernel_rfl

theorem tw_zero (F : Nat → Int) : vs .i64 100 (fun _ => 0) = vs .i64 100 (tvF F 0) := vs_congr fun j _ => rfl

theorem n64_neW {W : World} {g n b off : Nat} {f F : Nat → Int} {t : TypeId} (hg : W.heap[g]? = some (.cells (vs .i64 100 f) t)) (h : ∀ j, j < n → W.cell? ⟨b, off + j, none⟩ = some (.int .u64 (F j))) (h0 : 0 < n) : b ≠ g := fun e => by
  subst e
  have h1 := h 0 h0
  rw [row_cell hg] at h1
  by_cases hk : off + 0 < 100
  · rw [vs_get _ _ _ _ hk] at h1
    cases h1
  · rw [vs_get_none _ _ _ _ (by omega)] at h1
    cases h1

/-- The state at another slot, its header's slot 0. -/
def atS (x : VState) (v : Int) : VState := { x with f2 := v, f4 := { x.f4 with f0 := 0 } }

def slS (x : VState) (v : Int) : VState := { x with f2 := v }

theorem split2 (x : VState) (v : Int) : sState (slS x v) = (sState x).take 2 ++ [.nu v] ++ (sState x).drop 3 := by kernel_rfl

theorem split6 (x : VState) (v : Int) : sState (atS x v) = (sState (slS x v)).take 6 ++ [.nu 0] ++ (sState (slS x v)).drop 7 := by kernel_rfl

theorem split6' (x : VState) (v : Int) : sState (slS x v) = (sState (slS x v)).take 6 ++ [.nu x.f4.f0] ++ (sState (slS x v)).drop 7 := by kernel_rfl

theorem split2' (x : VState) : sState x = (sState x).take 2 ++ [.nu x.f2] ++ (sState x).drop 3 := by kernel_rfl

theorem len2 (x : VState) : slen ((sState x).take 2) = 33 := by kernel_rfl

theorem len6 (x : VState) : slen ((sState x).take 6) = 43 := by kernel_rfl

theorem celL_nu (v : Int) : celL [.nu v] = [.int .u64 v] := rfl

theorem set2 (x : VState) (v : Int) : (cel (sState x)).setIfInBounds 33 (.int .u64 v) = cel (sState (slS x v)) := by
  have h := put_seg ((sState x).take 2) [.nu x.f2] [.nu v] ((sState x).drop 3) rfl
  rw [← split2 x v, ← split2' x, len2, celL_nu] at h
  exact h

theorem set6 (x : VState) (v : Int) : (cel (sState (slS x v))).setIfInBounds 43 (.int .u64 0) = cel (sState (atS x v)) := by
  have h := put_seg ((sState (slS x v)).take 6) [.nu x.f4.f0] [.nu 0] ((sState (slS x v)).drop 7) rfl
  rw [← split6 x v, ← split6' x v, len6, celL_nu] at h
  exact h

theorem atS_at {w : World} {y : Nat} {x : VState} {t : TypeId} (v : Int) (h : w.heap[y]? = some (.cells (cel (sState x)) t)) : ((w.setCell ⟨y, 33, none⟩ (.int .u64 v)).setCell ⟨y, 43, none⟩ (.int .u64 0)).heap[y]? = some (.cells (cel (sState (atS x v))) t) := by
  rw [row_set (row_set h 33 _) 43, set2, set6]

theorem cS43 {w : World} {y : Nat} {x : VState} {t : TypeId} (h : w.heap[y]? = some (.cells (cel (sState x)) t)) : w.cell? ⟨y, 43, none⟩ = some (.int .u64 x.f4.f0) := seg_nu h 6 x.f4.f0 (by kernel_rfl) 43 (by kernel_rfl)

theorem ok_atS {x : VState} (h : OkState x) {v : Int} (v0 : 0 ≤ v) (v1 : v < 18446744073709551616) : OkState (atS x v) :=
  ⟨h.o0, h.o1, ⟨v0, v1⟩, h.o3, ⟨by show (0 : Int) ≤ 0 ∧ (0 : Int) < 18446744073709551616; omega, h.o4.2⟩, h.o5, h.o6, h.o7, h.o8, h.o9, h.o10, h.o11, h.o12, h.o13, h.o14, h.o15, h.o16, h.o18, h.o19, h.o20, h.o21, h.o22, h.o23⟩

theorem lk_atS {w : World} {x : VState} (h : Lk w x) {v : Int} (v0 : 0 ≤ v) (v1 : v < 1099511627776) : Lk w (atS x v) := ⟨h.el, h.nb, h.ef, ⟨v0, v1⟩⟩

/-- Who proposes there is active. -/
theorem pr_atS (x : VState) (E v : Int) (hv : v / 4 = E) : (prE (atS x v) = 0 ∧ ∃ V : Nat, prV (atS x v) = (V : Int) ∧ V < x.f11.n ∧ actB (x.f11.z V) E = true) ∨ prE (atS x v) = 7 := by
  have e2 : (atS x v).f2 / 4 = E := hv
  rcases dw_one (atS x v).f11.z (acE (atS x v) ((atS x v).f2 / 4)) (prS (atS x v)) 1 with ⟨h1, h2, h3⟩ | ⟨h1, _⟩
  · refine .inl ⟨h1, ?_⟩
    have h4 := h3 _ (getD_mem _ 0 (by rw [h2]; omega))
    rw [e2] at h4
    have h5 : (0 : Int) ≤ prV (atS x v) ∧ prV (atS x v) < (x.f11.n : Int) ∧ actB (x.f11.z (prV (atS x v)).toNat) E = true := by
      have := (acL_mem x.f11.z E x.f11.n _).1 h4
      rw [← e2] at this ⊢
      exact this
    exact ⟨(prV (atS x v)).toNat, by omega, by omega, h5.2.2⟩
  · exact .inr h1

/-- The next committee's members are active then. -/
theorem sy_two (x : VState) : (syE x = 0 ∧ (syL x).length = 8 ∧ ∀ j, j < 8 → ∃ V : Nat, (syL x).getD j 0 = (V : Int) ∧ V < x.f11.n ∧ actB (x.f11.z V) (x.f2 / 4 + 1) = true) ∨ (syE x = 7 ∧ syL x = []) := by
  rcases dw_one x.f11.z (acE x (x.f2 / 4 + 1)) (seedV x (x.f2 / 4 + 1) 7) 8 with ⟨h1, h2, h3⟩ | h
  · refine .inl ⟨h1, h2, fun j hj => ?_⟩
    have h4 := h3 _ (getD_mem (syL x) j (by show j < (dwL x.f11.z (acE x (x.f2 / 4 + 1)) (seedV x (x.f2 / 4 + 1) 7) 8).length; omega))
    obtain ⟨q0, q1, q2⟩ := (acL_mem _ _ _ _).1 h4
    exact ⟨((syL x).getD j 0).toNat, by omega, by omega, q2⟩
  · exact .inr h

theorem eq48 (w : World) (c : Nat → Int) : (Op.equalIn 10000 44 (.agg (vs .u8 48 c)) (.agg (vs .u8 48 c))).run Tryd.prog w = .ok true w := by
  have hi : ∃ i, Tryd.prog.info? 5 = some i := Option.isSome_iff_exists.1 (by kernel_rfl)
  obtain ⟨i, hi⟩ := hi
  have hc : Tryd.prog.cellsOf 5 = 1 := by kernel_rfl
  rw [run_equalIn_array w 9999 _ _ Tryd.underlying44 hi, hc]
  have h := run_eqItems_ints (P := Tryd.prog) 9998 5 .u8 .u8 Tryd.underlying5 agg_u8 (vs .u8 48 c) (vs .u8 48 c) c c w (List.range 48) (by
    intro j hj
    have hj := List.mem_range.1 hj
    exact ⟨vs_get _ _ _ _ hj, vs_get _ _ _ _ hj⟩)
  rw [h]
  simp

theorem yields_neK {ops : Array Oper} {S : World → Prop} {op : Oper} {a : Act} (hw : Region.wanted op (yielded ops a.tmps) = true) (x y : Operand) (rt : TypeId) (ho : op.op = .binOp .neq 44 x y rt) (c : Nat → Int)
    (hx : a.eval x = .agg (vs .u8 48 c)) (hy : a.eval y = .agg (vs .u8 48 c)) : YieldsIf Tryd.prog ops S op (.bool false) a :=
  .inl ⟨hw, fun w _ => by
    have h : (Op.equalIn Op.maxDepth 44 (.agg (vs .u8 48 c)) (.agg (vs .u8 48 c))).run Tryd.prog w = .ok true w := eq48 w c
    unfold execOp
    simp [ho, hx, hy, eqGuard, binOp, Op.equal, h]⟩

end Go.Proofs.YtlidilnakiphiaaDoor
