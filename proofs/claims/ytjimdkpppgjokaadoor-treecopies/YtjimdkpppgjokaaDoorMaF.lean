/-
  What the reference's Up and Holds answer; what MerkleHolds answers.
  What MerkleHolds answers.
  What the reference's Zero answers.
-/
import Derived.Test.YtjimdkpppgjokaaDoorMkL
import Derived.Test.YtjimdkpppgjokaaDoorHaG
import Derived.Maps.AppendAt
import Derived.Test.YtjimdkpppgjokaaDoorMkP
namespace Go.Proofs.YtjimdkpppgjokaaDoor
open Go.RowKit
set_option linter.unusedVariables false
set_option linter.unusedSimpArgs false

attribute [local go_sem ↓] sv24_eq lv24_eq ix22_eq slr_eq lv48_eq sv48_eq bd48_eq bd27_eq bs22_eq sl22_eq mk22_eq eqo_eq

/-- The reference's table. -/
def Rc (w : World) : Prop := Tab w 2 64 KW
theorem Rc.below {w w' : World} (h : Rc w) (hb : Below w.heap.size w w') : Rc w' := Tab.below h hb
theorem rtwo_tw (a b : Nat → Int) (w : World) (hC : Rc w) (ha : ∀ j, j < 32 → 0 ≤ a j ∧ a j < 256) (hb : ∀ j, j < 32 → 0 ≤ b j ∧ b j < 256) :
    Calls Tryd.prog 66 #[.agg (vs .u8 32 a), .agg (vs .u8 32 b)] w fun e w' => e = .returned (.agg (vs .u8 32 (tw a b))) ∧ Below w.heap.size w w' :=
  reftwo_any a b w hC ha hb

end Go.Proofs.YtjimdkpppgjokaaDoor

namespace Go.Proofs.YtjimdkpppgjokaaDoor
open Go.RowKit
set_option linter.unusedVariables false
set_option linter.unusedSimpArgs false

/-- append of roots, whole. -/
def apR (ty : TypeId) (x y : Value) : Sem Value := Builtin.append_ #[26, 26] ty #[x, y]
theorem wp_appendR_is {P : Program} {o : Oper} {a : Act} {w : World} {K : Act → World → Prop} {Q : Exit → Act → World → Prop} (s x : Operand)
    (ho : o.op = .call { callee := .builtin .append, args := #[s, x], argTypes := #[26, 26] }) (ws wx v : Value) (w' : World) (hs : a.eval s = ws) (hx : a.eval x = wx)
    (hrun : (apR o.type ws wx).run P w = .ok v w') (h : K (a.put o.dst v) w') : Oper.wp P o a w K Q := by
  unfold apR at hrun
  unfold Oper.wp execOp
  simp only [ho, resolve, invoke, builtin, Sem.run_bind, Sem.run_pure, Result.andThen_ok, List.map_toArray, List.map_cons, List.map_nil, hs, hx, hrun]
  exact h
/-- A copy of roots by append. -/
theorem apR_copy (w w0 : World) (a : Option Addr) (len cap : Nat) (f : Nat → Int) (hr : Rts w0 a len cap f) (hl : 32 * len ≤ 140737488355328) (hb : Below w0.heap.size w0 w) (ty : TypeId) :
    ∃ a' cap' w', (apR ty (.slice (some ⟨w.heap.size, 0, none⟩) 0 0) (.slice a len cap)).run Tryd.prog (w.alloc (.cells #[] 33)) = .ok (.slice a' len cap') w' ∧ Below w.heap.size w w' ∧ Rts w' a' len cap' f := by
  obtain ⟨i, hi, hz0, hz1, hz2⟩ := infoR
  have hzz : (Value.agg (vs .u8 32 fun _ => 0)).cells.size = 32 := by simp [Value.cells, vs_size]
  have hB : Below w.heap.size w (w.alloc (.cells #[] 33)) := (Below.refl _ _).alloc (Nat.le_refl _) _
  have hown : (w.alloc (.cells #[] 33)).ownsRow w.heap.size 33 32 (.slice (some ⟨w.heap.size, 0, none⟩) 0 0) 0 [] := World.ownsRow_made _ #[] 0 (Nat.le_refl _) (Nat.zero_le _) rfl
  have hfin : ∀ v' w', w'.ownsRow w.heap.size 33 32 v' (0 + len) ([] ++ bl f (32 * len)) → (w.alloc (.cells #[] 33)).grownBy w' (Value.slice (some ⟨w.heap.size, 0, none⟩) 0 0).ownBlock → ∃ a' cap', v' = .slice a' len cap' ∧ Below w.heap.size w w' ∧ Rts w' a' len cap' f := by
    intro v' w' ho hg
    rw [Nat.zero_add, List.nil_append] at ho
    obtain ⟨a', cap', rfl, hrow⟩ := RowR.ofOwns ho
    exact ⟨a', cap', rfl, below_grownS hB hown (by simp) hg, hrow.rts⟩
  have hr2 : Rts (w.alloc (.cells #[] 33)) a len cap f := hr.below (hb.trans (hB.mono hb.size))
  rcases hr2 with ⟨rfl, rfl, rfl⟩ | ⟨x0, rfl, rfl⟩ | ⟨b, off, rfl, hlc, hbl, hc⟩
  · have h := run_append_owned_none (P := Tryd.prog) (w := w.alloc (.cells #[] 33)) w.heap.size 26 ty 33 i 32 Tryd.underlying26 hi _ 0 [] hown
    exact ⟨_, _, _, h, hB, .inr (.inl ⟨_, rfl, rfl⟩)⟩
  · obtain ⟨v', w', hrun, ho, hg, _⟩ := run_append_own_at (P := Tryd.prog) (w.alloc (.cells #[] 33)) w.heap.size 26 ty 33 i _ 32 32 Tryd.underlying26 hi hz0 hz1 hz2 hzz (by decide) _ 0 [] hown x0 0 cap (bl f (32 * 0)) (by rw [bl_len])
      (fun j u hj => by
        have := (bl_get f (32 * 0) j u hj).1
        omega) (bl_one f _) (by unfold maxLen; omega) (by omega) (by simp)
    obtain ⟨a', cap', rfl, h1, h2⟩ := hfin v' w' ho hg
    exact ⟨a', cap', w', hrun, h1, h2⟩
  · obtain ⟨v', w', hrun, ho, hg, _⟩ := run_append_own_at (P := Tryd.prog) (w.alloc (.cells #[] 33)) w.heap.size 26 ty 33 i _ 32 32 Tryd.underlying26 hi hz0 hz1 hz2 hzz (by decide) _ 0 [] hown ⟨b, off, none⟩ len cap (bl f (32 * len)) (by rw [bl_len]; omega)
      (fun j u hj => by
        obtain ⟨h1, rfl⟩ := bl_get f (32 * len) j u hj
        rw [addr_add]
        exact hc j h1) (bl_one f _) (by unfold maxLen; omega) (by omega) (by simp)
    obtain ⟨a', cap', rfl, h1, h2⟩ := hfin v' w' ho hg
    exact ⟨a', cap', w', hrun, h1, h2⟩

attribute [local go_sem ↓] sv24_eq lv24_eq ix22_eq slr_eq lv48_eq sv48_eq bd48_eq bd27_eq sl22_eq mk22_eq eqo_eq

end Go.Proofs.YtjimdkpppgjokaaDoor

namespace Go.Proofs.YtjimdkpppgjokaaDoor
open Go.RowKit
set_option linter.unusedVariables false
set_option linter.unusedSimpArgs false

attribute [local go_sem ↓] sv24_eq lv24_eq ix22_eq slr_eq lv48_eq sv48_eq bd48_eq bd27_eq bs22_eq sl22_eq mk22_eq eqo_eq

end Go.Proofs.YtjimdkpppgjokaaDoor
