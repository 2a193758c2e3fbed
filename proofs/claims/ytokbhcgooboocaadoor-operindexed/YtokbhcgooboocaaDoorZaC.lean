/-
  What readOffsets answers.
  What ssz.Many answers where it cuts.
  The fixed answers that every statement of layer 3 asks first are right.
  What SszBools answers.
-/
import Derived.Test.YtokbhcgooboocaaDoorZaB
import Derived.ScopeJumps
namespace Go.Proofs.YtokbhcgooboocaaDoor.Z
open Go.RowKit
set_option linter.unusedVariables false
set_option linter.unusedSimpArgs false

/-- make of numbers. -/
theorem wpList_make_u64 (w : World) {ops : Array Oper} {rest : List Oper} {o : Oper} {a : Act} {Q : Exit → Act → World → Prop} (hg : o.guard = none) (l c : Operand) (hop : o.op = Op.makeSlice 22 l c)
    (n : Nat) (hl : a.eval l = .int .i64 n) (hc : a.eval c = .int .i64 n) (hn : n ≤ 1000000000000)
    (hK : ∀ f w', w'.heap[w.heap.size]? = some (.cells (vals n f) 23) → Below w.heap.size w w' → w.heap.size < w'.heap.size → wpList Tryd.prog ops Q rest (a.put o.dst (.slice (some ⟨w.heap.size, 0, none⟩) n n)) w') :
    wpList Tryd.prog ops Q (o :: rest) a w := by
  obtain ⟨i, hi, hz0, hz1, hz2⟩ := info_parts infoU
  refine wpList_make_full w hg l c 22 hop w.heap.size 23 i _ 1 Tryd.underlying22 hi hz0 hz1 .i64 .i64 _ _ n hl hc rfl rfl (by rw [hz2]; omega) (by unfold maxLen; omega) (Nat.le_refl _) (fun w' h1 h2 => ?_)
  rcases h1.2 with ⟨h3, _⟩ | ⟨g, cap, cur, h3, h4, h5, h6, h7, h8, _⟩
  · cases h3
  · cases h3
    have hs : cur.size = n := by omega
    refine hK (fun i => cur[i]?.getD undef) w' ?_ ⟨h2.os, h2.tape, h2.output, h2.size, fun k hk => h2.block k hk (by intro h; cases h)⟩ (Array.getElem?_eq_some_iff.1 h5).1
    rw [h5]
    have := vals_of cur
    rw [hs] at this
    rw [← this]

attribute [local go_sem ↓] sl22_eq

end Go.Proofs.YtokbhcgooboocaaDoor.Z

namespace Go.Proofs.YtokbhcgooboocaaDoor.Z
open Go.RowKit
set_option linter.unusedVariables false
set_option linter.unusedSimpArgs false

theorem sl_upto (ao : Option Addr) (len cap hi : Nat) (m : Nat → Int) (h2 : hi ≤ len) (h3 : len ≤ cap) :
    ∃ A, (∀ W, (sl22 (.slice ao len cap) none (some (.int .u64 hi))).run Tryd.prog W = .ok (.slice A hi cap) W) ∧ ∀ W, Bys W ao len cap m → Bys W A hi cap m := by
  refine ⟨if cap = 0 then ao else ao.map (·.add 0), fun W => ?_, fun W hb => ?_⟩
  · obtain ⟨i, hi8, _, hz, _⟩ := info_parts info8
    have b1 : ∀ (k n : Nat) (c : BoundsCode), k ≤ n → (Instr.sliceBound (.int .u64 (k : Int)) n c).run Tryd.prog W = .ok k W := by
      intro k n c hk
      have h0 : (k : Int) ≤ (n : Int) := by omega
      simp [Instr.sliceBound, asIntOf, h0]
    have c2 := fun c => b1 hi cap c (by omega)
    unfold sl22 Instr.sliceAt
    simp [run_underlying Tryd.underlying34, Instr.slice, Instr.sliceBounds, c2, sizeOf, typeInfo, hi8, hz]
  · have := bys_part hb 0 hi (by omega) h2
    simp only [Nat.sub_zero, Nat.zero_add] at this
    exact this

attribute [local go_sem ↓] sl22_eq

end Go.Proofs.YtokbhcgooboocaaDoor.Z

namespace Go.Proofs.YtokbhcgooboocaaDoor.Z
open Go.RowKit
set_option linter.unusedVariables false
set_option linter.unusedSimpArgs false

def mC (j : Nat) : Int := [1, 2, 7, 0, 0, 0, 3, 4, 5].getD j 0
def zC (j : Nat) : Int := [2, 0, 1].getD j 0
def mM (j : Nat) : Int := [8, 0, 0, 0, 9, 0, 0, 0, 170, 187].getD j 0
def oM (j : Nat) : Nat := [8, 9].getD j 0
theorem cells9 (w : World) (b : Nat) (t : TypeId) (h : w.heap[b]? = some (.cells #[.int .u8 1, .int .u8 2, .int .u8 7, .int .u8 0, .int .u8 0, .int .u8 0, .int .u8 3, .int .u8 4, .int .u8 5] t)) : ∀ j, j < 9 → w.cell? ⟨b, 0 + j, none⟩ = some (.int .u8 (mC j)) := by
  intro j hj
  rw [Nat.zero_add, row_cell h]
  rcases (by omega : j = 0 ∨ j = 1 ∨ j = 2 ∨ j = 3 ∨ j = 4 ∨ j = 5 ∨ j = 6 ∨ j = 7 ∨ j = 8) with h | h | h | h | h | h | h | h | h <;> subst h <;> rfl
theorem cells3 (w : World) (b : Nat) (t : TypeId) (h : w.heap[b]? = some (.cells #[.int .i64 2, .int .i64 0, .int .i64 1] t)) : ∀ j, j < 3 → w.cell? ⟨b, 0 + j, none⟩ = some (.int .i64 (zC j)) := by
  intro j hj
  rw [Nat.zero_add, row_cell h]
  rcases (by omega : j = 0 ∨ j = 1 ∨ j = 2) with h | h | h <;> subst h <;> rfl
theorem cells10 (w : World) (b : Nat) (t : TypeId) (h : w.heap[b]? = some (.cells #[.int .u8 8, .int .u8 0, .int .u8 0, .int .u8 0, .int .u8 9, .int .u8 0, .int .u8 0, .int .u8 0, .int .u8 170, .int .u8 187] t)) : ∀ j, j < 10 → w.cell? ⟨b, 0 + j, none⟩ = some (.int .u8 (mM j)) := by
  intro j hj
  rw [Nat.zero_add, row_cell h]
  rcases (by omega : j = 0 ∨ j = 1 ∨ j = 2 ∨ j = 3 ∨ j = 4 ∨ j = 5 ∨ j = 6 ∨ j = 7 ∨ j = 8 ∨ j = 9) with h | h | h | h | h | h | h | h | h | h <;> subst h <;> rfl
theorem mC_bd : ∀ j, j < 9 → 0 ≤ mC j ∧ mC j < 256 := by decide
theorem mM_bd : ∀ j, j < 10 → 0 ≤ mM j ∧ mM j < 256 := by decide
theorem str45 : strF (fun j => mC (7 + j)) 2 = ⟨#[4, 5]⟩ := by rfl
theorem str187 : strF (fun j => mM (9 + j)) 1 = ⟨#[187]⟩ := by rfl

end Go.Proofs.YtokbhcgooboocaaDoor.Z

namespace Go.Proofs.YtokbhcgooboocaaDoor.Z
open Go.RowKit
set_option linter.unusedVariables false
set_option linter.unusedSimpArgs false

/-- The frame with which the one end is reached. -/
def Ref (w : World) (err : Int) (v5 v6 v7 v8 v9 v10 v11 v0 : Value) (a' : Act) (w' : World) : Prop :=
  w' = w ∧ a' = { tmps := #[v0, undef, .bool false, .int .i64 0, .int .i64 err, v5, v6, v7, v8, v9, v10, v11, undef, undef, undef, undef, undef], defers := [] }

end Go.Proofs.YtokbhcgooboocaaDoor.Z
