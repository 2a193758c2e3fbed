/-
  Trees of hashes, as functions: zero roots, the nodes of a tree, the depth of a limit.
  Roots in memory: rows of bytes read and written thirty-two at a time; the block of a row of a tree.
  What a row tells at a place.
  What a row tells at any place; slices of roots; rows of the call's own.
-/
import Derived.Test.YtmbgidfngefniaaHaE
import Derived.Lib.BitFns
namespace Go.Proofs.Ytmbgidfngefniaa

open Go.RowKit

set_option linter.unusedVariables false

set_option linter.unusedSimpArgs false

/-- The hash of two roots. -/
def tw (a b : Nat → Int) : Nat → Int := shaV KW HW (cat a b) 64

/-- The zero roots. -/
def zr : Nat → Nat → Int
  | 0 => fun _ => 0
  | n + 1 => tw (zr n) (zr n)

/-- The root number i of a flat row. -/
def rt32 (f : Nat → Int) (i : Nat) : Nat → Int := fun j => f (32 * i + j)

/-- The node number i of the level d of a tree over the first len roots of f. -/
def nd (f : Nat → Int) (len : Nat) : Nat → Nat → Nat → Int
  | 0, i => if i < len then rt32 f i else fun _ => 0
  | d + 1, i => tw (nd f len d (2 * i)) (nd f len d (2 * i + 1))

/-- How many nodes of a level stand over roots. -/
def up (len : Nat) : Nat → Nat
  | 0 => len
  | d + 1 => (up len d + 1) / 2

/-- The depth of a limit. -/
def dpt (n : Nat) : Nat := if n = 0 then 0 else Lib.bitLen (n - 1)

end Go.Proofs.Ytmbgidfngefniaa

namespace Go.Proofs.Ytmbgidfngefniaa

open Go.RowKit

set_option linter.unusedVariables false

set_option linter.unusedSimpArgs false

/-- An element's address, whole. -/
def ix22 (x i : Value) : Sem Value := Instr.indexAt 32 x i

theorem ix22_eq (x i : Value) : Instr.indexAt 32 x i = ix22 x i := rfl

theorem size_root (w : World) : (sizeOf 24).run Try.prog w = .ok 32 w := by
  have hi : (Try.prog.info? 24).map (·.size) = some 32 := by kernel_rfl
  cases hq : Try.prog.info? 24 with
  | none => simp [hq] at hi
  | some i => simp [hq] at hi; simp [sizeOf, typeInfo, hq, hi]

theorem ix22_run (w : World) (b off len cap i : Nat) (h : i < len) : (ix22 (.slice (some ⟨b, off, none⟩) len cap) (.int .i64 i)).run Try.prog w = .ok (.pointer (some ⟨b, off + 32 * i, none⟩)) w := by
  unfold ix22 Instr.indexAt
  have h1 : (0 : Int) ≤ (i : Int) ∧ (i : Int) < (len : Int) := by omega
  simp only [asIntOf, Sem.run_bind, Sem.run_pure, Result.andThen_ok, run_underlying Try.underlying32, if_pos h1, size_root, Addr.add_mid, Int.toNat_natCast]
  rw [Nat.mul_comm]

theorem lv24_mid {w : World} {b o : Nat} {c : Nat → Int} (h : ∀ j, j < 32 → w.cell? ⟨b, o + j, none⟩ = some (.int .u8 (c j))) : (lv24 ⟨b, o, none⟩).run Try.prog w = .ok (.agg (vs .u8 32 c)) w := by
  have hr : w.rangeAt b o ((List.range 32).map fun i => Value.int .u8 (c i)) := by
    intro j v hj
    have hlt : j < 32 := by
      have := (List.getElem?_eq_some_iff.1 hj).1
      simpa using this
    rw [h j hlt]
    simp [hlt] at hj
    rw [hj]
  exact loadAt_var (run_loadAt_mid w b o 24 _ _ hr Try.underlying24 rfl (by rw [List.length_map, List.length_range]; kernel_rfl))

/-- Roots in a row, whatever slice it is. -/
def Rts (w : World) (a : Option Addr) (len cap : Nat) (f : Nat → Int) : Prop :=
  (a = none ∧ len = 0 ∧ cap = 0) ∨ (∃ x, a = some x ∧ len = 0) ∨ ∃ b off, a = some ⟨b, off, none⟩ ∧ len ≤ cap ∧ b < w.heap.size ∧ ∀ j, j < 32 * len → w.cell? ⟨b, off + j, none⟩ = some (.int .u8 (f j))

theorem Rts.below {w w' : World} {a : Option Addr} {len cap : Nat} {f : Nat → Int} (h : Rts w a len cap f) (hb : Below w.heap.size w w') : Rts w' a len cap f := by
  rcases h with h | h | ⟨b, off, h1, h2, h3, h4⟩
  · exact .inl h
  · exact .inr (.inl h)
  · exact .inr (.inr ⟨b, off, h1, h2, Nat.lt_of_lt_of_le h3 hb.size, fun j hj => (below_cell hb h3).trans (h4 j hj)⟩)

/-- A root of a row: its address, and what lies there. -/
theorem Rts.at {w : World} {a : Option Addr} {len cap : Nat} {f : Nat → Int} (h : Rts w a len cap f) (i : Nat) (hi : i < len) :
    ∃ b o, b < w.heap.size ∧ (∀ W : World, (ix22 (.slice a len cap) (.int .i64 i)).run Try.prog W = .ok (.pointer (some ⟨b, o, none⟩)) W) ∧ ∀ j, j < 32 → w.cell? ⟨b, o + j, none⟩ = some (.int .u8 (rt32 f i j)) := by
  rcases h with ⟨_, h, _⟩ | ⟨_, _, h⟩ | ⟨b, off, rfl, h2, h3, h4⟩
  · omega
  · omega
  · exact ⟨b, off + 32 * i, h3, fun W => ix22_run W b off len cap i hi, fun j hj => by rw [Nat.add_assoc]; exact h4 _ (by omega)⟩

end Go.Proofs.Ytmbgidfngefniaa

namespace Go.Proofs.Ytmbgidfngefniaa

open Go.RowKit

set_option linter.unusedVariables false

set_option linter.unusedSimpArgs false

attribute [local go_sem ↓] sv24_eq lv24_eq ix22_eq

end Go.Proofs.Ytmbgidfngefniaa

namespace Go.Proofs.Ytmbgidfngefniaa

open Go.RowKit

set_option linter.unusedVariables false

set_option linter.unusedSimpArgs false

attribute [local go_sem ↓] sv24_eq lv24_eq ix22_eq

/-- Slices of roots, whole. -/
def slr (x : Value) (lo hi : Option Value) : Sem Value := Instr.sliceAt 32 x lo hi none

theorem slr_eq (x : Value) (lo hi : Option Value) : Instr.sliceAt 32 x lo hi none = slr x lo hi := rfl

def ofs (a : Option Addr) (cap lo : Nat) : Option Addr := if cap = lo then a else a.map (·.add (lo * 32))

theorem Rts.part {w : World} {a : Option Addr} {len cap : Nat} {f : Nat → Int} (h : Rts w a len cap f) (lo hi : Nat) (h1 : lo ≤ hi) (h2 : hi ≤ len) :
    Rts w (ofs a cap lo) (hi - lo) (cap - lo) (fun q => f (32 * lo + q)) := by
  unfold ofs
  rcases h with ⟨rfl, rfl, rfl⟩ | ⟨x, rfl, rfl⟩ | ⟨b, off, rfl, h3, h4, h5⟩
  · exact .inl ⟨by simp, by omega, by omega⟩
  · by_cases hc : cap = lo
    · rw [if_pos hc]; exact .inr (.inl ⟨x, rfl, by omega⟩)
    · rw [if_neg hc]; exact .inr (.inl ⟨x.add (lo * 32), rfl, by omega⟩)
  · by_cases hc : cap = lo
    · rw [if_pos hc]; exact .inr (.inl ⟨_, rfl, by omega⟩)
    · rw [if_neg hc]
      refine .inr (.inr ⟨b, off + lo * 32, by rw [Option.map_some, Addr.add_mid], by omega, h4, fun j hj => ?_⟩)
      rw [show off + lo * 32 + j = off + (32 * lo + j) by omega]
      exact h5 _ (by omega)

end Go.Proofs.Ytmbgidfngefniaa

