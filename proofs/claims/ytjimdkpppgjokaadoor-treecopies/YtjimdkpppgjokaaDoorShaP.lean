/-
  The padded bytes as a list of values (for the reference's Padded).
-/
import Derived.Test.YtjimdkpppgjokaaDoorShaI
import Derived.Maps.AppendAt
namespace Go.Proofs.YtjimdkpppgjokaaDoor
open Go.RowKit
set_option linter.unusedVariables false

/-- The first n padded bytes. -/
def pl (m : Nat → Int) (len n : Nat) : List Value := (List.range n).map fun i => Value.int .u8 (padM m len i)
theorem pl_len (m : Nat → Int) (len n : Nat) : (pl m len n).length = n := by simp [pl]
theorem pl_one (m : Nat → Int) (len n : Nat) : ∀ u ∈ pl m len n, u.oneCell' = true := by
  intro u hu
  obtain ⟨i, _, rfl⟩ := List.mem_map.1 hu
  rfl
theorem pl_snoc (m : Nat → Int) (len n : Nat) (v : Int) (hv : v = padM m len n) : pl m len n ++ [.int .u8 v] = pl m len (n + 1) := by
  unfold pl
  rw [List.range_succ, List.map_append, hv]
  rfl
theorem info8 : (Tryd.prog.info? 5).map (fun i => (i.zero, i.size, i.bytes)) = some (some (.int .u8 0), 1, 1) := by kernel_rfl

end Go.Proofs.YtjimdkpppgjokaaDoor
