/-
  Plain facts on numbers of 64 bits that the walks of package word lean on: disjoint bits, halves of products.
-/

import Derived.Test.YtficlakgameglaaDoorRows
import Derived.WalkKit

import Derived.Laws.Bits64b

namespace Go.Proofs.YtficlakgameglaaDoor

open Go.RowKit

theorem or_nat' (i m y : Nat) (hy : y < 2 ^ i) (h : 2 ^ i * m + y < 18446744073709551616) :
    bits .or .u64 (y : Int) ((2 ^ i * m : Nat) : Int) = ((2 ^ i * m + y : Nat) : Int) := by
  rw [bits_or_u64_nat _ _ (by omega) (by omega), Nat.two_pow_add_eq_or_of_lt hy m, Nat.or_comm]

end Go.Proofs.YtficlakgameglaaDoor
