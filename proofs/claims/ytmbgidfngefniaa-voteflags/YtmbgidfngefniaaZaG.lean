/-
  A container's bytes, cut again.
  What the reference's Lay answers.
-/
import Derived.Test.YtmbgidfngefniaaZaB
namespace Go.Proofs.Ytmbgidfngefniaa.Z

open Go.RowKit

set_option linter.unusedVariables false

set_option linter.unusedSimpArgs false

end Go.Proofs.Ytmbgidfngefniaa.Z

namespace Go.Proofs.Ytmbgidfngefniaa.Z

open Go.RowKit

set_option linter.unusedVariables false

set_option linter.unusedSimpArgs false

/-- Two rows of the call's own, apart. -/
def Two (w : World) (B : Nat) (v : Value) (n : Nat) (xs : List Value) (u : Value) (m : Nat) (ys : List Value) : Prop :=
  w.ownsRow B 5 1 v n xs ∧ w.ownsRow B 5 1 u m ys ∧ ∀ k, v.ownBlock = some k → u.ownBlock ≠ some k

theorem Two.below {w w' : World} {B : Nat} {v : Value} {n : Nat} {xs : List Value} {u : Value} {m : Nat} {ys : List Value} (h : Two w B v n xs u m ys) (hb : Below w.heap.size w w') : Two w' B v n xs u m ys :=
  ⟨owns_below h.1 hb, owns_below h.2.1 hb, h.2.2⟩

end Go.Proofs.Ytmbgidfngefniaa.Z
