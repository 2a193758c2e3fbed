/-
  What the document's own product by bits (wide) and its Mul answer, for all numbers of 64 bits.
-/
import Derived.Test.YtbilbiehgagfkabWalkA
namespace Go.Proofs.Ytbilbiehgagfkab
open Go.RowKit

end Go.Proofs.Ytbilbiehgagfkab
