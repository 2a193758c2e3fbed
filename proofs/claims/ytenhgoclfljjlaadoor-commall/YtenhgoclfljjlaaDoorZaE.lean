/-
  What the reference's sizesOK and Head answer.
  What the reference's offset answers.
  What word.Bytes, ssz.appendOffset and ssz.totalLength answer.
  Lists of bytes; what the reference's Same and ssz.totalLength answer.
-/
import Derived.Test.YtenhgoclfljjlaaDoorZaB
namespace Go.Proofs.YtenhgoclfljjlaaDoor.Z

open Go.RowKit

set_option linter.unusedVariables false

set_option linter.unusedSimpArgs false

end Go.Proofs.YtenhgoclfljjlaaDoor.Z

namespace Go.Proofs.YtenhgoclfljjlaaDoor.Z

open Go.RowKit

set_option linter.unusedVariables false

set_option linter.unusedSimpArgs false

end Go.Proofs.YtenhgoclfljjlaaDoor.Z

namespace Go.Proofs.YtenhgoclfljjlaaDoor.Z

open Go.RowKit

set_option linter.unusedVariables false

set_option linter.unusedSimpArgs false

/-- The byte at place i, the lowest first. -/
def bt (n : Int) : Nat → Int
  | 0 => n % 256
  | 1 => n / 256 % 256
  | 2 => n / 65536 % 256
  | 3 => n / 16777216 % 256
  | 4 => n / 4294967296 % 256
  | 5 => n / 1099511627776 % 256
  | 6 => n / 281474976710656 % 256
  | _ => n / 72057594037927936 % 256

end Go.Proofs.YtenhgoclfljjlaaDoor.Z

namespace Go.Proofs.YtenhgoclfljjlaaDoor.Z

open Go.RowKit

set_option linter.unusedVariables false

set_option linter.unusedSimpArgs false

end Go.Proofs.YtenhgoclfljjlaaDoor.Z
