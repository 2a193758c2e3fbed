/-
  What the reference's recursion answers.
  append onto a row of roots in a region that draws its order; what the reference's zeros answers.
  What the reference's Tree, Bytes and Mix answer.
  What the reference's Pack answers.
-/
import Derived.Test.YtmbgidfngefniaaMaC
import Derived.Test.YtmbgidfngefniaaHaE
import Derived.Test.YtmbgidfngefniaaHaA
import Derived.Test.YtmbgidfngefniaaHaD
import Derived.Test.YtmbgidfngefniaaMaA
namespace Go.Proofs.Ytmbgidfngefniaa

open Go.RowKit

set_option linter.unusedVariables false

set_option linter.unusedSimpArgs false

attribute [local go_sem ↓] sv24_eq lv24_eq ix22_eq slr_eq bd27_eq bs22_eq sl22_eq mk22_eq eqo_eq

theorem Rts.cut {w : World} {a : Option Addr} {len cap n : Nat} {f : Nat → Int} (h : Rts w a len cap f) (hn : n ≤ len) : Rts w a n cap f := by
  rcases h with ⟨h1, h2, h3⟩ | ⟨x, h1, h2⟩ | ⟨b, off, h1, h2, h3, h4⟩
  · exact .inl ⟨h1, by omega, h3⟩
  · exact .inr (.inl ⟨x, h1, by omega⟩)
  · exact .inr (.inr ⟨b, off, h1, by omega, h3, fun j hj => h4 j (by omega)⟩)

end Go.Proofs.Ytmbgidfngefniaa

namespace Go.Proofs.Ytmbgidfngefniaa

open Go.RowKit

set_option linter.unusedVariables false

set_option linter.unusedSimpArgs false

attribute [local go_sem ↓] sv24_eq lv24_eq ix22_eq slr_eq bd27_eq bs22_eq sl22_eq mk22_eq eqo_eq

end Go.Proofs.Ytmbgidfngefniaa

namespace Go.Proofs.Ytmbgidfngefniaa

open Go.RowKit

set_option linter.unusedVariables false

set_option linter.unusedSimpArgs false

attribute [local go_sem ↓] sv24_eq lv24_eq ix22_eq slr_eq bd27_eq bs22_eq sl22_eq mk22_eq eqo_eq



end Go.Proofs.Ytmbgidfngefniaa

namespace Go.Proofs.Ytmbgidfngefniaa

open Go.RowKit

set_option linter.unusedVariables false

set_option linter.unusedSimpArgs false

attribute [local go_sem ↓] sv24_eq lv24_eq ix22_eq slr_eq bd27_eq bs22_eq mk22_eq eqo_eq

end Go.Proofs.Ytmbgidfngefniaa
