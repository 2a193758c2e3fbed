/-
  What the program's functions answer, handed to the laws of layer 13.
-/

import Derived.Test.YtficlakgameglaaDoorQL
import Derived.Test.YtficlakgameglaaDoorQS
namespace Go.Proofs.YtficlakgameglaaDoor

open Go.RowKit

set_option linter.unusedVariables false

set_option linter.unusedSimpArgs false

set_option maxRecDepth 20000

attribute [local go_sem ↓] lvState_eq svState_eq bdState_eq lvValidator_eq svValidator_eq ixValidator_eq

theorem root_prog : PRoot := fun n w h0 h1 => root_any n w h0 h1

theorem actives_prog : PActives := fun x e w hx _ => actives_any x e w hx

theorem total_prog : PTotal := fun x a m cap f w hx hf h0 hm => total_any x a m cap f w hx hf h0 hm

end Go.Proofs.YtficlakgameglaaDoor
