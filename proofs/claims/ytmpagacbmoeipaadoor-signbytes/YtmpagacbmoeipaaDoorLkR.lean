/-
  What the program's RootAt, Leak and Seed answer.
-/

import Derived.Test.YtmpagacbmoeipaaDoorLkM
import Derived.Test.YtmpagacbmoeipaaDoorMQ
import Derived.Test.YtmpagacbmoeipaaDoorMaD
import Derived.ArgAppend

namespace Go.Proofs.YtmpagacbmoeipaaDoor

open Go.RowKit

set_option linter.unusedVariables false

set_option linter.unusedSimpArgs false

set_option maxRecDepth 20000

set_option maxHeartbeats 1000000 in
theorem wbytes_any (n : Int) (w : World) (h0 : 0 ≤ n) (h1 : n ≤ 18446744073709551615) :
    Calls Tryd.prog 31 #[.int .u64 n] w fun e w' => e = .returned (.agg (vs .u8 8 (nmB n))) ∧ Below w.heap.size w w' := by
  have e0 : vs .u8 8 (nmB n) = #[.int .u8 (n % 256), .int .u8 (n / 256 % 256), .int .u8 (n / 65536 % 256), .int .u8 (n / 16777216 % 256), .int .u8 (n / 4294967296 % 256), .int .u8 (n / 1099511627776 % 256), .int .u8 (n / 281474976710656 % 256), .int .u8 (n / 72057594037927936)] := by
    have e7 : n / 72057594037927936 = n / 72057594037927936 % 256 := by omega
    have e1 : n % 256 = n / 1 % 256 := by omega
    rw [e7, e1]
    rfl
  rw [e0]
  clear e0
  go_enter Tryd.func31, Tryd.ntmps31
  go_wp2
  go_rounds 9
  go_returns
  exact ⟨rfl, by go_grown⟩

attribute [local go_sem ↓] lvState_eq svState_eq bdState_eq lvValidator_eq svValidator_eq ixValidator_eq sv24_eq lv24_eq bd27_eq sv8_eq ix31_eq

end Go.Proofs.YtmpagacbmoeipaaDoor
