/-
  What the reference's recursion answers.
  append onto a row of roots in a region that draws its order; what the reference's zeros answers.
  What the reference's Tree, Bytes and Mix answer.
  What the reference's Pack answers.
-/
import Derived.Test.YtpabbglbaimadaaDoorMQ
import Derived.Test.YtpabbglbaimadaaDoorHaG
namespace Go.Proofs.YtpabbglbaimadaaDoor

open Go.RowKit

set_option linter.unusedVariables false

set_option linter.unusedSimpArgs false

attribute [local go_sem ↓] sv24_eq lv24_eq ix22_eq slr_eq bd27_eq bs22_eq sl22_eq mk22_eq eqo_eq

theorem Rts.cut {w : World} {a : Option Addr} {len cap n : Nat} {f : Nat → Int} (h : Rts w a len cap f) (hn : n ≤ len) : Rts w a n cap f := by
  rcases h with ⟨h1, h2, h3⟩ | ⟨x, h1, h2⟩ | ⟨b, off, h1, h2, h3, h4⟩
  · exact .inl ⟨h1, by omega, h3⟩
  · exact .inr (.inl ⟨x, h1, by omega⟩)
  · exact .inr (.inr ⟨b, off, h1, by omega, h3, fun j hj => h4 j (by omega)⟩)

end Go.Proofs.YtpabbglbaimadaaDoor

namespace Go.Proofs.YtpabbglbaimadaaDoor

open Go.RowKit

set_option linter.unusedVariables false

set_option linter.unusedSimpArgs false

theorem ownsRow_below {w w' : World} {B : Nat} {v : Value} {n s : Nat} {xs : List Value} {e : TypeId} (h : w.ownsRow B e s v n xs) (hb : Below w.heap.size w w') : w'.ownsRow B e s v n xs :=
  h.kept (row := none) ⟨hb.os, hb.tape, hb.output, hb.size, fun k hk _ => hb.block k hk⟩ (by cases v.ownBlock <;> simp)

attribute [local go_sem ↓] sv24_eq lv24_eq ix22_eq slr_eq bd27_eq bs22_eq sl22_eq mk22_eq eqo_eq

end Go.Proofs.YtpabbglbaimadaaDoor

namespace Go.Proofs.YtpabbglbaimadaaDoor

open Go.RowKit

set_option linter.unusedVariables false

set_option linter.unusedSimpArgs false

attribute [local go_sem ↓] sv24_eq lv24_eq ix22_eq slr_eq bd27_eq bs22_eq sl22_eq mk22_eq eqo_eq

set_option maxHeartbeats 1000000 in
theorem rbytes_any (n : Int) (w : World) (h0 : 0 ≤ n) (h1 : n ≤ 18446744073709551615) :
    Calls Tryd.prog 29 #[.int .u64 n] w fun e w' => e = .returned (.agg (vs .u8 8 (nmB n))) ∧ Below w.heap.size w w' := by
  have e0 : vs .u8 8 (nmB n) = #[.int .u8 (n % 256), .int .u8 (n / 256 % 256), .int .u8 (n / 65536 % 256), .int .u8 (n / 16777216 % 256), .int .u8 (n / 4294967296 % 256), .int .u8 (n / 1099511627776 % 256), .int .u8 (n / 281474976710656 % 256), .int .u8 (n / 72057594037927936)] := by
    have e7 : n / 72057594037927936 = n / 72057594037927936 % 256 := by omega
    have e1 : n % 256 = n / 1 % 256 := by omega
    rw [e7, e1]
    rfl
  rw [e0]
  clear e0
  go_enter Tryd.func29, Tryd.ntmps29
  go_wp2
  go_rounds 9
  go_returns
  exact ⟨rfl, by go_grown⟩

/-- Eight bytes stored, whole. -/
def sv53 (a : Addr) (v : Value) : Sem Unit := storeVar 76 a v

theorem sv53_eq (a : Addr) (v : Value) : storeVar 76 a v = sv53 a v := rfl

attribute [local go_sem ↓] sv53_eq

end Go.Proofs.YtpabbglbaimadaaDoor

namespace Go.Proofs.YtpabbglbaimadaaDoor

open Go.RowKit

set_option linter.unusedVariables false

set_option linter.unusedSimpArgs false

attribute [local go_sem ↓] sv24_eq lv24_eq ix22_eq slr_eq bd27_eq bs22_eq mk22_eq eqo_eq

end Go.Proofs.YtpabbglbaimadaaDoor
