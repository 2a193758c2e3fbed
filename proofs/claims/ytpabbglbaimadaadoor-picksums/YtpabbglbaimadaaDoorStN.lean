/-
  StateBounds: less in a right state leaves it right; one balance more does not.
-/

import Derived.Test.YtpabbglbaimadaaDoorStK
import Derived.Test.YtpabbglbaimadaaDoorSR
import Derived.Test.YtpabbglbaimadaaDoorStL
import Derived.BigRegion

namespace Go.Proofs.YtpabbglbaimadaaDoor

open Go.RowKit

set_option linter.unusedVariables false

set_option linter.unusedSimpArgs false

set_option maxRecDepth 20000

theorem own_keptB {w w' : World} {B k b : Nat} {t : TypeId} {v : Value} {n : Nat} {xs : List Value} (h : w.ownsRow B t k v n xs) (hk : Kept b w w') (hne : v.ownBlock ≠ some b) : w'.ownsRow B t k v n xs := by
  refine ⟨h.1, ?_⟩
  rcases h.2 with h1 | ⟨g, cap, cur, rfl, h2, h3, h4⟩
  · exact .inl h1
  · exact .inr ⟨g, cap, cur, rfl, h2, (hk.block g (some_lt h3) (fun e => hne (by rw [e]; rfl))).trans h3, h4⟩

theorem own_ne {w : World} {B k b : Nat} {t t' : TypeId} {v : Value} {n : Nat} {xs : List Value} {C : Array Value} (h : w.ownsRow B t k v n xs) (hb : w.heap[b]? = some (.cells C t')) (ht : t ≠ t') : v.ownBlock ≠ some b := by
  rcases h.2 with ⟨rfl, _⟩ | ⟨g, cap, cur, rfl, h2, h3, h4⟩
  · intro e
    cases e
  · intro e
    cases e
    rw [hb] at h3
    cases h3
    exact ht rfl

/-- The place that an integer names among n. -/
theorem place (i : Int) (n : Nat) (hn : 0 < n) : ∃ K : Nat, K < n ∧ (i.tmod n + n).tmod n = (K : Int) ∧ -(n : Int) < i.tmod n ∧ i.tmod n < n := by
  have h1 : -(n : Int) < i.tmod n := by
    have := Int.lt_tmod_of_pos i (show (0 : Int) < n by omega)
    omega
  have h2 : i.tmod n < n := Int.tmod_lt_of_pos i (by omega)
  have h3 : 0 ≤ (i.tmod n + n).tmod n := Int.tmod_nonneg _ (by omega)
  have h4 : (i.tmod n + n).tmod n < n := Int.tmod_lt_of_pos _ (by omega)
  exact ⟨((i.tmod n + n).tmod n).toNat, by omega, by omega, h1, h2⟩

end Go.Proofs.YtpabbglbaimadaaDoor
