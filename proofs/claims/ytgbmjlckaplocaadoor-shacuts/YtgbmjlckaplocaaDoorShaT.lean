/-
  Bytes that may be none, written and summed.
-/
import Derived.Test.YtgbmjlckaplocaaDoorShaL
import Derived.Test.YtgbmjlckaplocaaDoorShaS
namespace Go.Proofs.YtgbmjlckaplocaaDoor
open Go.RowKit
set_option linter.unusedVariables false

/-- Bytes that are read; none where there are none. -/
def Byz (w : World) (a : Option Addr) (len cap : Nat) (m : Nat → Int) : Prop :=
  len = 0 ∨ ∃ b off, a = some ⟨b, off, none⟩ ∧ len ≤ cap ∧ cap ≤ 9223372036854775807 ∧ b < w.heap.size ∧ ∀ j, j < len → w.cell? ⟨b, off + j, none⟩ = some (.int .u8 (m j))
theorem Byz.below {w w' : World} {a : Option Addr} {len cap : Nat} {m : Nat → Int} (h : Byz w a len cap m) (hb : Below w.heap.size w w') : Byz w' a len cap m := by
  rcases h with h | ⟨b, off, h1, h2, h3, h4, h5⟩
  · exact .inl h
  · exact .inr ⟨b, off, h1, h2, h3, Nat.lt_of_lt_of_le h4 hb.size, fun j hj => (below_cell hb h4).trans (h5 j hj)⟩
theorem Bys.byz {w : World} {a : Option Addr} {len cap : Nat} {m : Nat → Int} (h : Bys w a len cap m) : Byz w a len cap m := by
  rcases h with ⟨_, h, _⟩ | ⟨_, _, h⟩ | h
  · exact .inl h
  · exact .inl h
  · exact .inr h
theorem sum_byz (K H m : Nat → Int) (a : Option Addr) (len cap : Nat) (w : World) (hH : Tab w 0 8 H) (hK : Tab w 2 64 K) (hB : ∀ i, i < 8 → 0 ≤ H i ∧ H i < 4294967296)
    (hz : Byz w a len cap m) (hr : ∀ j, j < len → 0 ≤ m j ∧ m j < 256) (hL : len < 1152921504606846976) :
    Calls Tryd.prog 9 #[.slice a len cap] w fun e w' => e = .returned (.agg (vs .u8 32 (shaV K H m len))) ∧ Below w.heap.size w w' := by
  rcases hz with rfl | ⟨b, off, rfl, h2, h3, h4, h5⟩
  · exact sum_zero K H m a cap w hH hK hB
  · exact sum_any K H m len cap b off w hH hK hB h5 hr h4 hL h2 h3
theorem write_byz (K H m : Nat → Int) (g : Nat) (s f : Nat → Int) (L len cap : Nat) (a : Option Addr) (w : World) (hd : Dig K H m L s f) (hg : w.heap[g]? = some (.cells (dg s f L) 47)) (hK : Tab w 2 64 K) (hg2 : (2 : Nat) ≠ g)
    (hz : Byz w a len cap (fun j => m (L + j))) (hn : 0 < len → ∀ b off, a = some ⟨b, off, none⟩ → b ≠ g) (hr : ∀ j, j < len → 0 ≤ m (L + j) ∧ m (L + j) < 256) (hL : L + len < 4611686018427387904) :
    Calls Tryd.prog 15 #[.pointer (some ⟨g, 0, none⟩), .slice a len cap] w fun e w' => e = .returned (.tuple #[]) ∧ Kept g w w' ∧ ∃ s' f', Dig K H m (L + len) s' f' ∧ w'.heap[g]? = some (.cells (dg s' f' ((L + len : Nat) : Int)) 47) := by
  by_cases h0 : len = 0
  · subst h0
    refine (write_zero g a cap w).mono ?_
    rintro e w' ⟨rfl, rfl⟩
    exact ⟨rfl, Kept.refl _ _, s, f, hd, hg⟩
  · rcases hz with h | ⟨b, off, rfl, h2, h3, h4, h5⟩
    · exact absurd h h0
    · exact write_any K H m g s f L len cap b off w hd hg hK hg2 h5 hr (hn (by omega) b off rfl) h4 hL h2 h3

end Go.Proofs.YtgbmjlckaplocaaDoor
