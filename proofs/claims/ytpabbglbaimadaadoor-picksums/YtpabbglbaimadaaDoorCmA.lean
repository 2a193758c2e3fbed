/-
  Committees as plain numbers: how many, where they are cut, who stands in them.
-/

import Derived.Test.YtpabbglbaimadaaDoorLQ
import Derived.Test.YtpabbglbaimadaaDoorVQ
namespace Go.Proofs.YtpabbglbaimadaaDoor

open Go.RowKit

set_option linter.unusedVariables false

set_option linter.unusedSimpArgs false

/-- Who is active: rising, each once. -/
theorem acL_mem (z : Nat → VValidator) (e : Int) (k : Nat) (v : Int) : v ∈ acL z e k ↔ 0 ≤ v ∧ v < (k : Int) ∧ actB (z v.toNat) e = true := by
  induction k with
  | zero => exact ⟨fun h => (List.not_mem_nil h).elim, fun h => by omega⟩
  | succ k ih =>
    unfold acL
    cases hb : actB (z k) e
    · rw [if_neg (by simp), ih]
      constructor
      · rintro ⟨h0, h1, h2⟩; exact ⟨h0, by omega, h2⟩
      · rintro ⟨h0, h1, h2⟩
        refine ⟨h0, ?_, h2⟩
        by_cases hv : v = (k : Int)
        · subst hv
          rw [Int.toNat_natCast, hb] at h2
          cases h2
        · omega
    · rw [if_pos rfl, List.mem_append, ih, List.mem_singleton]
      constructor
      · rintro (⟨h0, h1, h2⟩ | rfl)
        · exact ⟨h0, by omega, h2⟩
        · exact ⟨by omega, by omega, by rw [Int.toNat_natCast]; exact hb⟩
      · rintro ⟨h0, h1, h2⟩
        by_cases hv : v = (k : Int)
        · exact .inr hv
        · exact .inl ⟨h0, by omega, h2⟩

/-- How many committees a slot has. -/
def cnt (n : Nat) : Nat := if n / 8 < 1 then 1 else if 2 < n / 8 then 2 else n / 8

/-- Where a piece begins. -/
def cut (n k : Nat) : Nat := n * k / (4 * cnt n)

/-- Who stands at a place of the shuffled list. -/
def mbr (L : List Int) (s : Nat → Int) (j : Nat) : Int := L.getD (plV s L.length 6 j).toNat 0

theorem getD_mem (L : List Int) (i : Nat) (h : i < L.length) : L.getD i 0 ∈ L := by
  rw [List.getD_eq_getElem?_getD, List.getElem?_eq_getElem h]
  exact List.getElem_mem h

theorem mbr_mem (L : List Int) (s : Nat → Int) {j : Nat} (h : j < L.length) : mbr L s j ∈ L := by
  have := plV_bd s (n := L.length) (i := j) (by omega) (by omega) 6
  exact getD_mem L _ (by omega)

end Go.Proofs.YtpabbglbaimadaaDoor
