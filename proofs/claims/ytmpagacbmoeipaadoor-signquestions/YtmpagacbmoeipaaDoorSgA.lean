/-
  Domains, messages and questions, as plain numbers.
-/

import Derived.Test.YtmpagacbmoeipaaDoorPkG
namespace Go.Proofs.YtmpagacbmoeipaaDoor

open Go.RowKit

set_option linter.unusedVariables false

set_option linter.unusedSimpArgs false

/-- The lowest 32 bits of a kind, as bytes; a domain; a state's domain; that of deposits. -/
def kdB (k : Int) (j : Nat) : Int := nmB (k % 4294967296) j

def dmV (k : Int) (v r : Nat → Int) (j : Nat) : Int := if j < 4 then kdB k j else tw (pk v 4) r (j - 4)

def domV (x : VState) (k e : Int) : Nat → Int := dmV k (if e < x.f3.f2 then x.f3.f0 else x.f3.f1) x.f1

def depV : Nat → Int := dmV 3 (fun _ => 0) (fun _ => 0)

theorem kdB_64 (k : Int) (j : Nat) (hj : j < 4) : nmB (k % 18446744073709551616) j = kdB k j := by
  unfold kdB nmB
  match j, hj with
  | 0, _ => simp only [Nat.mul_zero, Int.pow_zero]; omega
  | 1, _ => show k % 18446744073709551616 / 256 % 256 = k % 4294967296 / 256 % 256; omega
  | 2, _ => show k % 18446744073709551616 / 65536 % 256 = k % 4294967296 / 65536 % 256; omega
  | 3, _ => show k % 18446744073709551616 / 16777216 % 256 = k % 4294967296 / 16777216 % 256; omega

theorem pk_in {m : Nat → Int} {len : Nat} (h : ∀ j, j < len → 0 ≤ m j ∧ m j < 256) (q : Nat) : 0 ≤ pk m len q ∧ pk m len q < 256 := by
  unfold pk
  split
  · exact h q ‹_›
  · omega

theorem rtsCap {w : World} {a : Option Addr} {len cap : Nat} {f : Nat → Int} (h : Rts w a len cap f) (hl : 1 ≤ len) : len ≤ cap := by
  rcases h with ⟨_, h, _⟩ | ⟨_, _, h⟩ | ⟨_, _, _, h, _⟩
  · omega
  · omega
  · exact h

theorem blCongr {m m' : Nat → Int} {n : Nat} (h : ∀ j, j < n → m j = m' j) : bl m n = bl m' n := by
  unfold bl
  exact List.map_congr_left fun j hj => by rw [h j (List.mem_range.1 hj)]

/-- A deposit's message. -/
def msF (d : VDepositData) : Nat → Int := fl7 [treeV (pk d.f0 48) 2 2, d.f1, pk (nmB d.f2) 8]

def msV (d : VDepositData) : Nat → Int := treeV (msF d) 3 3

theorem rt32_0 (f : Nat → Int) : rt32 f 0 = f := funext fun j => by unfold rt32; rw [Nat.mul_zero, Nat.zero_add]

theorem msF_bd {d : VDepositData} (h1 : ∀ j, j < 32 → 0 ≤ d.f1 j ∧ d.f1 j < 256) (ht : ∀ j, j < 32 → 0 ≤ treeV (pk d.f0 48) 2 2 j ∧ treeV (pk d.f0 48) 2 2 j < 256) : ByB (msF d) 96 := fl7_bd (fun c hc j hj => by
  rcases List.mem_cons.1 hc with rfl | hc
  · exact ht j hj
  rcases List.mem_cons.1 hc with rfl | hc
  · exact h1 j hj
  rw [List.mem_singleton] at hc
  rw [hc]
  exact pk_in (fun j _ => by unfold nmB; omega) j) 96

/-- A question's bytes, and its sum. -/
def qsF (f : Nat → Int) (n : Nat) (r s : Nat → Int) (j : Nat) : Int := if j < 48 * n then f j else if j < 48 * n + 32 then r (j - 48 * n) else s (j - (48 * n + 32))

def qsV (f : Nat → Int) (n : Nat) (r s : Nat → Int) : Nat → Int := shaV KW HW (qsF f n r s) (48 * n + 128)

theorem qsF_bd {f r s : Nat → Int} {n : Nat} (hf : ∀ j, j < 48 * n → 0 ≤ f j ∧ f j < 256) (hr : ∀ j, j < 32 → 0 ≤ r j ∧ r j < 256) (hs : ∀ j, j < 96 → 0 ≤ s j ∧ s j < 256) : ∀ j, j < 48 * n + 128 → 0 ≤ qsF f n r s j ∧ qsF f n r s j < 256 := fun j hj => by
  unfold qsF
  split
  · exact hf j ‹_›
  · split
    · exact hr _ (by omega)
    · exact hs _ (by omega)

/-- Is a root none of a row's? -/
def gdB (q f : Nat → Int) (n : Nat) : Bool := !(List.range n).any fun i => eqR (rt32 f i) q

theorem gdB_zero (q f : Nat → Int) : gdB q f 0 = true := rfl

theorem gdB_succ (q f : Nat → Int) (n : Nat) : gdB q f (n + 1) = (gdB q f n && !eqR (rt32 f n) q) := by
  unfold gdB
  rw [List.range_succ, List.any_append, Bool.not_or]
  simp

theorem gdB_true {q f : Nat → Int} {n : Nat} : gdB q f n = true ↔ ∀ i, i < n → eqR (rt32 f i) q = false := by
  unfold gdB
  simp

end Go.Proofs.YtmpagacbmoeipaaDoor
