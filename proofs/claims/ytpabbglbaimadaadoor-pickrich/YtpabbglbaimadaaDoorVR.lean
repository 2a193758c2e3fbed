/-
  What List answers.
  Numbers appended; List whole; the document's List and Same.
-/
import Derived.Test.YtpabbglbaimadaaDoorVQ
import Derived.Test.YtpabbglbaimadaaDoorLQ
import Derived.Test.YtpabbglbaimadaaDoorVfF
namespace Go.Proofs.YtpabbglbaimadaaDoor

open Go.RowKit

set_option linter.unusedVariables false

set_option linter.unusedSimpArgs false

/-- The elements of a slice of numbers, whatever it is. -/
def N64 (w : World) (a : Option Addr) (n : Nat) (f : Nat → Int) : Prop :=
  n = 0 ∨ ∃ b off, a = some ⟨b, off, none⟩ ∧ b < w.heap.size ∧ ∀ j, j < n → w.cell? ⟨b, off + j, none⟩ = some (.int .u64 (f j))

theorem N64.below {w w' : World} {a : Option Addr} {n : Nat} {f : Nat → Int} (h : N64 w a n f) (hb : Below w.heap.size w w') : N64 w' a n f := by
  rcases h with h | ⟨b, off, h1, h2, h3⟩
  · exact .inl h
  · exact .inr ⟨b, off, h1, Nat.lt_of_lt_of_le h2 hb.size, fun j hj => (below_cell hb h2).trans (h3 j hj)⟩

attribute [local go_sem ↓] sv24_eq lv24_eq sv8_eq

end Go.Proofs.YtpabbglbaimadaaDoor

namespace Go.Proofs.YtpabbglbaimadaaDoor

open Go.RowKit

set_option linter.unusedVariables false

set_option linter.unusedSimpArgs false

theorem N64.congr {w : World} {a : Option Addr} {n : Nat} {f g : Nat → Int} (h : N64 w a n f) (hf : ∀ j, j < n → f j = g j) : N64 w a n g := by
  rcases h with h | ⟨b, off, h1, h2, h3⟩
  · exact .inl h
  · exact .inr ⟨b, off, h1, h2, fun j hj => by rw [h3 j hj, hf j hj]⟩

attribute [local go_sem ↓] sv24_eq lv24_eq sv8_eq bd27_eq

set_option maxRecDepth 20000 in
set_option maxHeartbeats 1000000 in
theorem same_true (a b : Option Addr) (n c d : Nat) (f : Nat → Int) (w : World) (h1 : N64 w a n f) (h2 : N64 w b n f) (hn : n ≤ 9223372036854775807) :
    Calls Tryd.prog 16 #[.slice a n c, .slice b n d] w fun e w' => e = .returned (.bool true) ∧ Below w.heap.size w w' := by
  have H1 := hid h1
  have H2 := hid h2
  clear h1 h2
  go_enter Tryd.func16, Tryd.ntmps16
  go_wp2
  go_loopw [5] (fun c wr => ∃ k : Nat, k ≤ n ∧ c = .int .i64 k ∧ Below w.heap.size w wr) (fun c _ => n - (intOf c).toNat)
  case atStart => exact ⟨0, by omega, rfl, Below.refl _ _⟩
  case round =>
    obtain ⟨k, hk, rfl, hw⟩ := hrel
    by_cases hkn : k < n
    · rcases H1.out.below hw with h0 | ⟨b1, o1, ea, hb1, hc1⟩
      · omega
      rcases H2.out.below hw with h0 | ⟨b2, o2, eb, hb2, hc2⟩
      · omega
      subst ea
      subst eb
      have k1 : (k : Int) < (n : Int) := by omega
      have k2 : (0 : Int) ≤ (k : Int) := by omega
      have c1 := hc1 k hkn
      have c2 := hc2 k hkn
      have HW := hid hw
      clear hw hb1 hb2 hc1 hc2
      go_wp2
      go_quiet (fail)
      go_wp2
      go_roundw
      case rel => exact ⟨k + 1, by omega, by go_num, below_drewN HW.out _⟩
      case measure => simp [intOf]; omega
    · have HW := hid hw
      clear hw
      go_wp2
      go_ret
      exact ⟨rfl, HW.out⟩

end Go.Proofs.YtpabbglbaimadaaDoor
