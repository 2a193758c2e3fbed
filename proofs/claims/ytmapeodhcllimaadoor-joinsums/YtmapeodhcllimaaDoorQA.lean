/-
  What inOrder, bytes.Clone and piece answer.
  What looseParts answers.
  What containerParts answers.
  What ssz.Cut answers where it cuts.
  What the reference's sizesOK and Head answer.
  What the reference's offset answers.
  What word.Bytes, ssz.appendOffset and ssz.totalLength answer.
  Lists of bytes; what the reference's Same and ssz.totalLength answer.
  A container's bytes, cut again.
  What the reference's Lay answers.
  What SszLays answers.
  What was cut, laid again, is the bytes; ssz.Cut whole.
  A container's bytes, cut again: the parts themselves.
  What the reference's rises answers.
  Strings told apart; which bytes have which parts.
  What the reference's Cut answers.
  Bits and bytes: what Vector, List, ReadVector and the reference answer (of the texts of layer 4, what others stand on).
-/
import Derived.Test.YtmapeodhcllimaaDoorZaA
import Derived.Test.YtmapeodhcllimaaDoorShelf
import Derived.Laws.Cover3
import Derived.ScopeJumps
namespace Go.Proofs.YtmapeodhcllimaaDoor.Z

open Go.RowKit

set_option linter.unusedVariables false

set_option linter.unusedSimpArgs false

/-- None below the one ahead of it, none above L. -/
def ordAt (os : Nat → Int) (L : Int) (i : Nat) : Prop := (if i = 0 then 0 else os (i - 1)) ≤ os i ∧ os i ≤ L

instance (os : Nat → Int) (L : Int) (i : Nat) : Decidable (ordAt os L i) := by unfold ordAt; infer_instance

def sm22 (x : Value) (lo hi mx : Option Value) : Sem Value := Instr.sliceAt 39 x lo hi mx

theorem sm22_eq (x : Value) (lo hi mx : Value) : Instr.sliceAt 39 x (some lo) (some hi) (some mx) = sm22 x (some lo) (some hi) (some mx) := rfl

attribute [local go_sem ↓] sm22_eq

end Go.Proofs.YtmapeodhcllimaaDoor.Z

namespace Go.Proofs.YtmapeodhcllimaaDoor.Z

open Go.RowKit

set_option linter.unusedVariables false

set_option linter.unusedSimpArgs false

end Go.Proofs.YtmapeodhcllimaaDoor.Z

namespace Go.Proofs.YtmapeodhcllimaaDoor.Z

open Go.RowKit

set_option linter.unusedVariables false

set_option linter.unusedSimpArgs false

end Go.Proofs.YtmapeodhcllimaaDoor.Z

namespace Go.Proofs.YtmapeodhcllimaaDoor.Z

open Go.RowKit

set_option linter.unusedVariables false

set_option linter.unusedSimpArgs false

end Go.Proofs.YtmapeodhcllimaaDoor.Z

namespace Go.Proofs.YtmapeodhcllimaaDoor.Z

open Go.RowKit

set_option linter.unusedVariables false

set_option linter.unusedSimpArgs false

end Go.Proofs.YtmapeodhcllimaaDoor.Z

namespace Go.Proofs.YtmapeodhcllimaaDoor.Z

open Go.RowKit

set_option linter.unusedVariables false

set_option linter.unusedSimpArgs false

end Go.Proofs.YtmapeodhcllimaaDoor.Z

namespace Go.Proofs.YtmapeodhcllimaaDoor.Z

open Go.RowKit

set_option linter.unusedVariables false

set_option linter.unusedSimpArgs false

/-- The byte at place i, the lowest first. -/
def bt (n : Int) : Nat → Int
  | 0 => n % 256
  | 1 => n / 256 % 256
  | 2 => n / 65536 % 256
  | 3 => n / 16777216 % 256
  | 4 => n / 4294967296 % 256
  | 5 => n / 1099511627776 % 256
  | 6 => n / 281474976710656 % 256
  | _ => n / 72057594037927936 % 256

set_option maxHeartbeats 1000000 in
theorem bytes_any (n : Int) (w : World) (h0 : 0 ≤ n) (h1 : n < 18446744073709551616) :
    Calls Tryd.prog 85 #[.int .u64 n] w fun e w' => e = .returned (.agg #[.int .u8 (bt n 0), .int .u8 (bt n 1), .int .u8 (bt n 2), .int .u8 (bt n 3), .int .u8 (bt n 4), .int .u8 (bt n 5), .int .u8 (bt n 6), .int .u8 (bt n 7)]) ∧ Below w.heap.size w w' := by
  show Calls Tryd.prog 85 #[.int .u64 n] w fun e w' => e = .returned (.agg #[.int .u8 (n % 256), .int .u8 (n / 256 % 256), .int .u8 (n / 65536 % 256), .int .u8 (n / 16777216 % 256), .int .u8 (n / 4294967296 % 256), .int .u8 (n / 1099511627776 % 256), .int .u8 (n / 281474976710656 % 256), .int .u8 (n / 72057594037927936 % 256)]) ∧ Below w.heap.size w w'
  go_enter Tryd.func85, Tryd.ntmps85
  go_wp2
  go_rounds 9
  go_returns
  have e7 : n / 72057594037927936 % 256 = n / 72057594037927936 := by omega
  rw [e7]
  refine ⟨rfl, ?_⟩
  go_grown

end Go.Proofs.YtmapeodhcllimaaDoor.Z

namespace Go.Proofs.YtmapeodhcllimaaDoor.Z

open Go.RowKit

set_option linter.unusedVariables false

set_option linter.unusedSimpArgs false

end Go.Proofs.YtmapeodhcllimaaDoor.Z

namespace Go.Proofs.YtmapeodhcllimaaDoor.Z

open Go.RowKit

set_option linter.unusedVariables false

set_option linter.unusedSimpArgs false

end Go.Proofs.YtmapeodhcllimaaDoor.Z

namespace Go.Proofs.YtmapeodhcllimaaDoor.Z

open Go.RowKit

set_option linter.unusedVariables false

set_option linter.unusedSimpArgs false

/-- Two rows of the call's own, apart. -/
def Two (w : World) (B : Nat) (v : Value) (n : Nat) (xs : List Value) (u : Value) (m : Nat) (ys : List Value) : Prop :=
  w.ownsRow B 5 1 v n xs ∧ w.ownsRow B 5 1 u m ys ∧ ∀ k, v.ownBlock = some k → u.ownBlock ≠ some k

theorem Two.below {w w' : World} {B : Nat} {v : Value} {n : Nat} {xs : List Value} {u : Value} {m : Nat} {ys : List Value} (h : Two w B v n xs u m ys) (hb : Below w.heap.size w w') : Two w' B v n xs u m ys :=
  ⟨owns_below h.1 hb, owns_below h.2.1 hb, h.2.2⟩

theorem Two.step {w w' : World} {B : Nat} {v v' : Value} {n n' : Nat} {xs xs' : List Value} {u : Value} {m : Nat} {ys : List Value} (h : Two w B v n xs u m ys) (ho : w'.ownsRow B 5 1 v' n' xs') (hg : w.grownBy w' v.ownBlock) (hl : v'.ownBlock = v.ownBlock ∨ v'.ownBlock = some w.heap.size) : Two w' B v' n' xs' u m ys := by
  obtain ⟨h1, h2, h3⟩ := h
  refine ⟨ho, ?_, fun k hk hu => ?_⟩
  · refine ⟨h2.1, ?_⟩
    rcases h2.2 with h4 | ⟨g, cap, cur, h4, h5, h6, h7⟩
    · exact .inl h4
    · refine .inr ⟨g, cap, cur, h4, h5, ?_, h7⟩
      rw [← h6]
      refine hg.block g (Array.getElem?_eq_some_iff.1 h6).1 fun e => ?_
      exact h3 g e.symm (by rw [h4]; rfl)
  · rcases hl with hl | hl
    · exact h3 k (hl ▸ hk) hu
    · have := (h2.lt k hu).2
      rw [hl] at hk
      cases hk
      omega

end Go.Proofs.YtmapeodhcllimaaDoor.Z

namespace Go.Proofs.YtmapeodhcllimaaDoor.Z

open Go.RowKit

set_option linter.unusedVariables false

set_option linter.unusedSimpArgs false

end Go.Proofs.YtmapeodhcllimaaDoor.Z

namespace Go.Proofs.YtmapeodhcllimaaDoor.Z

open Go.RowKit

set_option linter.unusedVariables false

set_option linter.unusedSimpArgs false

end Go.Proofs.YtmapeodhcllimaaDoor.Z

namespace Go.Proofs.YtmapeodhcllimaaDoor.Z

open Go.RowKit

set_option linter.unusedVariables false

set_option linter.unusedSimpArgs false

end Go.Proofs.YtmapeodhcllimaaDoor.Z

namespace Go.Proofs.YtmapeodhcllimaaDoor.Z

open Go.RowKit

set_option linter.unusedVariables false

set_option linter.unusedSimpArgs false

/-- Do the offsets rise, from the first on, none above n? -/
def risAt (os : Nat → Int) (first n : Int) (i : Nat) : Prop := (if i = 0 then os 0 = first else os (i - 1) ≤ os i) ∧ os i ≤ n

instance (os : Nat → Int) (first n : Int) (i : Nat) : Decidable (risAt os first n i) := by unfold risAt; infer_instance

end Go.Proofs.YtmapeodhcllimaaDoor.Z

namespace Go.Proofs.YtmapeodhcllimaaDoor.Z

open Go.RowKit

set_option linter.unusedVariables false

set_option linter.unusedSimpArgs false

end Go.Proofs.YtmapeodhcllimaaDoor.Z

namespace Go.Proofs.YtmapeodhcllimaaDoor.Z

open Go.RowKit

set_option linter.unusedVariables false

set_option linter.unusedSimpArgs false

theorem own_bys {w : World} {B : Nat} {a : Option Addr} {n C : Nat} {m : Nat → Int} (h : w.ownsRow B 5 1 (.slice a n C) n (bl m n)) : Bys w a n C m := by
  rcases h.2 with ⟨h1, h0⟩ | ⟨g, cap, cur, h1, _⟩
  · cases h1
    exact .inl ⟨rfl, rfl, rfl⟩
  · cases h1
    obtain ⟨h2, h3, h4, h5, h6⟩ := own_cells h
    exact .inr (.inr ⟨g, 0, rfl, h4, h5, h3, fun j hj => by rw [Nat.zero_add]; exact h6 j hj⟩)

theorem owns_form {w : World} {B : Nat} {e : TypeId} {v : Value} {n : Nat} {xs : List Value} (h : w.ownsRow B e 1 v n xs) : ∃ a c, v = .slice a n c := by
  rcases h.2 with ⟨h1, h0⟩ | ⟨g, cap, cur, h1, _⟩
  · subst h0
    exact ⟨_, _, h1⟩
  · exact ⟨_, _, h1⟩

attribute [local go_sem ↓] sl22_eq

end Go.Proofs.YtmapeodhcllimaaDoor.Z

namespace Go.Proofs.YtmapeodhcllimaaDoor.Z

open Go.RowKit

set_option linter.unusedVariables false

set_option linter.unusedSimpArgs false

/-- The number whose lowest n bits are g's. -/
def bo (g : Nat → Bool) : Nat → Nat
  | 0 => 0
  | k + 1 => bo g k + (if g k = true then 2 ^ k else 0)

theorem bo_lt (g : Nat → Bool) (k : Nat) : bo g k < 2 ^ k := by
  induction k with
  | zero => simp [bo]
  | succ k ih =>
    unfold bo
    rw [Nat.pow_succ]
    split <;> omega

theorem bo_bit (g : Nat → Bool) (n k : Nat) : (bo g n).testBit k = (decide (k < n) && g k) := by
  induction n with
  | zero => simp [bo]
  | succ n ih =>
    have hl := bo_lt g n
    unfold bo
    by_cases hg : g n = true
    · rw [if_pos hg, Nat.add_comm]
      by_cases h : k < n
      · rw [Nat.testBit_two_pow_add_gt h, ih]
        simp [h, Nat.lt_succ_of_lt h]
      · by_cases e : k = n
        · subst e
          rw [Nat.testBit_two_pow_add_eq, Nat.testBit_lt_two_pow hl]
          simp [hg]
        · rw [Nat.testBit_lt_two_pow]
          · simp [show ¬ k < n + 1 by omega]
          · have : 2 ^ (n + 1) ≤ 2 ^ k := Nat.pow_le_pow_right (by omega) (by omega)
            rw [Nat.pow_succ] at this
            omega
    · rw [if_neg hg, Nat.add_zero, ih]
      by_cases e : k = n
      · subst e
        simp at hg
        simp [hg]
      · have : k < n + 1 ↔ k < n := by omega
        simp [this]

/-- The byte q of the bytes of the first n bits of f. -/
def byt (f : Nat → Bool) (n q : Nat) : Nat := bo (fun k => decide (8 * q + k < n) && f (8 * q + k)) 8

theorem byt_bit (f : Nat → Bool) (n q k : Nat) : (byt f n q).testBit k = (decide (k < 8) && (decide (8 * q + k < n) && f (8 * q + k))) := bo_bit _ 8 k

theorem byt_zero (f : Nat → Bool) (q : Nat) : byt f 0 q = 0 := by
  apply Nat.eq_of_testBit_eq
  intro k
  rw [byt_bit]
  simp

end Go.Proofs.YtmapeodhcllimaaDoor.Z

namespace Go.Proofs.YtmapeodhcllimaaDoor.Z

open Go.RowKit

set_option linter.unusedVariables false

set_option linter.unusedSimpArgs false

end Go.Proofs.YtmapeodhcllimaaDoor.Z

namespace Go.Proofs.YtmapeodhcllimaaDoor.Z

open Go.RowKit

set_option linter.unusedVariables false

set_option linter.unusedSimpArgs false

theorem bys_at {w : World} {a : Option Addr} {len cap : Nat} {m : Nat → Int} (h : Bys w a len cap m) (j : Nat) (hj : j < len) : ∃ b off, a = some ⟨b, off, none⟩ ∧ b < w.heap.size ∧ w.cell? ⟨b, off + j, none⟩ = some (.int .u8 (m j)) := by
  rcases h with ⟨_, h, _⟩ | ⟨_, _, h⟩ | ⟨b, off, h1, h2, h3, h4, h5⟩
  · omega
  · omega
  · exact ⟨b, off, h1, h4, h5 j hj⟩

end Go.Proofs.YtmapeodhcllimaaDoor.Z

namespace Go.Proofs.YtmapeodhcllimaaDoor.Z

open Go.RowKit

set_option linter.unusedVariables false

set_option linter.unusedSimpArgs false

theorem vs0 (f : Nat → Bool) (N : Nat) : vs .u8 N (fun _ => 0) = vs .u8 N (fun q => (byt f 0 q : Int)) := vs_congr fun q _ => by rw [byt_zero]; rfl

end Go.Proofs.YtmapeodhcllimaaDoor.Z

namespace Go.Proofs.YtmapeodhcllimaaDoor.Z

open Go.RowKit

set_option linter.unusedVariables false

set_option linter.unusedSimpArgs false

end Go.Proofs.YtmapeodhcllimaaDoor.Z

namespace Go.Proofs.YtmapeodhcllimaaDoor.Z

open Go.RowKit

set_option linter.unusedVariables false

set_option linter.unusedSimpArgs false

end Go.Proofs.YtmapeodhcllimaaDoor.Z

namespace Go.Proofs.YtmapeodhcllimaaDoor.Z

open Go.RowKit

set_option linter.unusedVariables false

set_option linter.unusedSimpArgs false

end Go.Proofs.YtmapeodhcllimaaDoor.Z

namespace Go.Proofs.YtmapeodhcllimaaDoor.Z

open Go.RowKit

set_option linter.unusedVariables false

set_option linter.unusedSimpArgs false



end Go.Proofs.YtmapeodhcllimaaDoor.Z
