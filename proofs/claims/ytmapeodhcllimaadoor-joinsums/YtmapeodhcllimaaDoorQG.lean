/-
  Shuffled places: plain numbers. A round takes two places of a pair to each other or leaves both, so it undoes itself.
  What the small functions of package shuf answer: flipOf, isPlace, isSet, pivotOf, sourceOf, afterRound.
  What Place and Back answer.
  Committees as plain numbers: how many, where they are cut, who stands in them.
  What swapPairs and List answer.
  What the reference's Count and Of answer.
  Drawing by lot, as plain numbers.
  Keys in a row, and what the reference's Sum answers.
  Domains, messages and questions, as plain numbers.
-/
import Derived.Test.YtmapeodhcllimaaDoorRows
import Derived.Test.YtmapeodhcllimaaDoorQC
import Derived.Test.YtmapeodhcllimaaDoorQN
import Derived.Test.YtmapeodhcllimaaDoorQH
import Derived.WalkKit

import Derived.ArgAppend

import Derived.Laws.BitsAllLaws

import Derived.Deep.WholeRow

import Derived.Deep.RegionHeld3

import Derived.BigRegion

import Derived.ScopeJumps

import Derived.Laws.MakeOwn

import Derived.Laws.CopyRow

namespace Go.Proofs.YtmapeodhcllimaaDoor

set_option linter.unusedVariables false

/-- The other one of a place's pair. -/
def fl (i n p : Int) : Int := (p + n - i) % n

/-- The greater one. -/
def mx (a b : Int) : Int := if a < b then b else a

/-- A place behind a round whose bits are B's, and whose pivot is p. -/
def rdX (B : Int → Bool) (p n i : Int) : Int := if B (mx i (fl i n p)) = true then fl i n p else i

end Go.Proofs.YtmapeodhcllimaaDoor

namespace Go.Proofs.YtmapeodhcllimaaDoor

open Go.RowKit

set_option linter.unusedVariables false

set_option linter.unusedSimpArgs false

/-- The seed and the round; the four bytes behind them. -/
def sd1 (s : Nat → Int) (r : Int) (j : Nat) : Int := if j < 32 then s j else r

def sd2 (s : Nat → Int) (r q : Int) (j : Nat) : Int := if j < 33 then sd1 s r j else bt q (j - 33)

/-- A round's pivot. -/
def pvN (s : Nat → Int) (r : Int) : Int := num8 (shaV KW HW (sd1 s r) 33 0) (shaV KW HW (sd1 s r) 33 1) (shaV KW HW (sd1 s r) 33 2) (shaV KW HW (sd1 s r) 33 3) (shaV KW HW (sd1 s r) 33 4) (shaV KW HW (sd1 s r) 33 5) (shaV KW HW (sd1 s r) 33 6) (shaV KW HW (sd1 s r) 33 7)

def pv (s : Nat → Int) (r n : Int) : Int := pvN s r % n

/-- The source of a place's bits. -/
def srcV (s : Nat → Int) (r q : Int) : Nat → Int := shaV KW HW (sd2 s r q) 37

/-- A source's bit for a place. -/
def bitB (f : Nat → Int) (p : Int) : Bool := decide (f (p % 256 / 8).toNat / 2 ^ (p % 8).toNat % 2 = 1)

def rdB (s : Nat → Int) (r : Int) (p : Int) : Bool := bitB (srcV s r (p / 256)) p

/-- A place behind a round. -/
def rdV (s : Nat → Int) (r n i : Int) : Int := rdX (rdB s r) (pv s r n) n i

attribute [local go_sem ↓] sv24_eq lv24_eq sv8_eq

end Go.Proofs.YtmapeodhcllimaaDoor

namespace Go.Proofs.YtmapeodhcllimaaDoor

open Go.RowKit

set_option linter.unusedVariables false

set_option linter.unusedSimpArgs false

/-- A place behind the first k rounds, and behind k rounds the other way round. -/
def plV (s : Nat → Int) (n : Int) : Nat → Int → Int
  | 0, i => i
  | k + 1, i => rdV s (k : Int) n (plV s n k i)

attribute [local go_sem ↓] sv24_eq lv24_eq sv8_eq

end Go.Proofs.YtmapeodhcllimaaDoor

namespace Go.Proofs.YtmapeodhcllimaaDoor

open Go.RowKit

set_option linter.unusedVariables false

set_option linter.unusedSimpArgs false

/-- How many committees a slot has. -/
def cnt (n : Nat) : Nat := if n / 8 < 1 then 1 else if 2 < n / 8 then 2 else n / 8

/-- Where a piece begins. -/
def cut (n k : Nat) : Nat := n * k / (4 * cnt n)

/-- Who stands at a place of the shuffled list. -/
def mbr (L : List Int) (s : Nat → Int) (j : Nat) : Int := L.getD (plV s L.length 6 j).toNat 0

end Go.Proofs.YtmapeodhcllimaaDoor

namespace Go.Proofs.YtmapeodhcllimaaDoor

open Go.RowKit

set_option linter.unusedVariables false

set_option linter.unusedSimpArgs false

theorem Kept.thenBelow {g : Nat} {a b c : World} (h : Kept g a b) (hb : Below b.heap.size b c) : Kept g a c := h.trans (Kept.ofBelow hb)

attribute [local go_sem ↓] sv24_eq lv24_eq sv8_eq

end Go.Proofs.YtmapeodhcllimaaDoor

namespace Go.Proofs.YtmapeodhcllimaaDoor

open Go.RowKit

set_option linter.unusedVariables false

set_option linter.unusedSimpArgs false

set_option maxRecDepth 20000

attribute [local go_sem ↓] lvState_eq svState_eq bdState_eq lvValidator_eq svValidator_eq ixValidator_eq sv24_eq lv24_eq

/-- The actives of an epoch. -/
def acE (x : VState) (e : Int) : List Int := acL x.f11.z e x.f11.n

end Go.Proofs.YtmapeodhcllimaaDoor

namespace Go.Proofs.YtmapeodhcllimaaDoor

open Go.RowKit

set_option linter.unusedVariables false

set_option linter.unusedSimpArgs false

/-- The bytes that a lot is made of, the lot of a try, its candidate, whether it is taken, those that were taken so far. -/
def sd8 (s : Nat → Int) (q : Int) (j : Nat) : Int := if j < 32 then s j else nmB q (j - 32)

def lotV (s : Nat → Int) (i : Nat) : Int := shaV KW HW (sd8 s ((i / 32 : Nat) : Int)) 40 (i % 32)

def cdV (L : List Int) (s : Nat → Int) (i : Nat) : Int := mbr L s (i % L.length)

def tkB (z : Nat → VValidator) (L : List Int) (s : Nat → Int) (i : Nat) : Bool := decide (32000000000 * lotV s i ≤ (z (cdV L s i).toNat).f2 * 255)

def drL (z : Nat → VValidator) (L : List Int) (s : Nat → Int) : Nat → List Int
  | 0 => []
  | i + 1 => if tkB z L s i = true then drL z L s i ++ [cdV L s i] else drL z L s i

/-- What a draw answers. -/
def dwO (z : Nat → VValidator) (L : List Int) (s : Nat → Int) (want : Nat) : Bool := decide (L ≠ []) && decide (want ≤ (drL z L s 256).length)

def dwL (z : Nat → VValidator) (L : List Int) (s : Nat → Int) (want : Nat) : List Int := if dwO z L s want = true then (drL z L s 256).take want else []

def dwE (z : Nat → VValidator) (L : List Int) (s : Nat → Int) (want : Nat) : Int := if dwO z L s want = true then 0 else 7

end Go.Proofs.YtmapeodhcllimaaDoor

namespace Go.Proofs.YtmapeodhcllimaaDoor

open Go.RowKit

set_option linter.unusedVariables false

set_option linter.unusedSimpArgs false

set_option maxRecDepth 20000

/-- The keys of a slice, their bytes one behind the other. -/
def Kys (w : World) (a : Option Addr) (len cap : Nat) (f : Nat → Int) : Prop :=
  (a = none ∧ len = 0 ∧ cap = 0) ∨ (∃ x, a = some x ∧ len = 0) ∨ ∃ b off, a = some ⟨b, off, none⟩ ∧ len ≤ cap ∧ b < w.heap.size ∧ ∀ j, j < 48 * len → w.cell? ⟨b, off + j, none⟩ = some (.int .u8 (f j))

theorem Kys.below {w w' : World} {a : Option Addr} {len cap : Nat} {f : Nat → Int} (h : Kys w a len cap f) (hb : Below w.heap.size w w') : Kys w' a len cap f := by
  rcases h with h | h | ⟨b, off, h1, h2, h3, h4⟩
  · exact .inl h
  · exact .inr (.inl h)
  · exact .inr (.inr ⟨b, off, h1, h2, Nat.lt_of_lt_of_le h3 hb.size, fun j hj => (below_cell hb h3).trans (h4 j hj)⟩)

/-- The place of a key in a slice. -/
def ixKy (x i : Value) : Sem Value := Instr.indexAt 113 x i

theorem ixKy_eq (x i : Value) : Instr.indexAt 113 x i = ixKy x i := rfl

theorem sizeKy (w : World) : (sizeOf 44).run Tryd.prog w = .ok 48 w := by
  have hi : (Tryd.prog.info? 44).map (·.size) = some 48 := by kernel_rfl
  cases hq : Tryd.prog.info? 44 with
  | none => simp [hq] at hi
  | some i => simp [hq] at hi; simp [sizeOf, typeInfo, hq, hi]

theorem ixKy_run (w : World) (b off len cap i : Nat) (h : i < len) : (ixKy (.slice (some ⟨b, off, none⟩) len cap) (.int .i64 i)).run Tryd.prog w = .ok (.pointer (some ⟨b, off + 48 * i, none⟩)) w := by
  unfold ixKy Instr.indexAt
  have h1 : (0 : Int) ≤ (i : Int) ∧ (i : Int) < (len : Int) := by omega
  simp only [asIntOf, Sem.run_bind, Sem.run_pure, Result.andThen_ok, run_underlying Tryd.underlying113, if_pos h1, sizeKy, Addr.add_mid, Int.toNat_natCast]
  rw [Nat.mul_comm]

def lvKy (a : Addr) : Sem Value := loadVar 44 a

theorem lvKy_eq (a : Addr) : loadVar 44 a = lvKy a := rfl

theorem lvKy_run {w : World} {b : Nat} {c : Nat → Int} {t : TypeId} (h : w.heap[b]? = some (.cells (vs .u8 48 c) t)) : (lvKy ⟨b, 0, none⟩).run Tryd.prog w = .ok (.agg (vs .u8 48 c)) w :=
  loadAt_var (load_row h 44 _ Tryd.underlying44 rfl (by rw [vs_size]; kernel_rfl))

attribute [local go_sem ↓] ixKy_eq lvKy_eq svKy_eq sv24_eq lv24_eq

end Go.Proofs.YtmapeodhcllimaaDoor

namespace Go.Proofs.YtmapeodhcllimaaDoor

open Go.RowKit

set_option linter.unusedVariables false

set_option linter.unusedSimpArgs false

/-- The lowest 32 bits of a kind, as bytes; a domain; a state's domain; that of deposits. -/
def kdB (k : Int) (j : Nat) : Int := nmB (k % 4294967296) j

def dmV (k : Int) (v r : Nat → Int) (j : Nat) : Int := if j < 4 then kdB k j else tw (pk v 4) r (j - 4)

def domV (x : VState) (k e : Int) : Nat → Int := dmV k (if e < x.f3.f2 then x.f3.f0 else x.f3.f1) x.f1

def depV : Nat → Int := dmV 3 (fun _ => 0) (fun _ => 0)

theorem kdB_bd (k : Int) (j : Nat) : 0 ≤ kdB k j ∧ kdB k j < 256 := by unfold kdB nmB; omega

theorem dmV_bd (k : Int) (v r : Nat → Int) (j : Nat) : 0 ≤ dmV k v r j ∧ dmV k v r j < 256 := by
  unfold dmV
  split
  · exact kdB_bd k j
  · exact tw_bd ..

theorem kdB_64 (k : Int) (j : Nat) (hj : j < 4) : nmB (k % 18446744073709551616) j = kdB k j := by
  unfold kdB nmB
  match j, hj with
  | 0, _ => simp only [Nat.mul_zero, Int.pow_zero]; omega
  | 1, _ => show k % 18446744073709551616 / 256 % 256 = k % 4294967296 / 256 % 256; omega
  | 2, _ => show k % 18446744073709551616 / 65536 % 256 = k % 4294967296 / 65536 % 256; omega
  | 3, _ => show k % 18446744073709551616 / 16777216 % 256 = k % 4294967296 / 16777216 % 256; omega

theorem pk_in {m : Nat → Int} {len : Nat} (h : ∀ j, j < len → 0 ≤ m j ∧ m j < 256) (q : Nat) : 0 ≤ pk m len q ∧ pk m len q < 256 := by
  unfold pk
  split
  · exact h q ‹_›
  · omega

/-- A deposit's message. -/
def msF (d : VDepositData) : Nat → Int := fl7 [treeV (pk d.f0 48) 2 2, d.f1, pk (nmB d.f2) 8]

def msV (d : VDepositData) : Nat → Int := treeV (msF d) 3 3

theorem rt32_0 (f : Nat → Int) : rt32 f 0 = f := funext fun j => by unfold rt32; rw [Nat.mul_zero, Nat.zero_add]

theorem msF_bd {d : VDepositData} (h1 : ∀ j, j < 32 → 0 ≤ d.f1 j ∧ d.f1 j < 256) (ht : ∀ j, j < 32 → 0 ≤ treeV (pk d.f0 48) 2 2 j ∧ treeV (pk d.f0 48) 2 2 j < 256) : ByB (msF d) 96 := fl7_bd (fun c hc j hj => by
  rcases List.mem_cons.1 hc with rfl | hc
  · exact ht j hj
  rcases List.mem_cons.1 hc with rfl | hc
  · exact h1 j hj
  rw [List.mem_singleton] at hc
  rw [hc]
  exact pk_in (fun j _ => by unfold nmB; omega) j) 96

/-- A question's bytes, and its sum. -/
def qsF (f : Nat → Int) (n : Nat) (r s : Nat → Int) (j : Nat) : Int := if j < 48 * n then f j else if j < 48 * n + 32 then r (j - 48 * n) else s (j - (48 * n + 32))

def qsV (f : Nat → Int) (n : Nat) (r s : Nat → Int) : Nat → Int := shaV KW HW (qsF f n r s) (48 * n + 128)

theorem qsF_bd {f r s : Nat → Int} {n : Nat} (hf : ∀ j, j < 48 * n → 0 ≤ f j ∧ f j < 256) (hr : ∀ j, j < 32 → 0 ≤ r j ∧ r j < 256) (hs : ∀ j, j < 96 → 0 ≤ s j ∧ s j < 256) : ∀ j, j < 48 * n + 128 → 0 ≤ qsF f n r s j ∧ qsF f n r s j < 256 := fun j hj => by
  unfold qsF
  split
  · exact hf j ‹_›
  · split
    · exact hr _ (by omega)
    · exact hs _ (by omega)

/-- Is a root none of a row's? -/
def gdB (q f : Nat → Int) (n : Nat) : Bool := !(List.range n).any fun i => eqR (rt32 f i) q

theorem gdB_zero (q f : Nat → Int) : gdB q f 0 = true := rfl

theorem gdB_succ (q f : Nat → Int) (n : Nat) : gdB q f (n + 1) = (gdB q f n && !eqR (rt32 f n) q) := by
  unfold gdB
  rw [List.range_succ, List.any_append, Bool.not_or]
  simp

theorem gdB_true {q f : Nat → Int} {n : Nat} : gdB q f n = true ↔ ∀ i, i < n → eqR (rt32 f i) q = false := by
  unfold gdB
  simp

end Go.Proofs.YtmapeodhcllimaaDoor
