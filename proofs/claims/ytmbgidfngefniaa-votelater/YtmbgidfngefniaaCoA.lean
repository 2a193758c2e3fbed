/-
  What the containers of layer 7 share.
-/

import Derived.Test.YtmbgidfngefniaaMaE
import Derived.Test.YtmbgidfngefniaaZaB
import Derived.Test.YtmbgidfngefniaaZaH
import Derived.Deep.Onto

namespace Go.Proofs.Ytmbgidfngefniaa

open Go.RowKit

set_option linter.unusedVariables false

set_option linter.unusedSimpArgs false

end Go.Proofs.Ytmbgidfngefniaa

namespace Go.Proofs.Ytmbgidfngefniaa

open Go.RowKit

set_option linter.unusedVariables false

set_option linter.unusedSimpArgs false

attribute [local go_sem ↓] sv24_eq lv24_eq ix22_eq slr_eq bd27_eq bs22_eq

/-- The root of bytes. -/
def cks (len : Nat) : Nat := (len + 31) / 32

def bR (f : Nat → Int) (len : Nat) : Nat → Int := treeV (pk f len) (cks len) (cks len : Nat)

end Go.Proofs.Ytmbgidfngefniaa

namespace Go.Proofs.Ytmbgidfngefniaa

open Go.RowKit

set_option linter.unusedVariables false

set_option linter.unusedSimpArgs false

/-- Bytes of parts, one behind the other. -/
def ct7 : List (Nat × (Nat → Int)) → Nat → Int
  | [], _ => 0
  | p :: r, q => if q < p.1 then p.2 q else ct7 r (q - p.1)

end Go.Proofs.Ytmbgidfngefniaa

namespace Go.Proofs.Ytmbgidfngefniaa

open Go.RowKit

set_option linter.unusedVariables false

set_option linter.unusedSimpArgs false

attribute [local go_sem ↓] sv24_eq lv24_eq ix22_eq slr_eq bd27_eq bs22_eq

end Go.Proofs.Ytmbgidfngefniaa

namespace Go.Proofs.Ytmbgidfngefniaa

open Go.RowKit

set_option linter.unusedVariables false

set_option linter.unusedSimpArgs false

/-- A field in memory. -/
inductive Seg where
  | by (n : Nat) (f : Nat → Int)
  | nu (e : Int)
  | bo (b : Bool)
  | sl (a : Option Addr) (n c : Nat)

def Seg.len : Seg → Nat
  | .by n _ => n
  | .nu _ => 1
  | .bo _ => 1
  | .sl _ _ _ => 1

def Seg.get : Seg → Nat → Value
  | .by _ f, j => .int .u8 (f j)
  | .nu e, _ => .int .u64 e
  | .bo b, _ => .bool b
  | .sl a n c, _ => .slice a n c

def celL : List Seg → List Value
  | [] => []
  | s :: r => (List.range s.len).map s.get ++ celL r

def cel (l : List Seg) : Array Value := (celL l).toArray

/-- Where a field begins. -/
def sof : List Seg → Nat → Nat
  | [], _ => 0
  | _ :: _, 0 => 0
  | s :: r, i + 1 => s.len + sof r i

def slen : List Seg → Nat
  | [] => 0
  | s :: r => s.len + slen r

theorem celL_len : ∀ l, (celL l).length = slen l
  | [] => rfl
  | s :: r => by
    show ((List.range s.len).map s.get ++ celL r).length = s.len + slen r
    rw [List.length_append, List.length_map, List.length_range, celL_len r]

theorem cel_size (l : List Seg) : (cel l).size = slen l := by
  unfold cel
  rw [List.size_toArray, celL_len]

theorem celL_at : ∀ (l : List Seg) (i j : Nat) (s : Seg), l[i]? = some s → j < s.len → (celL l)[sof l i + j]? = some (s.get j)
  | [], i, j, s, h, _ => by simp at h
  | x :: r, 0, j, s, h, hj => by
    have e : x = s := by simpa using h
    subst e
    show ((List.range x.len).map x.get ++ celL r)[0 + j]? = _
    rw [Nat.zero_add, List.getElem?_append_left (by simpa using hj), List.getElem?_map, List.getElem?_range hj]
    rfl
  | x :: r, i + 1, j, s, h, hj => by
    have h' : r[i]? = some s := by simpa using h
    show ((List.range x.len).map x.get ++ celL r)[x.len + sof r i + j]? = _
    rw [List.getElem?_append_right (by simp; omega), List.length_map, List.length_range, show x.len + sof r i + j - x.len = sof r i + j by omega]
    exact celL_at r i j s h' hj

theorem cel_at (l : List Seg) (i j : Nat) (s : Seg) (h : l[i]? = some s) (hj : j < s.len) : (cel l)[sof l i + j]? = some (s.get j) := by
  unfold cel
  rw [List.getElem?_toArray]
  exact celL_at l i j s h hj

theorem celL_one : ∀ l, ∀ u ∈ celL l, u.oneCell' = true
  | [], u, h => by cases h
  | s :: r, u, h => by
    have h' : u ∈ (List.range s.len).map s.get ++ celL r := h
    rw [List.mem_append] at h'
    rcases h' with h' | h'
    · obtain ⟨j, _, rfl⟩ := List.mem_map.1 h'
      cases s <;> rfl
    · exact celL_one r u h'

theorem cel_one (l : List Seg) : (cel l).all (·.oneCell') = true := by
  rw [Array.all_eq_true']
  intro u hu
  exact celL_one l u (by simpa [cel] using hu)

/-- The bytes, a number, a bool of a field in memory. -/
theorem seg_bys {w : World} {g : Nat} {t : TypeId} {l : List Seg} (h : w.heap[g]? = some (.cells (cel l) t)) (i n : Nat) (f : Nat → Int) (hi : l[i]? = some (.by n f)) (o : Nat) (ho : sof l i = o) (hn : n ≤ 9223372036854775807) : Bys w (some ⟨g, o, none⟩) n n f :=
  .inr (.inr ⟨g, o, rfl, Nat.le_refl _, hn, (Array.getElem?_eq_some_iff.1 h).1, fun j hj => by
    rw [row_cell h, ← ho]
    exact cel_at l i j _ hi hj⟩)

theorem seg_nu {w : World} {g : Nat} {t : TypeId} {l : List Seg} (h : w.heap[g]? = some (.cells (cel l) t)) (i : Nat) (e : Int) (hi : l[i]? = some (.nu e)) (o : Nat) (ho : sof l i = o) : w.cell? ⟨g, o, none⟩ = some (.int .u64 e) := by
  rw [row_cell h, ← ho]
  exact cel_at l i 0 _ hi (by show 0 < 1; omega)

theorem seg_sl {w : World} {g : Nat} {t : TypeId} {l : List Seg} (h : w.heap[g]? = some (.cells (cel l) t)) (i : Nat) (a : Option Addr) (n c : Nat) (hi : l[i]? = some (.sl a n c)) (o : Nat) (ho : sof l i = o) : w.cell? ⟨g, o, none⟩ = some (.slice a n c) := by
  rw [row_cell h, ← ho]
  exact cel_at l i 0 _ hi (by show 0 < 1; omega)

end Go.Proofs.Ytmbgidfngefniaa

namespace Go.Proofs.Ytmbgidfngefniaa

open Go.RowKit

set_option linter.unusedVariables false

set_option linter.unusedSimpArgs false

/-- A bool's byte. -/
def bbB (b : Bool) (_ : Nat) : Int := if b then 1 else 0

/-- A value of the type Fork: as it lies in memory, its bytes. -/
structure VFork where
  f0 : Nat → Int
  f1 : Nat → Int
  f2 : Int

def sFork (x : VFork) : List Seg := [.by 4 x.f0, .by 4 x.f1, .nu x.f2]

def OkFork (x : VFork) : Prop := (∀ j, j < 4 → 0 ≤ x.f0 j ∧ x.f0 j < 256) ∧ (∀ j, j < 4 → 0 ≤ x.f1 j ∧ x.f1 j < 256) ∧ (0 ≤ x.f2 ∧ x.f2 < 18446744073709551616)

def eFork (x : VFork) : List (Nat × (Nat → Int)) := [(4, x.f0), (4, x.f1), (8, nmB x.f2)]

/-- A value of the type Checkpoint: as it lies in memory, its bytes. -/
structure VCheckpoint where
  f0 : Int
  f1 : Nat → Int

def sCheckpoint (x : VCheckpoint) : List Seg := [.nu x.f0, .by 32 x.f1]

def OkCheckpoint (x : VCheckpoint) : Prop := (0 ≤ x.f0 ∧ x.f0 < 18446744073709551616) ∧ (∀ j, j < 32 → 0 ≤ x.f1 j ∧ x.f1 j < 256)

def eCheckpoint (x : VCheckpoint) : List (Nat × (Nat → Int)) := [(8, nmB x.f0), (32, x.f1)]

/-- A value of the type Validator: as it lies in memory, its bytes. -/
structure VValidator where
  f0 : Nat → Int
  f1 : Nat → Int
  f2 : Int
  f3 : Bool
  f4 : Int
  f5 : Int
  f6 : Int
  f7 : Int

def sValidator (x : VValidator) : List Seg := [.by 48 x.f0, .by 32 x.f1, .nu x.f2, .bo x.f3, .nu x.f4, .nu x.f5, .nu x.f6, .nu x.f7]

def OkValidator (x : VValidator) : Prop := (∀ j, j < 48 → 0 ≤ x.f0 j ∧ x.f0 j < 256) ∧ (∀ j, j < 32 → 0 ≤ x.f1 j ∧ x.f1 j < 256) ∧ (0 ≤ x.f2 ∧ x.f2 < 18446744073709551616) ∧ True ∧ (0 ≤ x.f4 ∧ x.f4 < 18446744073709551616) ∧ (0 ≤ x.f5 ∧ x.f5 < 18446744073709551616) ∧ (0 ≤ x.f6 ∧ x.f6 < 18446744073709551616) ∧ (0 ≤ x.f7 ∧ x.f7 < 18446744073709551616)

def eValidator (x : VValidator) : List (Nat × (Nat → Int)) := [(48, x.f0), (32, x.f1), (8, nmB x.f2), (1, bbB x.f3), (8, nmB x.f4), (8, nmB x.f5), (8, nmB x.f6), (8, nmB x.f7)]

/-- A value of the type Data: as it lies in memory, its bytes. -/
structure VData where
  f0 : Int
  f1 : Int
  f2 : Nat → Int
  f3 : VCheckpoint
  f4 : VCheckpoint

def sData (x : VData) : List Seg := [.nu x.f0, .nu x.f1, .by 32 x.f2] ++ sCheckpoint x.f3 ++ sCheckpoint x.f4

def OkData (x : VData) : Prop := (0 ≤ x.f0 ∧ x.f0 < 18446744073709551616) ∧ (0 ≤ x.f1 ∧ x.f1 < 18446744073709551616) ∧ (∀ j, j < 32 → 0 ≤ x.f2 j ∧ x.f2 j < 256) ∧ OkCheckpoint x.f3 ∧ OkCheckpoint x.f4

/-- A value of the type Eth1: as it lies in memory, its bytes. -/
structure VEth1 where
  f0 : Nat → Int
  f1 : Int
  f2 : Nat → Int

def sEth1 (x : VEth1) : List Seg := [.by 32 x.f0, .nu x.f1, .by 32 x.f2]

def OkEth1 (x : VEth1) : Prop := (∀ j, j < 32 → 0 ≤ x.f0 j ∧ x.f0 j < 256) ∧ (0 ≤ x.f1 ∧ x.f1 < 18446744073709551616) ∧ (∀ j, j < 32 → 0 ≤ x.f2 j ∧ x.f2 j < 256)

def eEth1 (x : VEth1) : List (Nat × (Nat → Int)) := [(32, x.f0), (8, nmB x.f1), (32, x.f2)]

/-- A value of the type Header: as it lies in memory, its bytes. -/
structure VHeader where
  f0 : Int
  f1 : Int
  f2 : Nat → Int
  f3 : Nat → Int
  f4 : Nat → Int

def sHeader (x : VHeader) : List Seg := [.nu x.f0, .nu x.f1, .by 32 x.f2, .by 32 x.f3, .by 32 x.f4]

def OkHeader (x : VHeader) : Prop := (0 ≤ x.f0 ∧ x.f0 < 18446744073709551616) ∧ (0 ≤ x.f1 ∧ x.f1 < 18446744073709551616) ∧ (∀ j, j < 32 → 0 ≤ x.f2 j ∧ x.f2 j < 256) ∧ (∀ j, j < 32 → 0 ≤ x.f3 j ∧ x.f3 j < 256) ∧ (∀ j, j < 32 → 0 ≤ x.f4 j ∧ x.f4 j < 256)

def eHeader (x : VHeader) : List (Nat × (Nat → Int)) := [(8, nmB x.f0), (8, nmB x.f1), (32, x.f2), (32, x.f3), (32, x.f4)]

end Go.Proofs.Ytmbgidfngefniaa
