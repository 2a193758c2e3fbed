/-
  A digest in memory, and what it is a digest of.
  What Write does to a digest.
  What New makes, and what pad writes.
  What rootOf answers: words as bytes.
  What a digest's Sum and Copy answer; what is left alone by a nil digest, and by writing nothing.
  What sha.Sum and sha.Two answer.
-/
import Derived.Test.YtmjdofegmelgbaaHaA
import Derived.Laws.IdiomCopy
import Derived.Laws.CopyOwn
import Derived.StillTailTactics
import Derived.Deep.RegionWith
namespace Go.Proofs.Ytmjdofegmelgbaa

open Go.RowKit

set_option linter.unusedVariables false

/-- The words behind q full blocks of the message m. -/
def hsh (K H m : Nat → Int) : Nat → Nat → Int
  | 0 => H
  | q + 1 => comp K (fun j => m (64 * q + j)) (hsh K H m q)

/-- What lies in the block when z is laid over it from place p on, c bytes. -/
def over (f z : Nat → Int) (p c : Nat) (j : Nat) : Int := if p ≤ j ∧ j < p + c then z (j - p) else f j

end Go.Proofs.Ytmjdofegmelgbaa

namespace Go.Proofs.Ytmjdofegmelgbaa

open Go.RowKit

set_option linter.unusedVariables false



theorem loadAt_var {P : Program} {ty : TypeId} {a : Addr} {w : World} {v : Value} (h : (Instr.loadAt ty (.pointer (some a))).run P w = .ok v w) : (loadVar ty a).run P w = .ok v w := by
  simpa only [Instr.loadAt, Instr.sureAddr, Sem.run_bind, Sem.run_pure, Result.andThen_ok] using h

end Go.Proofs.Ytmjdofegmelgbaa

namespace Go.Proofs.Ytmjdofegmelgbaa

open Go.RowKit

set_option linter.unusedVariables false

/-- How many bytes stand in the padding ahead of the length. -/
def padZ (L : Nat) : Nat := 1 + (119 - L % 64) % 64

/-- The byte number i of the length in bits. -/
def lenB (L i : Nat) : Int := 8 * (L : Int) / 2 ^ (8 * (7 - i)) % 256

def padB (L j : Nat) : Int := if j = 0 then 128 else if j < padZ L then 0 else lenB L (j - padZ L)

/-- The padded message, and its length. -/
def padM (m : Nat → Int) (L i : Nat) : Int := if i < L then m i else padB L (i - L)

def padL (L : Nat) : Nat := L + padZ L + 8

end Go.Proofs.Ytmjdofegmelgbaa

namespace Go.Proofs.Ytmjdofegmelgbaa

open Go.RowKit

set_option linter.unusedVariables false

/-- The bytes of the words, the highest byte of each first. -/
def rbt (s : Nat → Int) (j : Nat) : Int := s (j / 4) / (2 ^ (24 - 8 * (j % 4))) % 256

end Go.Proofs.Ytmjdofegmelgbaa

namespace Go.Proofs.Ytmjdofegmelgbaa

open Go.RowKit

set_option linter.unusedVariables false

/-- The sum of the first L bytes of m. -/
def shaV (K H m : Nat → Int) (L : Nat) : Nat → Int := rbt (hsh K H (padM m L) (padL L / 64))

def sv24 (a : Addr) (v : Value) : Sem Unit := storeVar 24 a v

theorem sv24_eq (a : Addr) (v : Value) : storeVar 24 a v = sv24 a v := rfl

def lv24 (a : Addr) : Sem Value := loadVar 24 a

theorem lv24_eq (a : Addr) : loadVar 24 a = lv24 a := rfl

attribute [local go_sem ↓] sv24_eq lv24_eq

end Go.Proofs.Ytmjdofegmelgbaa

namespace Go.Proofs.Ytmjdofegmelgbaa

open Go.RowKit

set_option linter.unusedVariables false

attribute [local go_sem ↓] sv24_eq lv24_eq

end Go.Proofs.Ytmjdofegmelgbaa
