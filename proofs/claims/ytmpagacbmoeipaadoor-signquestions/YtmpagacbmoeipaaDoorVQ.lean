/-
  What word.Bytes, word.Read and the document's like of them answer, beside package sha.
  Shuffled places: plain numbers. A round takes two places of a pair to each other or leaves both, so it undoes itself.
  What the small functions of package shuf answer: flipOf, isPlace, isSet, pivotOf, sourceOf, afterRound.
-/
import Derived.Test.YtmpagacbmoeipaaDoorLkM
import Derived.Test.YtmpagacbmoeipaaDoorRows
import Derived.Handy

import Derived.WalkKit

import Derived.ArgAppend

import Derived.Laws.BitsAllLaws

import Derived.Deep.WholeRow

import Derived.Deep.RegionHeld3

namespace Go.Proofs.YtmpagacbmoeipaaDoor

open Go.RowKit

set_option linter.unusedVariables false

set_option linter.unusedSimpArgs false

/-- The byte at place i, the lowest first. -/
def bt (n : Int) : Nat → Int
  | 0 => n % 256
  | 1 => n / 256 % 256
  | 2 => n / 65536 % 256
  | 3 => n / 16777216 % 256
  | 4 => n / 4294967296 % 256
  | 5 => n / 1099511627776 % 256
  | 6 => n / 281474976710656 % 256
  | _ => n / 72057594037927936 % 256

/-- The number of eight bytes. -/
def num8 (z0 z1 z2 z3 z4 z5 z6 z7 : Int) : Int := z0 + z1 * 256 + z2 * 65536 + z3 * 16777216 + z4 * 4294967296 + z5 * 1099511627776 + z6 * 281474976710656 + z7 * 72057594037927936

end Go.Proofs.YtmpagacbmoeipaaDoor

namespace Go.Proofs.YtmpagacbmoeipaaDoor

set_option linter.unusedVariables false

/-- The greater one. -/
def mx (a b : Int) : Int := if a < b then b else a

end Go.Proofs.YtmpagacbmoeipaaDoor

namespace Go.Proofs.YtmpagacbmoeipaaDoor

open Go.RowKit

set_option linter.unusedVariables false

set_option linter.unusedSimpArgs false

/-- The seed and the round; the four bytes behind them. -/
def sd1 (s : Nat → Int) (r : Int) (j : Nat) : Int := if j < 32 then s j else r

def sd2 (s : Nat → Int) (r q : Int) (j : Nat) : Int := if j < 33 then sd1 s r j else bt q (j - 33)

/-- The source of a place's bits. -/
def srcV (s : Nat → Int) (r q : Int) : Nat → Int := shaV KW HW (sd2 s r q) 37

/-- A source's bit for a place. -/
def bitB (f : Nat → Int) (p : Int) : Bool := decide (f (p % 256 / 8).toNat / 2 ^ (p % 8).toNat % 2 = 1)

def rdB (s : Nat → Int) (r : Int) (p : Int) : Bool := bitB (srcV s r (p / 256)) p

attribute [local go_sem ↓] sv24_eq lv24_eq sv8_eq

end Go.Proofs.YtmpagacbmoeipaaDoor
