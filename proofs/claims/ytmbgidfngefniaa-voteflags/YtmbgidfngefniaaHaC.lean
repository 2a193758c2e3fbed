/-
  A digest in memory, and what it is a digest of.
  What Write does to a digest.
  What New makes, and what pad writes.
  What rootOf answers: words as bytes.
  What a digest's Sum and Copy answer; what is left alone by a nil digest, and by writing nothing.
  What sha.Sum and sha.Two answer.
-/
import Derived.Test.YtmbgidfngefniaaHaA
import Derived.Laws.IdiomCopy
import Derived.Laws.CopyOwn
import Derived.StillTailTactics
import Derived.Deep.RegionWith
namespace Go.Proofs.Ytmbgidfngefniaa

open Go.RowKit

set_option linter.unusedVariables false

/-- The words behind q full blocks of the message m. -/
def hsh (K H m : Nat → Int) : Nat → Nat → Int
  | 0 => H
  | q + 1 => comp K (fun j => m (64 * q + j)) (hsh K H m q)

/-- What lies in the block when z is laid over it from place p on, c bytes. -/
def over (f z : Nat → Int) (p c : Nat) (j : Nat) : Int := if p ≤ j ∧ j < p + c then z (j - p) else f j

/-- Nothing but block g has turned. -/
structure Kept (g : Nat) (w w' : World) : Prop where
  os : w'.os = w.os
  tape : w'.tape = w.tape
  output : w'.output = w.output
  size : w.heap.size ≤ w'.heap.size
  block : ∀ k, k < w.heap.size → k ≠ g → w'.heap[k]? = w.heap[k]?

theorem Kept.refl (g : Nat) (w : World) : Kept g w w := ⟨rfl, rfl, rfl, Nat.le_refl _, fun _ _ _ => rfl⟩

theorem Kept.trans {g : Nat} {a b c : World} (h : Kept g a b) (k : Kept g b c) : Kept g a c :=
  ⟨k.os.trans h.os, k.tape.trans h.tape, k.output.trans h.output, Nat.le_trans h.size k.size, fun i hi hn => (k.block i (Nat.lt_of_lt_of_le hi h.size) hn).trans (h.block i hi hn)⟩

theorem Kept.drew {g : Nat} {a b : World} (h : Kept g a b) : Kept g a b.drew := ⟨h.os, h.tape, h.output, h.size, h.block⟩

theorem Kept.setRow {g : Nat} {a b : World} (h : Kept g a b) (c : Array Value) : Kept g a (b.setRow g c) :=
  h.trans ⟨rfl, rfl, rfl, by simp, fun k _ hk => setRow_other b g k c hk⟩

theorem Kept.setCell {g : Nat} {a b : World} (h : Kept g a b) (i : Nat) (v : Value) : Kept g a (b.setCell ⟨g, i, none⟩ v) :=
  h.trans ⟨rfl, rfl, rfl, by simp [World.setCell], fun k _ hk => heap_set_other hk⟩

theorem Kept.below {g : Nat} {a b : World} (h : Kept g a b) {B : Nat} (hB : B ≤ g) (hB' : B ≤ a.heap.size) : Below B a b := ⟨h.os, h.tape, h.output, h.size, fun k hk => h.block k (by omega) (by omega)⟩

theorem Kept.cell {g : Nat} {a b : World} (h : Kept g a b) {k i : Nat} (hk : k < a.heap.size) (hn : k ≠ g) : b.cell? ⟨k, i, none⟩ = a.cell? ⟨k, i, none⟩ := World.cell?_of_block (w := a) (h.block k hk hn)

end Go.Proofs.Ytmbgidfngefniaa

namespace Go.Proofs.Ytmbgidfngefniaa

open Go.RowKit

set_option linter.unusedVariables false



theorem loadAt_var {P : Program} {ty : TypeId} {a : Addr} {w : World} {v : Value} (h : (Instr.loadAt ty (.pointer (some a))).run P w = .ok v w) : (loadVar ty a).run P w = .ok v w := by
  simpa only [Instr.loadAt, Instr.sureAddr, Sem.run_bind, Sem.run_pure, Result.andThen_ok] using h

end Go.Proofs.Ytmbgidfngefniaa

namespace Go.Proofs.Ytmbgidfngefniaa

open Go.RowKit

set_option linter.unusedVariables false

/-- How many bytes stand in the padding ahead of the length. -/
def padZ (L : Nat) : Nat := 1 + (119 - L % 64) % 64

/-- The byte number i of the length in bits. -/
def lenB (L i : Nat) : Int := 8 * (L : Int) / 2 ^ (8 * (7 - i)) % 256

def padB (L j : Nat) : Int := if j = 0 then 128 else if j < padZ L then 0 else lenB L (j - padZ L)

/-- The padded message, and its length. -/
def padM (m : Nat → Int) (L i : Nat) : Int := if i < L then m i else padB L (i - L)

def padL (L : Nat) : Nat := L + padZ L + 8

end Go.Proofs.Ytmbgidfngefniaa

namespace Go.Proofs.Ytmbgidfngefniaa

open Go.RowKit

set_option linter.unusedVariables false

/-- The bytes of the words, the highest byte of each first. -/
def rbt (s : Nat → Int) (j : Nat) : Int := s (j / 4) / (2 ^ (24 - 8 * (j % 4))) % 256

end Go.Proofs.Ytmbgidfngefniaa

namespace Go.Proofs.Ytmbgidfngefniaa

open Go.RowKit

set_option linter.unusedVariables false

/-- The sum of the first L bytes of m. -/
def shaV (K H m : Nat → Int) (L : Nat) : Nat → Int := rbt (hsh K H (padM m L) (padL L / 64))

def sv24 (a : Addr) (v : Value) : Sem Unit := storeVar 24 a v

theorem sv24_eq (a : Addr) (v : Value) : storeVar 24 a v = sv24 a v := rfl

def lv24 (a : Addr) : Sem Value := loadVar 24 a

theorem lv24_eq (a : Addr) : loadVar 24 a = lv24 a := rfl

theorem sv24_run {w : World} {b : Nat} {o : Nat → Int} {t : TypeId} (h : w.heap[b]? = some (.cells (vs .u8 32 o) t)) (c : Nat → Int) : (sv24 ⟨b, 0, none⟩ (.agg (vs .u8 32 c))).run Try.prog w = .ok () (w.setRow b (vs .u8 32 c)) :=
  run_storeVar_row w b t 24 _ _ h (by rw [vs_size]; kernel_rfl) (by rw [vs_size, vs_size]) (vs_one _ _ _)

theorem lv24_run {w : World} {b : Nat} {c : Nat → Int} {t : TypeId} (h : w.heap[b]? = some (.cells (vs .u8 32 c) t)) : (lv24 ⟨b, 0, none⟩).run Try.prog w = .ok (.agg (vs .u8 32 c)) w :=
  loadAt_var (load_row h 24 _ Try.underlying24 rfl (by rw [vs_size]; kernel_rfl))

attribute [local go_sem ↓] sv24_eq lv24_eq

end Go.Proofs.Ytmbgidfngefniaa

namespace Go.Proofs.Ytmbgidfngefniaa

open Go.RowKit

set_option linter.unusedVariables false

attribute [local go_sem ↓] sv24_eq lv24_eq

end Go.Proofs.Ytmbgidfngefniaa
