/-
  Committee: its values, keys in bytes, roots of keys, what Enc and Root answer.
-/

import Derived.Test.YtmbgidfngefniaaCoC
namespace Go.Proofs.Ytmbgidfngefniaa

open Go.RowKit

set_option linter.unusedVariables false

set_option linter.unusedSimpArgs false

structure VKeys where
  f0 : Nat → Int

def sKeys (x : VKeys) : List Seg := [.by 384 x.f0]

def OkKeys (x : VKeys) : Prop := ∀ j, j < 384 → 0 ≤ x.f0 j ∧ x.f0 j < 256

def eKeys (x : VKeys) : List (Nat × (Nat → Int)) := [(384, x.f0)]

structure VCommittee where
  f0 : VKeys
  f1 : Nat → Int

def sCommittee (x : VCommittee) : List Seg := sKeys x.f0 ++ [.by 48 x.f1]

def OkCommittee (x : VCommittee) : Prop := OkKeys x.f0 ∧ (∀ j, j < 48 → 0 ≤ x.f1 j ∧ x.f1 j < 256)

def eCommittee (x : VCommittee) : List (Nat × (Nat → Int)) := [(384, ct7 (eKeys x.f0)), (48, x.f1)]

def lvKeys (a : Addr) : Sem Value := loadVar 45 a

theorem lvKeys_eq (a : Addr) : loadVar 45 a = lvKeys a := rfl

def lvCommittee (a : Addr) : Sem Value := loadVar 47 a

theorem lvCommittee_eq (a : Addr) : loadVar 47 a = lvCommittee a := rfl

/-- A key stored, a key of eight. -/
def svKy (a : Addr) (v : Value) : Sem Unit := storeVar 44 a v

theorem svKy_eq (a : Addr) (v : Value) : storeVar 44 a v = svKy a v := rfl

def ixK (x i : Value) : Sem Value := Instr.index 45 x i

theorem ixK_eq (x i : Value) : Instr.index 45 x i = ixK x i := rfl

attribute [local go_sem ↓] svKy_eq ixK_eq lvKeys_eq

/-- The root of a key, the roots of eight keys, their root. -/
def kyR (f : Nat → Int) (i : Nat) : Nat → Int := bR (fun q => f (48 * i + q)) 48

def lk (f : Nat → Int) (k : Nat) : List (Nat → Int) := [if 0 < k then kyR f 0 else fun _ => 0, if 1 < k then kyR f 1 else fun _ => 0, if 2 < k then kyR f 2 else fun _ => 0, if 3 < k then kyR f 3 else fun _ => 0, if 4 < k then kyR f 4 else fun _ => 0, if 5 < k then kyR f 5 else fun _ => 0, if 6 < k then kyR f 6 else fun _ => 0, if 7 < k then kyR f 7 else fun _ => 0]

attribute [local go_sem ↓] sv24_eq lv24_eq ix22_eq mk22_eq

/-- The value of nothing but zeros; the value that bytes are. -/
def oCommittee : VCommittee := ⟨⟨fun _ => 0⟩, fun _ => 0⟩

attribute [local go_sem ↓] sv24_eq lv24_eq ix22_eq slr_eq bd27_eq bs22_eq lvKeys_eq

end Go.Proofs.Ytmbgidfngefniaa
