/-
  What the containers of layer 7 share.
-/

import Derived.Test.YtenhgoclfljjlaaDoorCoA
import Derived.Deep.Onto

namespace Go.Proofs.YtenhgoclfljjlaaDoor

open Go.RowKit

set_option linter.unusedVariables false

set_option linter.unusedSimpArgs false

def lvFork (a : Addr) : Sem Value := loadVar 28 a

theorem lvFork_eq (a : Addr) : loadVar 28 a = lvFork a := rfl

def lvCheckpoint (a : Addr) : Sem Value := loadVar 42 a

theorem lvCheckpoint_eq (a : Addr) : loadVar 42 a = lvCheckpoint a := rfl

def lvValidator (a : Addr) : Sem Value := loadVar 63 a

theorem lvValidator_eq (a : Addr) : loadVar 63 a = lvValidator a := rfl

def lvEth1 (a : Addr) : Sem Value := loadVar 34 a

theorem lvEth1_eq (a : Addr) : loadVar 34 a = lvEth1 a := rfl

def lvHeader (a : Addr) : Sem Value := loadVar 30 a

theorem lvHeader_eq (a : Addr) : loadVar 30 a = lvHeader a := rfl

end Go.Proofs.YtenhgoclfljjlaaDoor

namespace Go.Proofs.YtenhgoclfljjlaaDoor

open Go.RowKit

set_option linter.unusedVariables false

set_option linter.unusedSimpArgs false

attribute [local go_sem ↓] sv24_eq lv24_eq ix22_eq slr_eq bd27_eq bs22_eq sv8_eq mkI_eq ixI_eq lvCheckpoint_eq lvHeader_eq

end Go.Proofs.YtenhgoclfljjlaaDoor

namespace Go.Proofs.YtenhgoclfljjlaaDoor

open Go.RowKit

set_option linter.unusedVariables false

set_option linter.unusedSimpArgs false

end Go.Proofs.YtenhgoclfljjlaaDoor

namespace Go.Proofs.YtenhgoclfljjlaaDoor

open Go.RowKit

set_option linter.unusedVariables false

set_option linter.unusedSimpArgs false

/-- The number that eight bytes are. -/
def rdN (f : Nat → Int) : Int := Z.num8 (f 0) (f 1) (f 2) (f 3) (f 4) (f 5) (f 6) (f 7)

end Go.Proofs.YtenhgoclfljjlaaDoor

namespace Go.Proofs.YtenhgoclfljjlaaDoor

open Go.RowKit

set_option linter.unusedVariables false

set_option linter.unusedSimpArgs false

attribute [local go_sem ↓] sv24_eq lv24_eq ix22_eq slr_eq bd27_eq bs22_eq sv8_eq mkI_eq ixI_eq

def bsI (n : Nat) (ps : Array (Nat × Value)) : Sem Value := Instr.buildSlice 76 n ps

theorem bsI_eq (n : Nat) (ps : Array (Nat × Value)) : Instr.buildSlice 76 n ps = bsI n ps := rfl

end Go.Proofs.YtenhgoclfljjlaaDoor

namespace Go.Proofs.YtenhgoclfljjlaaDoor

open Go.RowKit

set_option linter.unusedVariables false

set_option linter.unusedSimpArgs false

/-- The value of nothing but zeros; the value that bytes are. -/
def oFork : VFork := ⟨fun _ => 0, fun _ => 0, 0⟩

/-- The value of nothing but zeros; the value that bytes are. -/
def oCheckpoint : VCheckpoint := ⟨0, fun _ => 0⟩

/-- The value of nothing but zeros; the value that bytes are. -/
def oValidator : VValidator := ⟨fun _ => 0, fun _ => 0, 0, false, 0, 0, 0, 0⟩

def svValidator (a : Addr) (v : Value) : Sem Unit := storeVar 63 a v

theorem svValidator_eq (a : Addr) (v : Value) : storeVar 63 a v = svValidator a v := rfl

theorem zeroValidator (W : World) : (zeroValue 63).run Tryd.prog W = .ok (.agg (cel (sValidator oValidator))) W := by kernel_rfl

theorem slValidator (x : VValidator) : slen (sValidator x) = 86 := rfl

theorem svValidator_newv (W : World) (o c : VValidator) : (svValidator ⟨W.heap.size, 0, none⟩ (.agg (cel (sValidator c)))).run Tryd.prog (W.alloc (.cells (cel (sValidator o)) 63)) = .ok () (W.alloc (.cells (cel (sValidator c)) 63)) :=
  run_storeVar_new W 63 _ _ (by rw [cel_size, slValidator]; kernel_rfl) (by rw [cel_size, cel_size, slValidator, slValidator]) (cel_one _)

/-- The value of nothing but zeros; the value that bytes are. -/
def oEth1 : VEth1 := ⟨fun _ => 0, 0, fun _ => 0⟩

def svEth1 (a : Addr) (v : Value) : Sem Unit := storeVar 34 a v

theorem svEth1_eq (a : Addr) (v : Value) : storeVar 34 a v = svEth1 a v := rfl

/-- The value of nothing but zeros; the value that bytes are. -/
def oHeader : VHeader := ⟨0, 0, fun _ => 0, fun _ => 0, fun _ => 0⟩

end Go.Proofs.YtenhgoclfljjlaaDoor
