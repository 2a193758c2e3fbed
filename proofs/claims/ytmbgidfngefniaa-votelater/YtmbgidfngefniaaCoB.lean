/-
  What the containers of layer 7 share.
-/

import Derived.Test.YtmbgidfngefniaaCoA
import Derived.Deep.Onto

namespace Go.Proofs.Ytmbgidfngefniaa

open Go.RowKit

set_option linter.unusedVariables false

set_option linter.unusedSimpArgs false

theorem sub_range {w : World} {g o : Nat} {C : Array Value} {t : TypeId} {l : List Value} (h : w.heap[g]? = some (.cells C t)) (hl : (C.toList.drop o).take l.length = l) : w.rangeAt g o l := by
  intro j v hj
  have hlt := (List.getElem?_eq_some_iff.1 hj).1
  rw [row_cell h, ← hj]
  have e : ((C.toList.drop o).take l.length)[j]? = l[j]? := by rw [hl]
  rw [List.getElem?_take_of_lt hlt, List.getElem?_drop, Array.getElem?_toList] at e
  exact e

def lvFork (a : Addr) : Sem Value := loadVar 28 a

theorem lvFork_eq (a : Addr) : loadVar 28 a = lvFork a := rfl

def lvCheckpoint (a : Addr) : Sem Value := loadVar 42 a

theorem lvCheckpoint_eq (a : Addr) : loadVar 42 a = lvCheckpoint a := rfl

theorem lvCheckpoint_mid {w : World} {g : Nat} {C : Array Value} {t : TypeId} {x : VCheckpoint} (h : w.heap[g]? = some (.cells C t)) (o : Nat) (hl : (C.toList.drop o).take (celL (sCheckpoint x)).length = celL (sCheckpoint x)) (hs : slen (sCheckpoint x) = 33) : (lvCheckpoint ⟨g, o, none⟩).run Try.prog w = .ok (.agg (cel (sCheckpoint x))) w :=
  loadAt_var (run_loadAt_mid w g o 42 _ _ (sub_range h hl) Try.underlying42 rfl (by rw [celL_len, hs]; kernel_rfl))

def lvValidator (a : Addr) : Sem Value := loadVar 63 a

theorem lvValidator_eq (a : Addr) : loadVar 63 a = lvValidator a := rfl

def lvData (a : Addr) : Sem Value := loadVar 51 a

theorem lvData_eq (a : Addr) : loadVar 51 a = lvData a := rfl

def lvEth1 (a : Addr) : Sem Value := loadVar 34 a

theorem lvEth1_eq (a : Addr) : loadVar 34 a = lvEth1 a := rfl

def lvHeader (a : Addr) : Sem Value := loadVar 30 a

theorem lvHeader_eq (a : Addr) : loadVar 30 a = lvHeader a := rfl

end Go.Proofs.Ytmbgidfngefniaa

namespace Go.Proofs.Ytmbgidfngefniaa

open Go.RowKit

set_option linter.unusedVariables false

set_option linter.unusedSimpArgs false

attribute [local go_sem ↓] sv24_eq lv24_eq ix22_eq slr_eq bd27_eq bs22_eq lvCheckpoint_eq lvHeader_eq

end Go.Proofs.Ytmbgidfngefniaa

namespace Go.Proofs.Ytmbgidfngefniaa

open Go.RowKit

set_option linter.unusedVariables false

set_option linter.unusedSimpArgs false

end Go.Proofs.Ytmbgidfngefniaa

namespace Go.Proofs.Ytmbgidfngefniaa

open Go.RowKit

set_option linter.unusedVariables false

set_option linter.unusedSimpArgs false

end Go.Proofs.Ytmbgidfngefniaa

namespace Go.Proofs.Ytmbgidfngefniaa

open Go.RowKit

set_option linter.unusedVariables false

set_option linter.unusedSimpArgs false

attribute [local go_sem ↓] sv24_eq lv24_eq ix22_eq slr_eq bd27_eq bs22_eq

end Go.Proofs.Ytmbgidfngefniaa

namespace Go.Proofs.Ytmbgidfngefniaa

open Go.RowKit

set_option linter.unusedVariables false

set_option linter.unusedSimpArgs false

/-- The value of nothing but zeros; the value that bytes are. -/
def oFork : VFork := ⟨fun _ => 0, fun _ => 0, 0⟩

/-- The value of nothing but zeros; the value that bytes are. -/
def oCheckpoint : VCheckpoint := ⟨0, fun _ => 0⟩

/-- The value of nothing but zeros; the value that bytes are. -/
def oValidator : VValidator := ⟨fun _ => 0, fun _ => 0, 0, false, 0, 0, 0, 0⟩

def svValidator (a : Addr) (v : Value) : Sem Unit := storeVar 63 a v

theorem svValidator_eq (a : Addr) (v : Value) : storeVar 63 a v = svValidator a v := rfl

theorem zeroValidator (W : World) : (zeroValue 63).run Try.prog W = .ok (.agg (cel (sValidator oValidator))) W := by kernel_rfl

theorem slValidator (x : VValidator) : slen (sValidator x) = 86 := rfl

theorem svValidator_newv (W : World) (o c : VValidator) : (svValidator ⟨W.heap.size, 0, none⟩ (.agg (cel (sValidator c)))).run Try.prog (W.alloc (.cells (cel (sValidator o)) 63)) = .ok () (W.alloc (.cells (cel (sValidator c)) 63)) :=
  run_storeVar_new W 63 _ _ (by rw [cel_size, slValidator]; kernel_rfl) (by rw [cel_size, cel_size, slValidator, slValidator]) (cel_one _)

/-- The value of nothing but zeros; the value that bytes are. -/
def oData : VData := ⟨0, 0, fun _ => 0, oCheckpoint, oCheckpoint⟩

def svData (a : Addr) (v : Value) : Sem Unit := storeVar 51 a v

theorem svData_eq (a : Addr) (v : Value) : storeVar 51 a v = svData a v := rfl

def bdData (ps : Array (Nat × Value)) : Sem Value := Instr.build 51 ps

theorem bdData_eq (ps : Array (Nat × Value)) : Instr.build 51 ps = bdData ps := rfl

theorem bdData_0 (W : World) : (bdData #[]).run Try.prog W = .ok (.agg (cel (sData oData))) W := by kernel_rfl

/-- The value of nothing but zeros; the value that bytes are. -/
def oEth1 : VEth1 := ⟨fun _ => 0, 0, fun _ => 0⟩

def svEth1 (a : Addr) (v : Value) : Sem Unit := storeVar 34 a v

theorem svEth1_eq (a : Addr) (v : Value) : storeVar 34 a v = svEth1 a v := rfl

/-- The value of nothing but zeros; the value that bytes are. -/
def oHeader : VHeader := ⟨0, 0, fun _ => 0, fun _ => 0, fun _ => 0⟩

end Go.Proofs.Ytmbgidfngefniaa
