/-
  What the containers of layer 7 share.
-/

import Derived.Test.YtficlakgameglaaDoorQA
import Derived.Deep.Onto

namespace Go.Proofs.YtficlakgameglaaDoor

open Go.RowKit

set_option linter.unusedVariables false

set_option linter.unusedSimpArgs false

theorem sub_range {w : World} {g o : Nat} {C : Array Value} {t : TypeId} {l : List Value} (h : w.heap[g]? = some (.cells C t)) (hl : (C.toList.drop o).take l.length = l) : w.rangeAt g o l := by
  intro j v hj
  have hlt := (List.getElem?_eq_some_iff.1 hj).1
  rw [row_cell h, ← hj]
  have e : ((C.toList.drop o).take l.length)[j]? = l[j]? := by rw [hl]
  rw [List.getElem?_take_of_lt hlt, List.getElem?_drop, Array.getElem?_toList] at e
  exact e

def lvFork (a : Addr) : Sem Value := loadVar 28 a

theorem lvFork_eq (a : Addr) : loadVar 28 a = lvFork a := rfl

theorem lvFork_mid {w : World} {g : Nat} {C : Array Value} {t : TypeId} {x : VFork} (h : w.heap[g]? = some (.cells C t)) (o : Nat) (hl : (C.toList.drop o).take (celL (sFork x)).length = celL (sFork x)) (hs : slen (sFork x) = 9) : (lvFork ⟨g, o, none⟩).run Tryd.prog w = .ok (.agg (cel (sFork x))) w :=
  loadAt_var (run_loadAt_mid w g o 28 _ _ (sub_range h hl) Tryd.underlying28 rfl (by rw [celL_len, hs]; kernel_rfl))

def lvCheckpoint (a : Addr) : Sem Value := loadVar 42 a

theorem lvCheckpoint_eq (a : Addr) : loadVar 42 a = lvCheckpoint a := rfl

theorem lvCheckpoint_mid {w : World} {g : Nat} {C : Array Value} {t : TypeId} {x : VCheckpoint} (h : w.heap[g]? = some (.cells C t)) (o : Nat) (hl : (C.toList.drop o).take (celL (sCheckpoint x)).length = celL (sCheckpoint x)) (hs : slen (sCheckpoint x) = 33) : (lvCheckpoint ⟨g, o, none⟩).run Tryd.prog w = .ok (.agg (cel (sCheckpoint x))) w :=
  loadAt_var (run_loadAt_mid w g o 42 _ _ (sub_range h hl) Tryd.underlying42 rfl (by rw [celL_len, hs]; kernel_rfl))

def lvValidator (a : Addr) : Sem Value := loadVar 82 a

theorem lvValidator_eq (a : Addr) : loadVar 82 a = lvValidator a := rfl

def lvEth1 (a : Addr) : Sem Value := loadVar 34 a

theorem lvEth1_eq (a : Addr) : loadVar 34 a = lvEth1 a := rfl

theorem lvEth1_mid {w : World} {g : Nat} {C : Array Value} {t : TypeId} {x : VEth1} (h : w.heap[g]? = some (.cells C t)) (o : Nat) (hl : (C.toList.drop o).take (celL (sEth1 x)).length = celL (sEth1 x)) (hs : slen (sEth1 x) = 65) : (lvEth1 ⟨g, o, none⟩).run Tryd.prog w = .ok (.agg (cel (sEth1 x))) w :=
  loadAt_var (run_loadAt_mid w g o 34 _ _ (sub_range h hl) Tryd.underlying34 rfl (by rw [celL_len, hs]; kernel_rfl))

def lvHeader (a : Addr) : Sem Value := loadVar 30 a

theorem lvHeader_eq (a : Addr) : loadVar 30 a = lvHeader a := rfl

theorem lvHeader_mid {w : World} {g : Nat} {C : Array Value} {t : TypeId} {x : VHeader} (h : w.heap[g]? = some (.cells C t)) (o : Nat) (hl : (C.toList.drop o).take (celL (sHeader x)).length = celL (sHeader x)) (hs : slen (sHeader x) = 98) : (lvHeader ⟨g, o, none⟩).run Tryd.prog w = .ok (.agg (cel (sHeader x))) w :=
  loadAt_var (run_loadAt_mid w g o 30 _ _ (sub_range h hl) Tryd.underlying30 rfl (by rw [celL_len, hs]; kernel_rfl))

end Go.Proofs.YtficlakgameglaaDoor

namespace Go.Proofs.YtficlakgameglaaDoor

open Go.RowKit

set_option linter.unusedVariables false

set_option linter.unusedSimpArgs false

attribute [local go_sem ↓] sv24_eq lv24_eq ix22_eq slr_eq bd27_eq bs22_eq sv8_eq mkI_eq ixI_eq ixP_eq bsP_eq lvCheckpoint_eq lvHeader_eq

end Go.Proofs.YtficlakgameglaaDoor

namespace Go.Proofs.YtficlakgameglaaDoor

open Go.RowKit

set_option linter.unusedVariables false

set_option linter.unusedSimpArgs false

end Go.Proofs.YtficlakgameglaaDoor

namespace Go.Proofs.YtficlakgameglaaDoor

open Go.RowKit

set_option linter.unusedVariables false

set_option linter.unusedSimpArgs false

/-- The number that eight bytes are. -/
def rdN (f : Nat → Int) : Int := Z.num8 (f 0) (f 1) (f 2) (f 3) (f 4) (f 5) (f 6) (f 7)

theorem bys_at {w : World} {a : Option Addr} {n cap : Nat} {f : Nat → Int} (h : Bys w a n cap f) (hn : 0 < n) : ∃ b off, a = some ⟨b, off, none⟩ ∧ b < w.heap.size ∧ n ≤ cap ∧ ∀ j, j < n → w.cell? ⟨b, off + j, none⟩ = some (.int .u8 (f j)) := by
  rcases h with ⟨_, h, _⟩ | ⟨_, _, h⟩ | ⟨b, off, h1, h2, h3, h4, h5⟩
  · omega
  · omega
  · exact ⟨b, off, h1, h4, h2, h5⟩

end Go.Proofs.YtficlakgameglaaDoor

namespace Go.Proofs.YtficlakgameglaaDoor

open Go.RowKit

set_option linter.unusedVariables false

set_option linter.unusedSimpArgs false

attribute [local go_sem ↓] sv24_eq lv24_eq ix22_eq slr_eq bd27_eq bs22_eq sv8_eq mkI_eq ixI_eq ixP_eq bsP_eq

def bsI (n : Nat) (ps : Array (Nat × Value)) : Sem Value := Instr.buildSlice 108 n ps

theorem bsI_eq (n : Nat) (ps : Array (Nat × Value)) : Instr.buildSlice 108 n ps = bsI n ps := rfl

end Go.Proofs.YtficlakgameglaaDoor

namespace Go.Proofs.YtficlakgameglaaDoor

open Go.RowKit

set_option linter.unusedVariables false

set_option linter.unusedSimpArgs false

/-- Sizes, one behind the other. -/
def zl7 (l : List Int) (i : Nat) : Int := l.getD i 0

/-- The value of nothing but zeros; the value that bytes are. -/
def oFork : VFork := ⟨fun _ => 0, fun _ => 0, 0⟩

def zFork : Nat → Int := zl7 [4, 4, 8]

theorem bsI_Fork (W : World) : (bsI 3 #[(0, .int .i64 4), (1, .int .i64 4), (2, .int .i64 8)]).run Tryd.prog W = .ok (.slice (some ⟨W.heap.size, 0, none⟩) 3 3) (W.alloc (.cells (vs .i64 3 zFork) 3)) := by kernel_rfl

def svFork (a : Addr) (v : Value) : Sem Unit := storeVar 28 a v

theorem svFork_eq (a : Addr) (v : Value) : storeVar 28 a v = svFork a v := rfl

def bdFork (ps : Array (Nat × Value)) : Sem Value := Instr.build 28 ps

theorem bdFork_eq (ps : Array (Nat × Value)) : Instr.build 28 ps = bdFork ps := rfl

/-- The value of nothing but zeros; the value that bytes are. -/
def oCheckpoint : VCheckpoint := ⟨0, fun _ => 0⟩

def zCheckpoint : Nat → Int := zl7 [8, 32]

theorem bsI_Checkpoint (W : World) : (bsI 2 #[(0, .int .i64 8), (1, .int .i64 32)]).run Tryd.prog W = .ok (.slice (some ⟨W.heap.size, 0, none⟩) 2 2) (W.alloc (.cells (vs .i64 2 zCheckpoint) 3)) := by kernel_rfl

def svCheckpoint (a : Addr) (v : Value) : Sem Unit := storeVar 42 a v

theorem svCheckpoint_eq (a : Addr) (v : Value) : storeVar 42 a v = svCheckpoint a v := rfl

def bdCheckpoint (ps : Array (Nat × Value)) : Sem Value := Instr.build 42 ps

theorem bdCheckpoint_eq (ps : Array (Nat × Value)) : Instr.build 42 ps = bdCheckpoint ps := rfl

/-- The value of nothing but zeros; the value that bytes are. -/
def oValidator : VValidator := ⟨fun _ => 0, fun _ => 0, 0, false, 0, 0, 0, 0⟩

def zValidator : Nat → Int := zl7 [48, 32, 8, 1, 8, 8, 8, 8]

theorem bsI_Validator (W : World) : (bsI 8 #[(0, .int .i64 48), (1, .int .i64 32), (2, .int .i64 8), (3, .int .i64 1), (4, .int .i64 8), (5, .int .i64 8), (6, .int .i64 8), (7, .int .i64 8)]).run Tryd.prog W = .ok (.slice (some ⟨W.heap.size, 0, none⟩) 8 8) (W.alloc (.cells (vs .i64 8 zValidator) 3)) := by kernel_rfl

def svValidator (a : Addr) (v : Value) : Sem Unit := storeVar 82 a v

theorem svValidator_eq (a : Addr) (v : Value) : storeVar 82 a v = svValidator a v := rfl

def bdValidator (ps : Array (Nat × Value)) : Sem Value := Instr.build 82 ps

theorem bdValidator_eq (ps : Array (Nat × Value)) : Instr.build 82 ps = bdValidator ps := rfl

theorem zeroValidator (W : World) : (zeroValue 82).run Tryd.prog W = .ok (.agg (cel (sValidator oValidator))) W := by kernel_rfl

theorem slValidator (x : VValidator) : slen (sValidator x) = 86 := rfl

theorem svValidator_newv (W : World) (o c : VValidator) : (svValidator ⟨W.heap.size, 0, none⟩ (.agg (cel (sValidator c)))).run Tryd.prog (W.alloc (.cells (cel (sValidator o)) 82)) = .ok () (W.alloc (.cells (cel (sValidator c)) 82)) :=
  run_storeVar_new W 82 _ _ (by rw [cel_size, slValidator]; kernel_rfl) (by rw [cel_size, cel_size, slValidator, slValidator]) (cel_one _)

/-- The value of nothing but zeros; the value that bytes are. -/
def oEth1 : VEth1 := ⟨fun _ => 0, 0, fun _ => 0⟩

def zEth1 : Nat → Int := zl7 [32, 8, 32]

theorem bsI_Eth1 (W : World) : (bsI 3 #[(0, .int .i64 32), (1, .int .i64 8), (2, .int .i64 32)]).run Tryd.prog W = .ok (.slice (some ⟨W.heap.size, 0, none⟩) 3 3) (W.alloc (.cells (vs .i64 3 zEth1) 3)) := by kernel_rfl

def svEth1 (a : Addr) (v : Value) : Sem Unit := storeVar 34 a v

theorem svEth1_eq (a : Addr) (v : Value) : storeVar 34 a v = svEth1 a v := rfl

def bdEth1 (ps : Array (Nat × Value)) : Sem Value := Instr.build 34 ps

theorem bdEth1_eq (ps : Array (Nat × Value)) : Instr.build 34 ps = bdEth1 ps := rfl

/-- The value of nothing but zeros; the value that bytes are. -/
def oHeader : VHeader := ⟨0, 0, fun _ => 0, fun _ => 0, fun _ => 0⟩

def zHeader : Nat → Int := zl7 [8, 8, 32, 32, 32]

theorem bsI_Header (W : World) : (bsI 5 #[(0, .int .i64 8), (1, .int .i64 8), (2, .int .i64 32), (3, .int .i64 32), (4, .int .i64 32)]).run Tryd.prog W = .ok (.slice (some ⟨W.heap.size, 0, none⟩) 5 5) (W.alloc (.cells (vs .i64 5 zHeader) 3)) := by kernel_rfl

def svHeader (a : Addr) (v : Value) : Sem Unit := storeVar 30 a v

theorem svHeader_eq (a : Addr) (v : Value) : storeVar 30 a v = svHeader a v := rfl

def bdHeader (ps : Array (Nat × Value)) : Sem Value := Instr.build 30 ps

theorem bdHeader_eq (ps : Array (Nat × Value)) : Instr.build 30 ps = bdHeader ps := rfl

end Go.Proofs.YtficlakgameglaaDoor
