/-
  What the containers of layer 7 share.
  What Root answers.
  What Root answers.
-/
import Derived.Test.YtmapeodhcllimaaDoorCoA
import Derived.Deep.Onto

namespace Go.Proofs.YtmapeodhcllimaaDoor

open Go.RowKit

set_option linter.unusedVariables false

set_option linter.unusedSimpArgs false

theorem sub_range {w : World} {g o : Nat} {C : Array Value} {t : TypeId} {l : List Value} (h : w.heap[g]? = some (.cells C t)) (hl : (C.toList.drop o).take l.length = l) : w.rangeAt g o l := by
  intro j v hj
  have hlt := (List.getElem?_eq_some_iff.1 hj).1
  rw [row_cell h, ← hj]
  have e : ((C.toList.drop o).take l.length)[j]? = l[j]? := by rw [hl]
  rw [List.getElem?_take_of_lt hlt, List.getElem?_drop, Array.getElem?_toList] at e
  exact e

def lvFork (a : Addr) : Sem Value := loadVar 28 a

theorem lvFork_eq (a : Addr) : loadVar 28 a = lvFork a := rfl

def lvCheckpoint (a : Addr) : Sem Value := loadVar 42 a

theorem lvCheckpoint_eq (a : Addr) : loadVar 42 a = lvCheckpoint a := rfl

def lvValidator (a : Addr) : Sem Value := loadVar 63 a

theorem lvValidator_eq (a : Addr) : loadVar 63 a = lvValidator a := rfl

def lvEth1 (a : Addr) : Sem Value := loadVar 34 a

theorem lvEth1_eq (a : Addr) : loadVar 34 a = lvEth1 a := rfl

def lvHeader (a : Addr) : Sem Value := loadVar 30 a

theorem lvHeader_eq (a : Addr) : loadVar 30 a = lvHeader a := rfl

def lvExit (a : Addr) : Sem Value := loadVar 66 a

theorem lvExit_eq (a : Addr) : loadVar 66 a = lvExit a := rfl

def lvDepositData (a : Addr) : Sem Value := loadVar 54 a

theorem lvDepositData_eq (a : Addr) : loadVar 54 a = lvDepositData a := rfl

theorem lvDepositData_mid {w : World} {g : Nat} {C : Array Value} {t : TypeId} {x : VDepositData} (h : w.heap[g]? = some (.cells C t)) (o : Nat) (hl : (C.toList.drop o).take (celL (sDepositData x)).length = celL (sDepositData x)) (hs : slen (sDepositData x) = 177) : (lvDepositData ⟨g, o, none⟩).run Tryd.prog w = .ok (.agg (cel (sDepositData x))) w :=
  loadAt_var (run_loadAt_mid w g o 54 _ _ (sub_range h hl) Tryd.underlying54 rfl (by rw [celL_len, hs]; kernel_rfl))

def lvSignedExit (a : Addr) : Sem Value := loadVar 68 a

theorem lvSignedExit_eq (a : Addr) : loadVar 68 a = lvSignedExit a := rfl

end Go.Proofs.YtmapeodhcllimaaDoor

namespace Go.Proofs.YtmapeodhcllimaaDoor

open Go.RowKit

set_option linter.unusedVariables false

set_option linter.unusedSimpArgs false

attribute [local go_sem ↓] sv24_eq lv24_eq ix22_eq slr_eq bd27_eq bs22_eq sv8_eq lvCheckpoint_eq lvHeader_eq lvExit_eq

end Go.Proofs.YtmapeodhcllimaaDoor

namespace Go.Proofs.YtmapeodhcllimaaDoor

open Go.RowKit

set_option linter.unusedVariables false

set_option linter.unusedSimpArgs false

/-- Roots one behind the other. -/
def fl7 (rs : List (Nat → Int)) (q : Nat) : Int := (rs.getD (q / 32) (fun _ => 0)) (q % 32)

theorem fl7_bd {rs : List (Nat → Int)} (h : ∀ c ∈ rs, ∀ j, j < 32 → 0 ≤ c j ∧ c j < 256) (n : Nat) : ByB (fl7 rs) n := fun q _ => by
  unfold fl7
  rw [List.getD_eq_getElem?_getD]
  cases e : rs[q / 32]? with
  | none => exact ⟨Int.le_refl _, by show (0 : Int) < 256; decide⟩
  | some c => exact h c (List.mem_of_getElem? e) _ (Nat.mod_lt _ (by decide))

theorem bs22_2 (W : World) (a b : Nat → Int) : (bs22 2 #[(0, .agg (vs .u8 32 a)), (1, .agg (vs .u8 32 b))]).run Tryd.prog W = .ok (.slice (some ⟨W.heap.size, 0, none⟩) 2 2) (W.alloc (.cells (vs .u8 64 (fl7 [a, b])) 24)) := by kernel_rfl

theorem bs22_4 (W : World) (a b c d : Nat → Int) : (bs22 4 #[(0, .agg (vs .u8 32 a)), (1, .agg (vs .u8 32 b)), (2, .agg (vs .u8 32 c)), (3, .agg (vs .u8 32 d))]).run Tryd.prog W = .ok (.slice (some ⟨W.heap.size, 0, none⟩) 4 4) (W.alloc (.cells (vs .u8 128 (fl7 [a, b, c, d])) 24)) := by kernel_rfl

/-- The root of a value. -/
def hExit (x : VExit) : Nat → Int := treeV (fl7 [bR (nmB x.f0) 8, bR (nmB x.f1) 8]) 2 (2 : Nat)

theorem hExit_bd {x : VExit} (hx : OkExit x) (j : Nat) (hj : j < 32) : 0 ≤ hExit x j ∧ hExit x j < 256 := by
  refine treeV_bd (fl7_bd (fun c hc => ?_) _) _ j hj
  simp only [List.mem_cons, List.not_mem_nil, or_false] at hc
  rcases hc with rfl | rfl
  · exact fun j hj => treeV_bd (pk_bd (fun j _ => nmB_bd _ j) _) _ j hj
  · exact fun j hj => treeV_bd (pk_bd (fun j _ => nmB_bd _ j) _) _ j hj

/-- The root of a value. -/
def hDepositData (x : VDepositData) : Nat → Int := treeV (fl7 [bR x.f0 48, bR x.f1 32, bR (nmB x.f2) 8, bR x.f3 96]) 4 (4 : Nat)

theorem hDepositData_bd {x : VDepositData} (hx : OkDepositData x) (j : Nat) (hj : j < 32) : 0 ≤ hDepositData x j ∧ hDepositData x j < 256 := by
  refine treeV_bd (fl7_bd (fun c hc => ?_) _) _ j hj
  simp only [List.mem_cons, List.not_mem_nil, or_false] at hc
  rcases hc with rfl | rfl | rfl | rfl
  · exact fun j hj => treeV_bd (pk_bd hx.1 _) _ j hj
  · exact fun j hj => treeV_bd (pk_bd hx.2.1 _) _ j hj
  · exact fun j hj => treeV_bd (pk_bd (fun j _ => nmB_bd _ j) _) _ j hj
  · exact fun j hj => treeV_bd (pk_bd hx.2.2.2 _) _ j hj

end Go.Proofs.YtmapeodhcllimaaDoor

namespace Go.Proofs.YtmapeodhcllimaaDoor

open Go.RowKit

set_option linter.unusedVariables false

set_option linter.unusedSimpArgs false

/-- The number that eight bytes are. -/
def rdN (f : Nat → Int) : Int := Z.num8 (f 0) (f 1) (f 2) (f 3) (f 4) (f 5) (f 6) (f 7)

theorem bys_at {w : World} {a : Option Addr} {n cap : Nat} {f : Nat → Int} (h : Bys w a n cap f) (hn : 0 < n) : ∃ b off, a = some ⟨b, off, none⟩ ∧ b < w.heap.size ∧ n ≤ cap ∧ ∀ j, j < n → w.cell? ⟨b, off + j, none⟩ = some (.int .u8 (f j)) := by
  rcases h with ⟨_, h, _⟩ | ⟨_, _, h⟩ | ⟨b, off, h1, h2, h3, h4, h5⟩
  · omega
  · omega
  · exact ⟨b, off, h1, h4, h2, h5⟩

end Go.Proofs.YtmapeodhcllimaaDoor

namespace Go.Proofs.YtmapeodhcllimaaDoor

open Go.RowKit

set_option linter.unusedVariables false

set_option linter.unusedSimpArgs false

attribute [local go_sem ↓] sv24_eq lv24_eq ix22_eq slr_eq bd27_eq bs22_eq sv8_eq

end Go.Proofs.YtmapeodhcllimaaDoor

namespace Go.Proofs.YtmapeodhcllimaaDoor

open Go.RowKit

set_option linter.unusedVariables false

set_option linter.unusedSimpArgs false

/-- The value of nothing but zeros; the value that bytes are. -/
def oFork : VFork := ⟨fun _ => 0, fun _ => 0, 0⟩

def svFork (a : Addr) (v : Value) : Sem Unit := storeVar 28 a v

theorem svFork_eq (a : Addr) (v : Value) : storeVar 28 a v = svFork a v := rfl

def bdFork (ps : Array (Nat × Value)) : Sem Value := Instr.build 28 ps

theorem bdFork_eq (ps : Array (Nat × Value)) : Instr.build 28 ps = bdFork ps := rfl

/-- The value of nothing but zeros; the value that bytes are. -/
def oCheckpoint : VCheckpoint := ⟨0, fun _ => 0⟩

def svCheckpoint (a : Addr) (v : Value) : Sem Unit := storeVar 42 a v

theorem svCheckpoint_eq (a : Addr) (v : Value) : storeVar 42 a v = svCheckpoint a v := rfl

def bdCheckpoint (ps : Array (Nat × Value)) : Sem Value := Instr.build 42 ps

theorem bdCheckpoint_eq (ps : Array (Nat × Value)) : Instr.build 42 ps = bdCheckpoint ps := rfl

/-- The value of nothing but zeros; the value that bytes are. -/
def oValidator : VValidator := ⟨fun _ => 0, fun _ => 0, 0, false, 0, 0, 0, 0⟩

def svValidator (a : Addr) (v : Value) : Sem Unit := storeVar 63 a v

theorem svValidator_eq (a : Addr) (v : Value) : storeVar 63 a v = svValidator a v := rfl

def bdValidator (ps : Array (Nat × Value)) : Sem Value := Instr.build 63 ps

theorem bdValidator_eq (ps : Array (Nat × Value)) : Instr.build 63 ps = bdValidator ps := rfl

theorem zeroValidator (W : World) : (zeroValue 63).run Tryd.prog W = .ok (.agg (cel (sValidator oValidator))) W := by kernel_rfl

theorem slValidator (x : VValidator) : slen (sValidator x) = 86 := rfl

theorem svValidator_run {w : World} {b : Nat} {o : VValidator} {t : TypeId} (h : w.heap[b]? = some (.cells (cel (sValidator o)) t)) (c : VValidator) : (svValidator ⟨b, 0, none⟩ (.agg (cel (sValidator c)))).run Tryd.prog w = .ok () (w.setRow b (cel (sValidator c))) :=
  run_storeVar_row w b t 63 _ _ h (by rw [cel_size, slValidator]; kernel_rfl) (by rw [cel_size, cel_size, slValidator, slValidator]) (cel_one _)

theorem svValidator_newv (W : World) (o c : VValidator) : (svValidator ⟨W.heap.size, 0, none⟩ (.agg (cel (sValidator c)))).run Tryd.prog (W.alloc (.cells (cel (sValidator o)) 63)) = .ok () (W.alloc (.cells (cel (sValidator c)) 63)) :=
  run_storeVar_new W 63 _ _ (by rw [cel_size, slValidator]; kernel_rfl) (by rw [cel_size, cel_size, slValidator, slValidator]) (cel_one _)

/-- The value of nothing but zeros; the value that bytes are. -/
def oEth1 : VEth1 := ⟨fun _ => 0, 0, fun _ => 0⟩

def svEth1 (a : Addr) (v : Value) : Sem Unit := storeVar 34 a v

theorem svEth1_eq (a : Addr) (v : Value) : storeVar 34 a v = svEth1 a v := rfl

def bdEth1 (ps : Array (Nat × Value)) : Sem Value := Instr.build 34 ps

theorem bdEth1_eq (ps : Array (Nat × Value)) : Instr.build 34 ps = bdEth1 ps := rfl

/-- The value of nothing but zeros; the value that bytes are. -/
def oHeader : VHeader := ⟨0, 0, fun _ => 0, fun _ => 0, fun _ => 0⟩

def svHeader (a : Addr) (v : Value) : Sem Unit := storeVar 30 a v

theorem svHeader_eq (a : Addr) (v : Value) : storeVar 30 a v = svHeader a v := rfl

def bdHeader (ps : Array (Nat × Value)) : Sem Value := Instr.build 30 ps

theorem bdHeader_eq (ps : Array (Nat × Value)) : Instr.build 30 ps = bdHeader ps := rfl

/-- The value of nothing but zeros; the value that bytes are. -/
def oExit : VExit := ⟨0, 0⟩

def svExit (a : Addr) (v : Value) : Sem Unit := storeVar 66 a v

theorem svExit_eq (a : Addr) (v : Value) : storeVar 66 a v = svExit a v := rfl

def bdExit (ps : Array (Nat × Value)) : Sem Value := Instr.build 66 ps

theorem bdExit_eq (ps : Array (Nat × Value)) : Instr.build 66 ps = bdExit ps := rfl

/-- The value of nothing but zeros; the value that bytes are. -/
def oDepositData : VDepositData := ⟨fun _ => 0, fun _ => 0, 0, fun _ => 0⟩

def svDepositData (a : Addr) (v : Value) : Sem Unit := storeVar 54 a v

theorem svDepositData_eq (a : Addr) (v : Value) : storeVar 54 a v = svDepositData a v := rfl

def bdDepositData (ps : Array (Nat × Value)) : Sem Value := Instr.build 54 ps

theorem bdDepositData_eq (ps : Array (Nat × Value)) : Instr.build 54 ps = bdDepositData ps := rfl

set_option maxRecDepth 20000 in
theorem slDepositData (x : VDepositData) : slen (sDepositData x) = 177 := rfl

/-- The value of nothing but zeros; the value that bytes are. -/
def oSignedExit : VSignedExit := ⟨oExit, fun _ => 0⟩

def svSignedExit (a : Addr) (v : Value) : Sem Unit := storeVar 68 a v

theorem svSignedExit_eq (a : Addr) (v : Value) : storeVar 68 a v = svSignedExit a v := rfl

def bdSignedExit (ps : Array (Nat × Value)) : Sem Value := Instr.build 68 ps

theorem bdSignedExit_eq (ps : Array (Nat × Value)) : Instr.build 68 ps = bdSignedExit ps := rfl

theorem bdSignedExit_0 (W : World) : (bdSignedExit #[]).run Tryd.prog W = .ok (.agg (cel (sSignedExit oSignedExit))) W := by kernel_rfl

end Go.Proofs.YtmapeodhcllimaaDoor

namespace Go.Proofs.YtmapeodhcllimaaDoor

open Go.RowKit

set_option linter.unusedVariables false

set_option linter.unusedSimpArgs false

attribute [local go_sem ↓] sv24_eq lv24_eq ix22_eq slr_eq bd27_eq bs22_eq sv8_eq lvCheckpoint_eq lvHeader_eq lvExit_eq

set_option maxRecDepth 20000 in
set_option maxHeartbeats 2000000 in
theorem rootExit_any (x : VExit) (w : World) (hx : OkExit x) (hS : Sh w) :
    Calls Tryd.prog 50 #[.agg (cel (sExit x))] w fun e w' => e = .returned (.agg (vs .u8 32 (hExit x))) ∧ Below w.heap.size w w' := by
  have z := zero_root
  obtain ⟨W1, hW1⟩ : ∃ W, w.alloc (.cells (cel (sExit x)) 66) = W := ⟨_, rfl⟩
  obtain ⟨W0, hW0⟩ : ∃ W, W1.alloc (.cells (vs .u8 32 fun _ => 0) 24) = W := ⟨_, rfl⟩
  have hB1 : Below w.heap.size w W1 := by rw [← hW1]; exact (Below.refl _ _).alloc (Nat.le_refl _) _
  have z1 : W1.heap.size = w.heap.size + 1 := by rw [← hW1]; simp
  have z0 : W0.heap.size = w.heap.size + 2 := by rw [← hW0]; simp [z1]
  have hB0 : Below w.heap.size w W0 := by rw [← hW0]; exact hB1.alloc (by omega) _
  have r1 : W1.heap[w.heap.size]? = some (.cells (cel (sExit x)) 66) := by rw [← hW1]; exact heap_new rfl
  have r0 : W0.heap[w.heap.size]? = some (.cells (cel (sExit x)) 66) := by rw [← hW0]; exact (heap_old (by omega)).trans r1
  have rr : W0.heap[w.heap.size + 1]? = some (.cells (vs .u8 32 fun _ => 0) 24) := by rw [← hW0]; exact heap_new (by omega)
  obtain ⟨y, ey⟩ : ∃ y, w.heap.size = y := ⟨_, rfl⟩
  have hy1 : y + 1 ≤ W0.heap.size := by omega
  have hry : ∀ X, Below (y + 1) W0 X → X.heap[y]? = some (.cells (cel (sExit x)) 66) := fun X h => by rw [← ey]; exact (h.block _ (by omega)).trans r0
  have hrr : ∀ X, Below W0.heap.size W0 X → X.heap[y + 1]? = some (.cells (vs .u8 32 fun _ => 0) 24) := fun X h => by rw [← ey]; exact (h.block _ (by omega)).trans rr
  have hSh : ∀ X, Below W0.heap.size W0 X → Sh X := fun X h => (hS.below hB0).below h
  have hc0 : ∀ X, Below W0.heap.size W0 X → Calls Tryd.prog 36 #[.int .u64 x.f0] X fun e w' => e = .returned (.agg (vs .u8 32 (bR (nmB x.f0) 8))) ∧ Below X.heap.size X w' := fun X h => nroot7 x.f0 X hx.1.1 hx.1.2 (hSh X h)
  have hd0 : ∀ j, j < 32 → 0 ≤ (bR (nmB x.f0) 8) j ∧ (bR (nmB x.f0) 8) j < 256 := fun j hj => treeV_bd (pk_bd (fun j _ => nmB_bd _ j) _) _ j hj
  have HL0 : Hid (∀ X, Below (y + 1) W0 X → X.cell? ⟨y, 0, none⟩ = some (.int .u64 x.f0)) := fun X h => seg_nu (hry X h) 0 x.f0 rfl 0 rfl
  have hc1 : ∀ X, Below W0.heap.size W0 X → Calls Tryd.prog 36 #[.int .u64 x.f1] X fun e w' => e = .returned (.agg (vs .u8 32 (bR (nmB x.f1) 8))) ∧ Below X.heap.size X w' := fun X h => nroot7 x.f1 X hx.2.1 hx.2.2 (hSh X h)
  have hd1 : ∀ j, j < 32 → 0 ≤ (bR (nmB x.f1) 8) j ∧ (bR (nmB x.f1) 8) j < 256 := fun j hj => treeV_bd (pk_bd (fun j _ => nmB_bd _ j) _) _ j hj
  have HL1 : Hid (∀ X, Below (y + 1) W0 X → X.cell? ⟨y, 1, none⟩ = some (.int .u64 x.f1)) := fun X h => seg_nu (hry X h) 1 x.f1 rfl 1 rfl
  have eh : hExit x = treeV (fl7 [bR (nmB x.f0) 8, bR (nmB x.f1) 8]) 2 (2 : Nat) := rfl
  obtain ⟨C0, eC0⟩ : ∃ C, bR (nmB x.f0) 8 = C := ⟨_, rfl⟩
  rw [eC0] at hc0 hd0 eh
  obtain ⟨C1, eC1⟩ : ∃ C, bR (nmB x.f1) 8 = C := ⟨_, rfl⟩
  rw [eC1] at hc1 hd1 eh
  have hro : ∀ X g, Below W0.heap.size W0 X → X.heap[g]? = some (.cells (vs .u8 64 (fl7 [C0, C1])) 24) → Calls Tryd.prog 34 #[.slice (some ⟨g, 0, none⟩) 2 2] X fun e w' => e = .returned (.agg (vs .u8 32 (hExit x))) ∧ Below X.heap.size X w' := fun X g h h2 => by
    rw [eh]
    exact rootof_any (some ⟨g, 0, none⟩) 2 2 (fl7 [C0, C1]) X (rts_row (n := 2) h2) (by omega) (fl7_bd (fun c hc => by
      simp only [List.mem_cons, List.not_mem_nil, or_false] at hc
      rcases hc with rfl | rfl
      · exact hd0
      · exact hd1
      ) _) (hSh X h)
  obtain ⟨D, eD⟩ : ∃ D, hExit x = D := ⟨_, rfl⟩
  rw [eD] at hro ⊢
  have HC0 := hid hc0
  have HC1 := hid hc1
  have HRO := hid hro
  have HRR := hid hrr
  have hdr : Below W0.heap.size W0 W0.drew := (Below.refl _ _).drew
  have S0 := hid hdr
  have HB0w := hid hB0
  have EY := hid ey
  have Z0 := hid z0
  have HY1 := hid hy1
  clear hy1 hdr hB0 r0 r1 rr hry hrr hx hro hSh hS hB1 hc0 hd0 eC0 hc1 hd1 eC1 eh eD
  go_enter Tryd.func50, Tryd.ntmps50
  go_upto_region 1 with fail
  clear hW0 hW1 ey z0 z1 z
  refine wp_region_noPanic ?_
  refine wp_region_held_drew (S := fun X => Below (y + 1) W0 X) (by kernel_rfl) (S0.out.mono HY1.out) (fun hHeld => ?_)
  refine tk 0 (v := ?v53) ?y53 hHeld ?r53
  case y53 => intro w hSw; go_simp; try with_reducible rfl
  refine tk 1 (v := ?v54) ?y54 hHeld ?r54
  case y54 => intro w hSw; have ld := HL0.out _ hSw; go_simp; try with_reducible rfl
  refine tk 3 (v := ?v55) ?y55 hHeld ?r55
  case y55 => intro w hSw; go_simp; try with_reducible rfl
  refine tk 4 (v := ?v56) ?y56 hHeld ?r56
  case y56 => intro w hSw; have ld := HL1.out _ hSw; go_simp; try with_reducible rfl
  try simp only [Act.put, List.setIfInBounds_toArray, List.set_cons_zero, List.set_cons_succ, Array.toArray_toList, List.getElem_toArray, List.getElem_cons_zero, List.getElem_cons_succ]
  refine wpAnyH_ready (rs := [2]) (by kernel_rfl) (by simp) ?_
  refine AllReadyH.cons rfl (fun K hK => ?_) AllReadyH.nil
  go_simp
  refine (HC0.out _ S0.out).mono ?_
  rintro e X1 ⟨rfl, hb1⟩
  dsimp only
  have S1 := hid (S0.out.trans (hb1.mono S0.out.size))
  clear hb1
  refine hK.out _ _ (S1.out.mono HY1.out) (fun hHeld => ?_)
  clear hK K
  try simp only [Act.put, List.setIfInBounds_toArray, List.set_cons_zero, List.set_cons_succ, Array.toArray_toList, List.getElem_toArray, List.getElem_cons_zero, List.getElem_cons_succ]
  refine wpAnyH_ready (rs := [5]) (by kernel_rfl) (by simp) ?_
  refine AllReadyH.cons rfl (fun K hK => ?_) AllReadyH.nil
  go_simp
  refine (HC1.out _ S1.out).mono ?_
  rintro e X2 ⟨rfl, hb2⟩
  dsimp only
  have S2 := hid (S1.out.trans (hb2.mono S1.out.size))
  clear hb2
  refine hK.out _ _ (S2.out.mono HY1.out) (fun hHeld => ?_)
  clear hK K
  try simp only [Act.put, List.setIfInBounds_toArray, List.set_cons_zero, List.set_cons_succ, Array.toArray_toList, List.getElem_toArray, List.getElem_cons_zero, List.getElem_cons_succ]
  have bs := bs22_2 X2 C0 C1
  have hBn : Below X2.heap.size X2 (X2.alloc (.cells (vs .u8 64 (fl7 [C0, C1])) 24)) := (Below.refl _ _).alloc (Nat.le_refl _) _
  have HBN := hid (S2.out.trans (hBn.mono S2.out.size))
  have HLA := hid (HRO.out (X2.alloc (.cells (vs .u8 64 (fl7 [C0, C1])) 24)) X2.heap.size HBN.out (heap_new rfl))
  clear hBn
  refine wpAnyH_ready (rs := [6]) (by kernel_rfl) (by simp) ?_
  refine AllReadyH.cons rfl (fun K hK => ?_) AllReadyH.nil
  go_simp
  refine hK.out _ _ (HBN.out.mono HY1.out) (fun hHeld => ?_)
  clear hK K bs
  try simp only [Act.put, List.setIfInBounds_toArray, List.set_cons_zero, List.set_cons_succ, Array.toArray_toList, List.getElem_toArray, List.getElem_cons_zero, List.getElem_cons_succ]
  refine wpAnyH_ready (rs := [7]) (by kernel_rfl) (by simp) ?_
  refine AllReadyH.cons rfl (fun K hK => ?_) AllReadyH.nil
  go_simp
  refine (HLA.out).mono ?_
  rintro e Y ⟨rfl, hbY⟩
  dsimp only
  have HY := hid (HBN.out.trans (hbY.mono HBN.out.size))
  clear hbY
  refine hK.out _ _ (HY.out.mono HY1.out) (fun hHeld => ?_)
  clear hK K
  try simp only [Act.put, List.setIfInBounds_toArray, List.set_cons_zero, List.set_cons_succ, Array.toArray_toList, List.getElem_toArray, List.getElem_cons_zero, List.getElem_cons_succ]
  have rY := HRR.out _ HY.out
  have s1 := sv24_run rY D
  have RY := hid rY
  clear rY
  refine wpAnyH_ready (rs := [8]) (by kernel_rfl) (by simp) ?_
  refine AllReadyH.cons rfl (fun K hK => ?_) AllReadyH.nil
  go_simp
  refine hK.out _ _ (below_row (HY.out.mono HY1.out) (Nat.le_refl _) _) (fun hHeld => ?_)
  clear hK K s1
  try simp only [Act.put, List.setIfInBounds_toArray, List.set_cons_zero, List.set_cons_succ, Array.toArray_toList, List.getElem_toArray, List.getElem_cons_zero, List.getElem_cons_succ]
  refine wpAnyH_done (by kernel_rfl) ?_ _
  refine NoPanic.normal ?_
  go_wp2
  refine ret24 _ (y + 1) _ 24 rfl rfl rfl (setRow_at RY.out) ⟨rfl, ?_⟩
  have e0 := EY.out
  have e1 := Z0.out
  exact below_row (HB0w.out.trans (HY.out.mono (by omega))) (by omega) _

end Go.Proofs.YtmapeodhcllimaaDoor

namespace Go.Proofs.YtmapeodhcllimaaDoor

open Go.RowKit

set_option linter.unusedVariables false

set_option linter.unusedSimpArgs false

attribute [local go_sem ↓] sv24_eq lv24_eq ix22_eq slr_eq bd27_eq bs22_eq sv8_eq lvCheckpoint_eq lvHeader_eq lvExit_eq

set_option maxRecDepth 20000 in
set_option maxHeartbeats 2000000 in
theorem rootDepositData_any (x : VDepositData) (w : World) (hx : OkDepositData x) (hS : Sh w) :
    Calls Tryd.prog 15 #[.agg (cel (sDepositData x))] w fun e w' => e = .returned (.agg (vs .u8 32 (hDepositData x))) ∧ Below w.heap.size w w' := by
  have z := zero_root
  obtain ⟨W1, hW1⟩ : ∃ W, w.alloc (.cells (cel (sDepositData x)) 54) = W := ⟨_, rfl⟩
  obtain ⟨W0, hW0⟩ : ∃ W, W1.alloc (.cells (vs .u8 32 fun _ => 0) 24) = W := ⟨_, rfl⟩
  have hB1 : Below w.heap.size w W1 := by rw [← hW1]; exact (Below.refl _ _).alloc (Nat.le_refl _) _
  have z1 : W1.heap.size = w.heap.size + 1 := by rw [← hW1]; simp
  have z0 : W0.heap.size = w.heap.size + 2 := by rw [← hW0]; simp [z1]
  have hB0 : Below w.heap.size w W0 := by rw [← hW0]; exact hB1.alloc (by omega) _
  have r1 : W1.heap[w.heap.size]? = some (.cells (cel (sDepositData x)) 54) := by rw [← hW1]; exact heap_new rfl
  have r0 : W0.heap[w.heap.size]? = some (.cells (cel (sDepositData x)) 54) := by rw [← hW0]; exact (heap_old (by omega)).trans r1
  have rr : W0.heap[w.heap.size + 1]? = some (.cells (vs .u8 32 fun _ => 0) 24) := by rw [← hW0]; exact heap_new (by omega)
  obtain ⟨y, ey⟩ : ∃ y, w.heap.size = y := ⟨_, rfl⟩
  have hy1 : y + 1 ≤ W0.heap.size := by omega
  have hry : ∀ X, Below (y + 1) W0 X → X.heap[y]? = some (.cells (cel (sDepositData x)) 54) := fun X h => by rw [← ey]; exact (h.block _ (by omega)).trans r0
  have hrr : ∀ X, Below W0.heap.size W0 X → X.heap[y + 1]? = some (.cells (vs .u8 32 fun _ => 0) 24) := fun X h => by rw [← ey]; exact (h.block _ (by omega)).trans rr
  have hSh : ∀ X, Below W0.heap.size W0 X → Sh X := fun X h => (hS.below hB0).below h
  have hc0 : ∀ X, Below W0.heap.size W0 X → Calls Tryd.prog 35 #[.slice (some ⟨y, 0, none⟩) 48 48] X fun e w' => e = .returned (.agg (vs .u8 32 (bR x.f0 48))) ∧ Below X.heap.size X w' := fun X h => broot_any _ 48 48 x.f0 X (seg_bys (hry X (h.mono hy1)) 0 48 x.f0 rfl 0 rfl (by omega)) (by omega) hx.1 (hSh X h)
  have hd0 : ∀ j, j < 32 → 0 ≤ (bR x.f0 48) j ∧ (bR x.f0 48) j < 256 := fun j hj => treeV_bd (pk_bd hx.1 _) _ j hj
  have hc1 : ∀ X, Below W0.heap.size W0 X → Calls Tryd.prog 35 #[.slice (some ⟨y, 48, none⟩) 32 32] X fun e w' => e = .returned (.agg (vs .u8 32 (bR x.f1 32))) ∧ Below X.heap.size X w' := fun X h => broot_any _ 32 32 x.f1 X (seg_bys (hry X (h.mono hy1)) 1 32 x.f1 rfl 48 rfl (by omega)) (by omega) hx.2.1 (hSh X h)
  have hd1 : ∀ j, j < 32 → 0 ≤ (bR x.f1 32) j ∧ (bR x.f1 32) j < 256 := fun j hj => treeV_bd (pk_bd hx.2.1 _) _ j hj
  have hc2 : ∀ X, Below W0.heap.size W0 X → Calls Tryd.prog 36 #[.int .u64 x.f2] X fun e w' => e = .returned (.agg (vs .u8 32 (bR (nmB x.f2) 8))) ∧ Below X.heap.size X w' := fun X h => nroot7 x.f2 X hx.2.2.1.1 hx.2.2.1.2 (hSh X h)
  have hd2 : ∀ j, j < 32 → 0 ≤ (bR (nmB x.f2) 8) j ∧ (bR (nmB x.f2) 8) j < 256 := fun j hj => treeV_bd (pk_bd (fun j _ => nmB_bd _ j) _) _ j hj
  have HL2 : Hid (∀ X, Below (y + 1) W0 X → X.cell? ⟨y, 80, none⟩ = some (.int .u64 x.f2)) := fun X h => seg_nu (hry X h) 2 x.f2 rfl 80 rfl
  have hc3 : ∀ X, Below W0.heap.size W0 X → Calls Tryd.prog 35 #[.slice (some ⟨y, 81, none⟩) 96 96] X fun e w' => e = .returned (.agg (vs .u8 32 (bR x.f3 96))) ∧ Below X.heap.size X w' := fun X h => broot_any _ 96 96 x.f3 X (seg_bys (hry X (h.mono hy1)) 3 96 x.f3 rfl 81 rfl (by omega)) (by omega) hx.2.2.2 (hSh X h)
  have hd3 : ∀ j, j < 32 → 0 ≤ (bR x.f3 96) j ∧ (bR x.f3 96) j < 256 := fun j hj => treeV_bd (pk_bd hx.2.2.2 _) _ j hj
  have eh : hDepositData x = treeV (fl7 [bR x.f0 48, bR x.f1 32, bR (nmB x.f2) 8, bR x.f3 96]) 4 (4 : Nat) := rfl
  obtain ⟨C0, eC0⟩ : ∃ C, bR x.f0 48 = C := ⟨_, rfl⟩
  rw [eC0] at hc0 hd0 eh
  obtain ⟨C1, eC1⟩ : ∃ C, bR x.f1 32 = C := ⟨_, rfl⟩
  rw [eC1] at hc1 hd1 eh
  obtain ⟨C2, eC2⟩ : ∃ C, bR (nmB x.f2) 8 = C := ⟨_, rfl⟩
  rw [eC2] at hc2 hd2 eh
  obtain ⟨C3, eC3⟩ : ∃ C, bR x.f3 96 = C := ⟨_, rfl⟩
  rw [eC3] at hc3 hd3 eh
  have hro : ∀ X g, Below W0.heap.size W0 X → X.heap[g]? = some (.cells (vs .u8 128 (fl7 [C0, C1, C2, C3])) 24) → Calls Tryd.prog 34 #[.slice (some ⟨g, 0, none⟩) 4 4] X fun e w' => e = .returned (.agg (vs .u8 32 (hDepositData x))) ∧ Below X.heap.size X w' := fun X g h h2 => by
    rw [eh]
    exact rootof_any (some ⟨g, 0, none⟩) 4 4 (fl7 [C0, C1, C2, C3]) X (rts_row (n := 4) h2) (by omega) (fl7_bd (fun c hc => by
      simp only [List.mem_cons, List.not_mem_nil, or_false] at hc
      rcases hc with rfl | rfl | rfl | rfl
      · exact hd0
      · exact hd1
      · exact hd2
      · exact hd3
      ) _) (hSh X h)
  obtain ⟨D, eD⟩ : ∃ D, hDepositData x = D := ⟨_, rfl⟩
  rw [eD] at hro ⊢
  have HC0 := hid hc0
  have HC1 := hid hc1
  have HC2 := hid hc2
  have HC3 := hid hc3
  have HRO := hid hro
  have HRR := hid hrr
  have hdr : Below W0.heap.size W0 W0.drew := (Below.refl _ _).drew
  have S0 := hid hdr
  have HB0w := hid hB0
  have EY := hid ey
  have Z0 := hid z0
  have HY1 := hid hy1
  clear hy1 hdr hB0 r0 r1 rr hry hrr hx hro hSh hS hB1 hc0 hd0 eC0 hc1 hd1 eC1 hc2 hd2 eC2 hc3 hd3 eC3 eh eD
  go_enter Tryd.func15, Tryd.ntmps15
  go_upto_region 1 with fail
  clear hW0 hW1 ey z0 z1 z
  refine wp_region_noPanic ?_
  refine wp_region_held_drew (S := fun X => Below (y + 1) W0 X) (by kernel_rfl) (S0.out.mono HY1.out) (fun hHeld => ?_)
  refine tk 0 (v := ?v61) ?y61 hHeld ?r61
  case y61 => intro w hSw; go_simp; try with_reducible rfl
  refine tk 1 (v := ?v62) ?y62 hHeld ?r62
  case y62 => intro w hSw; go_simp; try with_reducible rfl
  refine tk 3 (v := ?v63) ?y63 hHeld ?r63
  case y63 => intro w hSw; go_simp; try with_reducible rfl
  refine tk 4 (v := ?v64) ?y64 hHeld ?r64
  case y64 => intro w hSw; go_simp; try with_reducible rfl
  refine tk 6 (v := ?v65) ?y65 hHeld ?r65
  case y65 => intro w hSw; go_simp; try with_reducible rfl
  refine tk 7 (v := ?v66) ?y66 hHeld ?r66
  case y66 => intro w hSw; have ld := HL2.out _ hSw; go_simp; try with_reducible rfl
  refine tk 9 (v := ?v67) ?y67 hHeld ?r67
  case y67 => intro w hSw; go_simp; try with_reducible rfl
  refine tk 10 (v := ?v68) ?y68 hHeld ?r68
  case y68 => intro w hSw; go_simp; try with_reducible rfl
  try simp only [Act.put, List.setIfInBounds_toArray, List.set_cons_zero, List.set_cons_succ, Array.toArray_toList, List.getElem_toArray, List.getElem_cons_zero, List.getElem_cons_succ]
  refine wpAnyH_ready (rs := [2]) (by kernel_rfl) (by simp) ?_
  refine AllReadyH.cons rfl (fun K hK => ?_) AllReadyH.nil
  go_simp
  refine (HC0.out _ S0.out).mono ?_
  rintro e X1 ⟨rfl, hb1⟩
  dsimp only
  have S1 := hid (S0.out.trans (hb1.mono S0.out.size))
  clear hb1
  refine hK.out _ _ (S1.out.mono HY1.out) (fun hHeld => ?_)
  clear hK K
  try simp only [Act.put, List.setIfInBounds_toArray, List.set_cons_zero, List.set_cons_succ, Array.toArray_toList, List.getElem_toArray, List.getElem_cons_zero, List.getElem_cons_succ]
  refine wpAnyH_ready (rs := [5]) (by kernel_rfl) (by simp) ?_
  refine AllReadyH.cons rfl (fun K hK => ?_) AllReadyH.nil
  go_simp
  refine (HC1.out _ S1.out).mono ?_
  rintro e X2 ⟨rfl, hb2⟩
  dsimp only
  have S2 := hid (S1.out.trans (hb2.mono S1.out.size))
  clear hb2
  refine hK.out _ _ (S2.out.mono HY1.out) (fun hHeld => ?_)
  clear hK K
  try simp only [Act.put, List.setIfInBounds_toArray, List.set_cons_zero, List.set_cons_succ, Array.toArray_toList, List.getElem_toArray, List.getElem_cons_zero, List.getElem_cons_succ]
  refine wpAnyH_ready (rs := [8]) (by kernel_rfl) (by simp) ?_
  refine AllReadyH.cons rfl (fun K hK => ?_) AllReadyH.nil
  go_simp
  refine (HC2.out _ S2.out).mono ?_
  rintro e X3 ⟨rfl, hb3⟩
  dsimp only
  have S3 := hid (S2.out.trans (hb3.mono S2.out.size))
  clear hb3
  refine hK.out _ _ (S3.out.mono HY1.out) (fun hHeld => ?_)
  clear hK K
  try simp only [Act.put, List.setIfInBounds_toArray, List.set_cons_zero, List.set_cons_succ, Array.toArray_toList, List.getElem_toArray, List.getElem_cons_zero, List.getElem_cons_succ]
  refine wpAnyH_ready (rs := [11]) (by kernel_rfl) (by simp) ?_
  refine AllReadyH.cons rfl (fun K hK => ?_) AllReadyH.nil
  go_simp
  refine (HC3.out _ S3.out).mono ?_
  rintro e X4 ⟨rfl, hb4⟩
  dsimp only
  have S4 := hid (S3.out.trans (hb4.mono S3.out.size))
  clear hb4
  refine hK.out _ _ (S4.out.mono HY1.out) (fun hHeld => ?_)
  clear hK K
  try simp only [Act.put, List.setIfInBounds_toArray, List.set_cons_zero, List.set_cons_succ, Array.toArray_toList, List.getElem_toArray, List.getElem_cons_zero, List.getElem_cons_succ]
  have bs := bs22_4 X4 C0 C1 C2 C3
  have hBn : Below X4.heap.size X4 (X4.alloc (.cells (vs .u8 128 (fl7 [C0, C1, C2, C3])) 24)) := (Below.refl _ _).alloc (Nat.le_refl _) _
  have HBN := hid (S4.out.trans (hBn.mono S4.out.size))
  have HLA := hid (HRO.out (X4.alloc (.cells (vs .u8 128 (fl7 [C0, C1, C2, C3])) 24)) X4.heap.size HBN.out (heap_new rfl))
  clear hBn
  refine wpAnyH_ready (rs := [12]) (by kernel_rfl) (by simp) ?_
  refine AllReadyH.cons rfl (fun K hK => ?_) AllReadyH.nil
  go_simp
  refine hK.out _ _ (HBN.out.mono HY1.out) (fun hHeld => ?_)
  clear hK K bs
  try simp only [Act.put, List.setIfInBounds_toArray, List.set_cons_zero, List.set_cons_succ, Array.toArray_toList, List.getElem_toArray, List.getElem_cons_zero, List.getElem_cons_succ]
  refine wpAnyH_ready (rs := [13]) (by kernel_rfl) (by simp) ?_
  refine AllReadyH.cons rfl (fun K hK => ?_) AllReadyH.nil
  go_simp
  refine (HLA.out).mono ?_
  rintro e Y ⟨rfl, hbY⟩
  dsimp only
  have HY := hid (HBN.out.trans (hbY.mono HBN.out.size))
  clear hbY
  refine hK.out _ _ (HY.out.mono HY1.out) (fun hHeld => ?_)
  clear hK K
  try simp only [Act.put, List.setIfInBounds_toArray, List.set_cons_zero, List.set_cons_succ, Array.toArray_toList, List.getElem_toArray, List.getElem_cons_zero, List.getElem_cons_succ]
  have rY := HRR.out _ HY.out
  have s1 := sv24_run rY D
  have RY := hid rY
  clear rY
  refine wpAnyH_ready (rs := [14]) (by kernel_rfl) (by simp) ?_
  refine AllReadyH.cons rfl (fun K hK => ?_) AllReadyH.nil
  go_simp
  refine hK.out _ _ (below_row (HY.out.mono HY1.out) (Nat.le_refl _) _) (fun hHeld => ?_)
  clear hK K s1
  try simp only [Act.put, List.setIfInBounds_toArray, List.set_cons_zero, List.set_cons_succ, Array.toArray_toList, List.getElem_toArray, List.getElem_cons_zero, List.getElem_cons_succ]
  refine wpAnyH_done (by kernel_rfl) ?_ _
  refine NoPanic.normal ?_
  go_wp2
  refine ret24 _ (y + 1) _ 24 rfl rfl rfl (setRow_at RY.out) ⟨rfl, ?_⟩
  have e0 := EY.out
  have e1 := Z0.out
  exact below_row (HB0w.out.trans (HY.out.mono (by omega))) (by omega) _

end Go.Proofs.YtmapeodhcllimaaDoor
