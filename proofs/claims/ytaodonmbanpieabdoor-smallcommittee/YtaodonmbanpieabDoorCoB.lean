/-
  What the containers of layer 7 share.
-/
import Derived.Deep.Onto
import Derived.Test.YtaodonmbanpieabDoorCoA
namespace Go.Proofs.YtaodonmbanpieabDoor
open Go.RowKit
set_option linter.unusedVariables false
set_option linter.unusedSimpArgs false

theorem sub_range {w : World} {g o : Nat} {C : Array Value} {t : TypeId} {l : List Value} (h : w.heap[g]? = some (.cells C t)) (hl : (C.toList.drop o).take l.length = l) : w.rangeAt g o l := by
  intro j v hj
  have hlt := (List.getElem?_eq_some_iff.1 hj).1
  rw [row_cell h, ← hj]
  have e : ((C.toList.drop o).take l.length)[j]? = l[j]? := by rw [hl]
  rw [List.getElem?_take_of_lt hlt, List.getElem?_drop, Array.getElem?_toList] at e
  exact e

def lvFork (a : Addr) : Sem Value := loadVar 99 a

theorem lvFork_eq (a : Addr) : loadVar 99 a = lvFork a := rfl

theorem lvFork_mid {w : World} {g : Nat} {C : Array Value} {t : TypeId} {x : VFork} (h : w.heap[g]? = some (.cells C t)) (o : Nat) (hl : (C.toList.drop o).take (celL (sFork x)).length = celL (sFork x)) (hs : slen (sFork x) = 9) : (lvFork ⟨g, o, none⟩).run Tryd.prog w = .ok (.agg (cel (sFork x))) w :=
  loadAt_var (run_loadAt_mid w g o 99 _ _ (sub_range h hl) Tryd.underlying99 rfl (by rw [celL_len, hs]; kernel_rfl))

def lvValidator (a : Addr) : Sem Value := loadVar 94 a

theorem lvValidator_eq (a : Addr) : loadVar 94 a = lvValidator a := rfl

theorem lvValidator_mid {w : World} {g : Nat} {C : Array Value} {t : TypeId} {x : VValidator} (h : w.heap[g]? = some (.cells C t)) (o : Nat) (hl : (C.toList.drop o).take (celL (sValidator x)).length = celL (sValidator x)) (hs : slen (sValidator x) = 86) : (lvValidator ⟨g, o, none⟩).run Tryd.prog w = .ok (.agg (cel (sValidator x))) w :=
  loadAt_var (run_loadAt_mid w g o 94 _ _ (sub_range h hl) Tryd.underlying94 rfl (by rw [celL_len, hs]; kernel_rfl))

def lvHeader (a : Addr) : Sem Value := loadVar 26 a

theorem lvHeader_eq (a : Addr) : loadVar 26 a = lvHeader a := rfl

theorem lvHeader_mid {w : World} {g : Nat} {C : Array Value} {t : TypeId} {x : VHeader} (h : w.heap[g]? = some (.cells C t)) (o : Nat) (hl : (C.toList.drop o).take (celL (sHeader x)).length = celL (sHeader x)) (hs : slen (sHeader x) = 98) : (lvHeader ⟨g, o, none⟩).run Tryd.prog w = .ok (.agg (cel (sHeader x))) w :=
  loadAt_var (run_loadAt_mid w g o 26 _ _ (sub_range h hl) Tryd.underlying26 rfl (by rw [celL_len, hs]; kernel_rfl))

def lvExit (a : Addr) : Sem Value := loadVar 55 a

theorem lvExit_eq (a : Addr) : loadVar 55 a = lvExit a := rfl

theorem lvExit_mid {w : World} {g : Nat} {C : Array Value} {t : TypeId} {x : VExit} (h : w.heap[g]? = some (.cells C t)) (o : Nat) (hl : (C.toList.drop o).take (celL (sExit x)).length = celL (sExit x)) (hs : slen (sExit x) = 2) : (lvExit ⟨g, o, none⟩).run Tryd.prog w = .ok (.agg (cel (sExit x))) w :=
  loadAt_var (run_loadAt_mid w g o 55 _ _ (sub_range h hl) Tryd.underlying55 rfl (by rw [celL_len, hs]; kernel_rfl))

def lvSignedHeader (a : Addr) : Sem Value := loadVar 30 a

theorem lvSignedHeader_eq (a : Addr) : loadVar 30 a = lvSignedHeader a := rfl

theorem lvSignedHeader_mid {w : World} {g : Nat} {C : Array Value} {t : TypeId} {x : VSignedHeader} (h : w.heap[g]? = some (.cells C t)) (o : Nat) (hl : (C.toList.drop o).take (celL (sSignedHeader x)).length = celL (sSignedHeader x)) (hs : slen (sSignedHeader x) = 194) : (lvSignedHeader ⟨g, o, none⟩).run Tryd.prog w = .ok (.agg (cel (sSignedHeader x))) w :=
  loadAt_var (run_loadAt_mid w g o 30 _ _ (sub_range h hl) Tryd.underlying30 rfl (by rw [celL_len, hs]; kernel_rfl))

def lvDepositData (a : Addr) : Sem Value := loadVar 46 a

theorem lvDepositData_eq (a : Addr) : loadVar 46 a = lvDepositData a := rfl

theorem lvDepositData_mid {w : World} {g : Nat} {C : Array Value} {t : TypeId} {x : VDepositData} (h : w.heap[g]? = some (.cells C t)) (o : Nat) (hl : (C.toList.drop o).take (celL (sDepositData x)).length = celL (sDepositData x)) (hs : slen (sDepositData x) = 177) : (lvDepositData ⟨g, o, none⟩).run Tryd.prog w = .ok (.agg (cel (sDepositData x))) w :=
  loadAt_var (run_loadAt_mid w g o 46 _ _ (sub_range h hl) Tryd.underlying46 rfl (by rw [celL_len, hs]; kernel_rfl))

def lvSignedExit (a : Addr) : Sem Value := loadVar 64 a

theorem lvSignedExit_eq (a : Addr) : loadVar 64 a = lvSignedExit a := rfl

theorem lvSignedExit_mid {w : World} {g : Nat} {C : Array Value} {t : TypeId} {x : VSignedExit} (h : w.heap[g]? = some (.cells C t)) (o : Nat) (hl : (C.toList.drop o).take (celL (sSignedExit x)).length = celL (sSignedExit x)) (hs : slen (sSignedExit x) = 98) : (lvSignedExit ⟨g, o, none⟩).run Tryd.prog w = .ok (.agg (cel (sSignedExit x))) w :=
  loadAt_var (run_loadAt_mid w g o 64 _ _ (sub_range h hl) Tryd.underlying64 rfl (by rw [celL_len, hs]; kernel_rfl))

end Go.Proofs.YtaodonmbanpieabDoor
namespace Go.Proofs.YtaodonmbanpieabDoor
open Go.RowKit
set_option linter.unusedVariables false
set_option linter.unusedSimpArgs false

attribute [local go_sem ↓] sv24_eq lv24_eq ix22_eq slr_eq bd27_eq bs22_eq sv8_eq mkI_eq ixI_eq ixP_eq bsP_eq lvHeader_eq lvExit_eq

theorem bbytes_any (b : Bool) (w : World) : Calls Tryd.prog 75 #[.bool b] w fun e w' => ∃ g, e = .returned (.slice (some ⟨g, 0, none⟩) 1 1) ∧ Below w.heap.size w w' ∧ Bys w' (some ⟨g, 0, none⟩) 1 1 (bbB b) := by
  cases b with
  | true =>
    go_enter Tryd.func75, Tryd.ntmps75
    go_wp2
    go_ret
    exact ⟨w.heap.size, rfl, (Below.refl _ _).alloc (Nat.le_refl _) _, .inr (.inr ⟨w.heap.size, 0, rfl, Nat.le_refl _, by omega, by simp, fun j hj => by
      obtain rfl : j = 0 := by omega
      exact row_cell (heap_new rfl) 0⟩)⟩
  | false =>
    go_enter Tryd.func75, Tryd.ntmps75
    go_wp2
    go_ret
    exact ⟨w.heap.size, rfl, (Below.refl _ _).alloc (Nat.le_refl _) _, .inr (.inr ⟨w.heap.size, 0, rfl, Nat.le_refl _, by omega, by simp, fun j hj => by
      obtain rfl : j = 0 := by omega
      exact row_cell (heap_new rfl) 0⟩)⟩

end Go.Proofs.YtaodonmbanpieabDoor
namespace Go.Proofs.YtaodonmbanpieabDoor
open Go.RowKit
set_option linter.unusedVariables false
set_option linter.unusedSimpArgs false

/-- Roots one behind the other. -/
def fl7 (rs : List (Nat → Int)) (q : Nat) : Int := (rs.getD (q / 32) (fun _ => 0)) (q % 32)

theorem fl7_bd {rs : List (Nat → Int)} (h : ∀ c ∈ rs, ∀ j, j < 32 → 0 ≤ c j ∧ c j < 256) (n : Nat) : ByB (fl7 rs) n := fun q _ => by
  unfold fl7
  rw [List.getD_eq_getElem?_getD]
  cases e : rs[q / 32]? with
  | none => exact ⟨Int.le_refl _, by show (0 : Int) < 256; decide⟩
  | some c => exact h c (List.mem_of_getElem? e) _ (Nat.mod_lt _ (by decide))

theorem bbB_bd (b : Bool) (j : Nat) : 0 ≤ bbB b j ∧ bbB b j < 256 := by
  unfold bbB
  cases b
  · exact ⟨by decide, by decide⟩
  · exact ⟨by decide, by decide⟩

theorem bs22_2 (W : World) (a b : Nat → Int) : (bs22 2 #[(0, .agg (vs .u8 32 a)), (1, .agg (vs .u8 32 b))]).run Tryd.prog W = .ok (.slice (some ⟨W.heap.size, 0, none⟩) 2 2) (W.alloc (.cells (vs .u8 64 (fl7 [a, b])) 24)) := by kernel_rfl

theorem bs22_3 (W : World) (a b c : Nat → Int) : (bs22 3 #[(0, .agg (vs .u8 32 a)), (1, .agg (vs .u8 32 b)), (2, .agg (vs .u8 32 c))]).run Tryd.prog W = .ok (.slice (some ⟨W.heap.size, 0, none⟩) 3 3) (W.alloc (.cells (vs .u8 96 (fl7 [a, b, c])) 24)) := by kernel_rfl

theorem bs22_4 (W : World) (a b c d : Nat → Int) : (bs22 4 #[(0, .agg (vs .u8 32 a)), (1, .agg (vs .u8 32 b)), (2, .agg (vs .u8 32 c)), (3, .agg (vs .u8 32 d))]).run Tryd.prog W = .ok (.slice (some ⟨W.heap.size, 0, none⟩) 4 4) (W.alloc (.cells (vs .u8 128 (fl7 [a, b, c, d])) 24)) := by kernel_rfl

theorem bs22_5 (W : World) (a b c d e : Nat → Int) : (bs22 5 #[(0, .agg (vs .u8 32 a)), (1, .agg (vs .u8 32 b)), (2, .agg (vs .u8 32 c)), (3, .agg (vs .u8 32 d)), (4, .agg (vs .u8 32 e))]).run Tryd.prog W = .ok (.slice (some ⟨W.heap.size, 0, none⟩) 5 5) (W.alloc (.cells (vs .u8 160 (fl7 [a, b, c, d, e])) 24)) := by kernel_rfl

theorem bs22_8 (W : World) (a b c d e f g h : Nat → Int) : (bs22 8 #[(0, .agg (vs .u8 32 a)), (1, .agg (vs .u8 32 b)), (2, .agg (vs .u8 32 c)), (3, .agg (vs .u8 32 d)), (4, .agg (vs .u8 32 e)), (5, .agg (vs .u8 32 f)), (6, .agg (vs .u8 32 g)), (7, .agg (vs .u8 32 h))]).run Tryd.prog W = .ok (.slice (some ⟨W.heap.size, 0, none⟩) 8 8) (W.alloc (.cells (vs .u8 256 (fl7 [a, b, c, d, e, f, g, h])) 24)) := by kernel_rfl

/-- The root of a value. -/
def hFork (x : VFork) : Nat → Int := treeV (fl7 [bR x.f0 4, bR x.f1 4, bR (nmB x.f2) 8]) 3 (3 : Nat)

theorem hFork_bd {x : VFork} (hx : OkFork x) (j : Nat) (hj : j < 32) : 0 ≤ hFork x j ∧ hFork x j < 256 := by
  refine treeV_bd (fl7_bd (fun c hc => ?_) _) _ j hj
  simp only [List.mem_cons, List.not_mem_nil, or_false] at hc
  rcases hc with rfl | rfl | rfl
  · exact fun j hj => treeV_bd (pk_bd hx.1 _) _ j hj
  · exact fun j hj => treeV_bd (pk_bd hx.2.1 _) _ j hj
  · exact fun j hj => treeV_bd (pk_bd (fun j _ => nmB_bd _ j) _) _ j hj

/-- The root of a value. -/
def hCheckpoint (x : VCheckpoint) : Nat → Int := treeV (fl7 [bR (nmB x.f0) 8, bR x.f1 32]) 2 (2 : Nat)

theorem hCheckpoint_bd {x : VCheckpoint} (hx : OkCheckpoint x) (j : Nat) (hj : j < 32) : 0 ≤ hCheckpoint x j ∧ hCheckpoint x j < 256 := by
  refine treeV_bd (fl7_bd (fun c hc => ?_) _) _ j hj
  simp only [List.mem_cons, List.not_mem_nil, or_false] at hc
  rcases hc with rfl | rfl
  · exact fun j hj => treeV_bd (pk_bd (fun j _ => nmB_bd _ j) _) _ j hj
  · exact fun j hj => treeV_bd (pk_bd hx.2 _) _ j hj

/-- The root of a value. -/
def hValidator (x : VValidator) : Nat → Int := treeV (fl7 [bR x.f0 48, bR x.f1 32, bR (nmB x.f2) 8, bR (bbB x.f3) 1, bR (nmB x.f4) 8, bR (nmB x.f5) 8, bR (nmB x.f6) 8, bR (nmB x.f7) 8]) 8 (8 : Nat)

theorem hValidator_bd {x : VValidator} (hx : OkValidator x) (j : Nat) (hj : j < 32) : 0 ≤ hValidator x j ∧ hValidator x j < 256 := by
  refine treeV_bd (fl7_bd (fun c hc => ?_) _) _ j hj
  simp only [List.mem_cons, List.not_mem_nil, or_false] at hc
  rcases hc with rfl | rfl | rfl | rfl | rfl | rfl | rfl | rfl
  · exact fun j hj => treeV_bd (pk_bd hx.1 _) _ j hj
  · exact fun j hj => treeV_bd (pk_bd hx.2.1 _) _ j hj
  · exact fun j hj => treeV_bd (pk_bd (fun j _ => nmB_bd _ j) _) _ j hj
  · exact fun j hj => treeV_bd (pk_bd (fun j _ => bbB_bd _ j) _) _ j hj
  · exact fun j hj => treeV_bd (pk_bd (fun j _ => nmB_bd _ j) _) _ j hj
  · exact fun j hj => treeV_bd (pk_bd (fun j _ => nmB_bd _ j) _) _ j hj
  · exact fun j hj => treeV_bd (pk_bd (fun j _ => nmB_bd _ j) _) _ j hj
  · exact fun j hj => treeV_bd (pk_bd (fun j _ => nmB_bd _ j) _) _ j hj

/-- The root of a value. -/
def hData (x : VData) : Nat → Int := treeV (fl7 [bR (nmB x.f0) 8, bR (nmB x.f1) 8, bR x.f2 32, hCheckpoint x.f3, hCheckpoint x.f4]) 5 (5 : Nat)

theorem hData_bd {x : VData} (hx : OkData x) (j : Nat) (hj : j < 32) : 0 ≤ hData x j ∧ hData x j < 256 := by
  refine treeV_bd (fl7_bd (fun c hc => ?_) _) _ j hj
  simp only [List.mem_cons, List.not_mem_nil, or_false] at hc
  rcases hc with rfl | rfl | rfl | rfl | rfl
  · exact fun j hj => treeV_bd (pk_bd (fun j _ => nmB_bd _ j) _) _ j hj
  · exact fun j hj => treeV_bd (pk_bd (fun j _ => nmB_bd _ j) _) _ j hj
  · exact fun j hj => treeV_bd (pk_bd hx.2.2.1 _) _ j hj
  · exact fun j hj => hCheckpoint_bd hx.2.2.2.1 j hj
  · exact fun j hj => hCheckpoint_bd hx.2.2.2.2 j hj

/-- The root of a value. -/
def hEth1 (x : VEth1) : Nat → Int := treeV (fl7 [bR x.f0 32, bR (nmB x.f1) 8, bR x.f2 32]) 3 (3 : Nat)

theorem hEth1_bd {x : VEth1} (hx : OkEth1 x) (j : Nat) (hj : j < 32) : 0 ≤ hEth1 x j ∧ hEth1 x j < 256 := by
  refine treeV_bd (fl7_bd (fun c hc => ?_) _) _ j hj
  simp only [List.mem_cons, List.not_mem_nil, or_false] at hc
  rcases hc with rfl | rfl | rfl
  · exact fun j hj => treeV_bd (pk_bd hx.1 _) _ j hj
  · exact fun j hj => treeV_bd (pk_bd (fun j _ => nmB_bd _ j) _) _ j hj
  · exact fun j hj => treeV_bd (pk_bd hx.2.2 _) _ j hj

/-- The root of a value. -/
def hHeader (x : VHeader) : Nat → Int := treeV (fl7 [bR (nmB x.f0) 8, bR (nmB x.f1) 8, bR x.f2 32, bR x.f3 32, bR x.f4 32]) 5 (5 : Nat)

theorem hHeader_bd {x : VHeader} (hx : OkHeader x) (j : Nat) (hj : j < 32) : 0 ≤ hHeader x j ∧ hHeader x j < 256 := by
  refine treeV_bd (fl7_bd (fun c hc => ?_) _) _ j hj
  simp only [List.mem_cons, List.not_mem_nil, or_false] at hc
  rcases hc with rfl | rfl | rfl | rfl | rfl
  · exact fun j hj => treeV_bd (pk_bd (fun j _ => nmB_bd _ j) _) _ j hj
  · exact fun j hj => treeV_bd (pk_bd (fun j _ => nmB_bd _ j) _) _ j hj
  · exact fun j hj => treeV_bd (pk_bd hx.2.2.1 _) _ j hj
  · exact fun j hj => treeV_bd (pk_bd hx.2.2.2.1 _) _ j hj
  · exact fun j hj => treeV_bd (pk_bd hx.2.2.2.2 _) _ j hj

/-- The root of a value. -/
def hExit (x : VExit) : Nat → Int := treeV (fl7 [bR (nmB x.f0) 8, bR (nmB x.f1) 8]) 2 (2 : Nat)

theorem hExit_bd {x : VExit} (hx : OkExit x) (j : Nat) (hj : j < 32) : 0 ≤ hExit x j ∧ hExit x j < 256 := by
  refine treeV_bd (fl7_bd (fun c hc => ?_) _) _ j hj
  simp only [List.mem_cons, List.not_mem_nil, or_false] at hc
  rcases hc with rfl | rfl
  · exact fun j hj => treeV_bd (pk_bd (fun j _ => nmB_bd _ j) _) _ j hj
  · exact fun j hj => treeV_bd (pk_bd (fun j _ => nmB_bd _ j) _) _ j hj

/-- The root of a value. -/
def hSignedHeader (x : VSignedHeader) : Nat → Int := treeV (fl7 [hHeader x.f0, bR x.f1 96]) 2 (2 : Nat)

theorem hSignedHeader_bd {x : VSignedHeader} (hx : OkSignedHeader x) (j : Nat) (hj : j < 32) : 0 ≤ hSignedHeader x j ∧ hSignedHeader x j < 256 := by
  refine treeV_bd (fl7_bd (fun c hc => ?_) _) _ j hj
  simp only [List.mem_cons, List.not_mem_nil, or_false] at hc
  rcases hc with rfl | rfl
  · exact fun j hj => hHeader_bd hx.1 j hj
  · exact fun j hj => treeV_bd (pk_bd hx.2 _) _ j hj

/-- The root of a value. -/
def hDepositData (x : VDepositData) : Nat → Int := treeV (fl7 [bR x.f0 48, bR x.f1 32, bR (nmB x.f2) 8, bR x.f3 96]) 4 (4 : Nat)

theorem hDepositData_bd {x : VDepositData} (hx : OkDepositData x) (j : Nat) (hj : j < 32) : 0 ≤ hDepositData x j ∧ hDepositData x j < 256 := by
  refine treeV_bd (fl7_bd (fun c hc => ?_) _) _ j hj
  simp only [List.mem_cons, List.not_mem_nil, or_false] at hc
  rcases hc with rfl | rfl | rfl | rfl
  · exact fun j hj => treeV_bd (pk_bd hx.1 _) _ j hj
  · exact fun j hj => treeV_bd (pk_bd hx.2.1 _) _ j hj
  · exact fun j hj => treeV_bd (pk_bd (fun j _ => nmB_bd _ j) _) _ j hj
  · exact fun j hj => treeV_bd (pk_bd hx.2.2.2 _) _ j hj

/-- The root of a value. -/
def hSignedExit (x : VSignedExit) : Nat → Int := treeV (fl7 [hExit x.f0, bR x.f1 96]) 2 (2 : Nat)

theorem hSignedExit_bd {x : VSignedExit} (hx : OkSignedExit x) (j : Nat) (hj : j < 32) : 0 ≤ hSignedExit x j ∧ hSignedExit x j < 256 := by
  refine treeV_bd (fl7_bd (fun c hc => ?_) _) _ j hj
  simp only [List.mem_cons, List.not_mem_nil, or_false] at hc
  rcases hc with rfl | rfl
  · exact fun j hj => hExit_bd hx.1 j hj
  · exact fun j hj => treeV_bd (pk_bd hx.2 _) _ j hj

end Go.Proofs.YtaodonmbanpieabDoor
namespace Go.Proofs.YtaodonmbanpieabDoor
open Go.RowKit
set_option linter.unusedVariables false
set_option linter.unusedSimpArgs false

/-- The number that eight bytes are. -/
def rdN (f : Nat → Int) : Int := Z.num8 (f 0) (f 1) (f 2) (f 3) (f 4) (f 5) (f 6) (f 7)

theorem rdN_bd {f : Nat → Int} (hf : ∀ j, j < 8 → 0 ≤ f j ∧ f j < 256) : 0 ≤ rdN f ∧ rdN f < 18446744073709551616 := by
  have h0 := hf 0 (by omega)
  have h1 := hf 1 (by omega)
  have h2 := hf 2 (by omega)
  have h3 := hf 3 (by omega)
  have h4 := hf 4 (by omega)
  have h5 := hf 5 (by omega)
  have h6 := hf 6 (by omega)
  have h7 := hf 7 (by omega)
  unfold rdN Z.num8
  omega

theorem bys_at {w : World} {a : Option Addr} {n cap : Nat} {f : Nat → Int} (h : Bys w a n cap f) (hn : 0 < n) : ∃ b off, a = some ⟨b, off, none⟩ ∧ b < w.heap.size ∧ n ≤ cap ∧ ∀ j, j < n → w.cell? ⟨b, off + j, none⟩ = some (.int .u8 (f j)) := by
  rcases h with ⟨_, h, _⟩ | ⟨_, _, h⟩ | ⟨b, off, h1, h2, h3, h4, h5⟩
  · omega
  · omega
  · exact ⟨b, off, h1, h4, h2, h5⟩

end Go.Proofs.YtaodonmbanpieabDoor
namespace Go.Proofs.YtaodonmbanpieabDoor
open Go.RowKit
set_option linter.unusedVariables false
set_option linter.unusedSimpArgs false

attribute [local go_sem ↓] sv24_eq lv24_eq ix22_eq slr_eq bd27_eq bs22_eq sv8_eq mkI_eq ixI_eq ixP_eq bsP_eq

set_option maxHeartbeats 1000000 in
theorem rnum7 (a : Option Addr) (cap : Nat) (f : Nat → Int) (w : World) (hb : Bys w a 8 cap f) (hf : ∀ j, j < 8 → 0 ≤ f j ∧ f j < 256) :
    Calls Tryd.prog 66 #[.slice a 8 cap] w fun e w' => e = .returned (.int .u64 (rdN f)) ∧ w' = w := by
  obtain ⟨b, off, rfl, _, _, hc⟩ := bys_at hb (by omega)
  have h0 := hf 0 (by omega)
  have h1 := hf 1 (by omega)
  have h2 := hf 2 (by omega)
  have h3 := hf 3 (by omega)
  have h4 := hf 4 (by omega)
  have h5 := hf 5 (by omega)
  have h6 := hf 6 (by omega)
  have h7 := hf 7 (by omega)
  have hr := Z.read8 b off cap (f 0) (f 1) (f 2) (f 3) (f 4) (f 5) (f 6) (f 7) w (hc 0 (by omega)) h0.1 (by omega) (hc 1 (by omega)) h1.1 (by omega) (hc 2 (by omega)) h2.1 (by omega) (hc 3 (by omega)) h3.1 (by omega) (hc 4 (by omega)) h4.1 (by omega) (hc 5 (by omega)) h5.1 (by omega) (hc 6 (by omega)) h6.1 (by omega) (hc 7 (by omega)) h7.1 (by omega)
  have e : Z.num8 (f 0) (f 1) (f 2) (f 3) (f 4) (f 5) (f 6) (f 7) = rdN f := rfl
  rw [e] at hr
  obtain ⟨D, eD⟩ : ∃ D, rdN f = D := ⟨_, rfl⟩
  rw [eD] at hr ⊢
  have HR := hid hr
  clear hr h0 h1 h2 h3 h4 h5 h6 h7 hc hf hb e eD
  go_enter Tryd.func66, Tryd.ntmps66
  go_wp2_with (go_at_call 92; refine HR.out.mono ?_; rintro e w' ⟨rfl, hw⟩; obtain rfl := hw.symm)
  go_ret
  exact ⟨rfl, rfl⟩

/-- Sizes of which none is open, and their sum. -/
structure FixS (zs : Nat → Int) (n N : Nat) : Prop where
  sz : Z.szB zs n = true
  zn : Z.zn zs n = 0
  hd : Z.hdL zs n = N
  nz : ∀ r, r < n → ¬ zs r = 0

theorem cutE_fix {zs : Nat → Int} {n N : Nat} (h : FixS zs n N) (m : Nat → Int) (len : Nat) : Z.cutE zs m n len = if len = N then 0 else 4 := by
  unfold Z.cutE
  rw [h.sz, h.zn, h.hd, if_neg (by simp)]
  by_cases h1 : len < N
  · rw [if_pos h1, if_neg (by omega)]
  · rw [if_neg h1]
    by_cases h2 : N < len
    · rw [if_pos ⟨rfl, h2⟩, if_neg (by omega)]
    · rw [if_neg (fun x => h2 x.2), if_neg (fun x => Nat.lt_irrefl 0 x.1), if_neg (by rw [Z.ordB_true (fun i hi => absurd hi (by omega))]; simp), if_pos (by omega)]

theorem cut7_no {zs : Nat → Int} {n N : Nat} (h : FixS zs n N) (m : Nat → Int) (ao : Option Addr) (len cap g : Nat) (w : World) (hb : Bys w ao len cap m) (hm : ∀ j, 0 ≤ m j ∧ m j < 256) (hlen : len ≤ 140737488351232) (hlc : len ≤ cap) (hcap : cap ≤ 9223372036854775807) (hg : w.heap[g]? = some (.cells (vs .i64 n zs) 3)) (hn : n ≤ 64) (hN : ¬ len = N) :
    Calls Tryd.prog 58 #[.slice ao len cap, .slice (some ⟨g, 0, none⟩) n n] w fun e w' => ∃ a', e = .returned (.tuple #[.slice a' 0 0, .int .i64 4]) ∧ Below w.heap.size w w' := by
  refine (Z.cut_any zs m ao len cap (some ⟨g, 0, none⟩) n n w hb hm hlen hlc hcap (.inr ⟨g, 0, rfl, (Array.getElem?_eq_some_iff.1 hg).1, fun j hj => by rw [Nat.zero_add]; exact row_int hg j hj⟩) (by omega)).mono ?_
  rintro e w' ⟨a', N', A', rfl, h1, _, h3⟩
  rw [cutE_fix h, if_neg hN] at h1 ⊢
  rw [if_neg (by decide)] at h1
  subst h1
  exact ⟨a', rfl, h3⟩

/-- The parts of a cut: a row of slices, and where their bytes lie. -/
def Cuts (zs m : Nat → Int) (n gp o : Nat) (w : World) : Prop :=
  ∀ r, r < n → ∃ b off c, w.cell? ⟨gp, o + r, none⟩ = some (.slice (some ⟨b, off, none⟩) (zs r).toNat c) ∧ Bys w (some ⟨b, off, none⟩) (zs r).toNat c (fun q => m (Z.hdL zs r + q))

theorem cut7_ok {zs : Nat → Int} {n N : Nat} (h : FixS zs n N) (m : Nat → Int) (ao : Option Addr) (cap g : Nat) (w : World) (hb : Bys w ao N cap m) (hm : ∀ j, 0 ≤ m j ∧ m j < 256) (hlen : N ≤ 140737488351232) (hlc : N ≤ cap) (hcap : cap ≤ 9223372036854775807) (hg : w.heap[g]? = some (.cells (vs .i64 n zs) 3)) (hn : n ≤ 64) (hz : ∀ r, r < n → 0 < zs r) (h0 : 0 < n) :
    Calls Tryd.prog 58 #[.slice ao N cap, .slice (some ⟨g, 0, none⟩) n n] w fun e w' => ∃ gp o, e = .returned (.tuple #[.slice (some ⟨gp, o, none⟩) n n, .int .i64 0]) ∧ gp < w'.heap.size ∧ Cuts zs m n gp o w' ∧ Below w.heap.size w w' := by
  refine (Z.cut_any zs m ao N cap (some ⟨g, 0, none⟩) n n w hb hm hlen hlc hcap (.inr ⟨g, 0, rfl, (Array.getElem?_eq_some_iff.1 hg).1, fun j hj => by rw [Nat.zero_add]; exact row_int hg j hj⟩) (by omega)).mono ?_
  rintro e w' ⟨a', N', A', rfl, h1, h2, h3⟩
  rw [cutE_fix h, if_pos rfl] at h1 ⊢
  rw [if_pos rfl] at h1
  subst h1
  rcases h2 with h2 | ⟨b, off, rfl, h4, h5⟩
  · omega
  refine ⟨b, off, rfl, h4, fun r hr => ?_, h3⟩
  obtain ⟨h6, h7⟩ := h5 r hr
  have hr0 := h.nz r hr
  have hzr := hz r hr
  have e1 : Z.cLn zs m N' N r = (zs r).toNat := by
    unfold Z.cLn Z.cE Z.cB
    rw [if_neg hr0, if_neg hr0]
    omega
  have e2 : Z.cFn zs m N' r = fun q => m (Z.hdL zs r + q) := by
    funext q
    unfold Z.cFn Z.cB
    rw [if_neg hr0]
  rw [e1] at h6 h7
  rw [e2] at h7
  obtain ⟨b1, o1, e3, _, _, _⟩ := bys_at (show Bys w' (A' r) (zs r).toNat (zs r).toNat (fun q => m (Z.hdL zs r + q)) from h7) (by omega)
  rw [e3] at h6 h7
  exact ⟨b1, o1, _, h6, h7⟩

theorem Cuts.below {zs m : Nat → Int} {n gp o : Nat} {w w' : World} (h : Cuts zs m n gp o w) (hg : gp < w.heap.size) (hb : Below w.heap.size w w') : Cuts zs m n gp o w' := fun r hr => by
  obtain ⟨b, off, c, h1, h2⟩ := h r hr
  exact ⟨b, off, c, (below_cell hb hg).trans h1, h2.below hb⟩

/-- Bytes copied into a field. -/
theorem copy_seg (W : World) (g o n : Nat) (l l' : List Seg) (z : Nat → Int) (x : Addr) (cap dcap : Nat) (t : TypeId) (hg : W.heap[g]? = some (.cells (cel l) t)) (hp : o + n ≤ slen l) (hx : ∀ j, j < n → W.cell? (x.add j) = some (.int .u8 (z j)))
    (he : ((cel l).toList.take o ++ bl z n ++ (cel l).toList.drop (o + n)).toArray = cel l') :
    ∀ ty, (Builtin.copy_ #[31, 31] ty #[.slice (some ⟨g, o, none⟩) n dcap, .slice (some x) n cap]).run Tryd.prog W = .ok (.int .i64 n) (W.setRow g (cel l')) := by
  intro ty
  have hrun := run_copy_row (P := Tryd.prog) W 31 31 ty 5 g o n dcap x n cap (cel l) t (bl z n) Tryd.underlying31 (by kernel_rfl) hg (by rw [bl_len]; exact (Nat.min_self n).symm)
    (fun j v hj => by
      obtain ⟨h1, rfl⟩ := bl_get z n j v hj
      exact hx j h1) (by rw [bl_len, cel_size]; exact hp) (bl_one z n)
  rw [hrun, bl_len, he]
  rfl

def bsI (n : Nat) (ps : Array (Nat × Value)) : Sem Value := Instr.buildSlice 108 n ps

theorem bsI_eq (n : Nat) (ps : Array (Nat × Value)) : Instr.buildSlice 108 n ps = bsI n ps := rfl

end Go.Proofs.YtaodonmbanpieabDoor
namespace Go.Proofs.YtaodonmbanpieabDoor
open Go.RowKit
set_option linter.unusedVariables false
set_option linter.unusedSimpArgs false

/-- Sizes, one behind the other. -/
def zl7 (l : List Int) (i : Nat) : Int := l.getD i 0

theorem take_all (l : List Seg) : ((cel l).toList.drop 0).take (celL l).length = celL l := by simp [cel]

/-- The value of nothing but zeros; the value that bytes are. -/
def oFork : VFork := ⟨fun _ => 0, fun _ => 0, 0⟩

def pFork (m : Nat → Int) : VFork := ⟨fun q => m (0 + q), fun q => m (4 + q), rdN (fun q => m (8 + q))⟩

def zFork : Nat → Int := zl7 [4, 4, 8]

theorem fixFork : FixS zFork 3 16 := ⟨by kernel_rfl, by kernel_rfl, by kernel_rfl, fun r hr => by
  rcases (by omega : r = 0 ∨ r = 1 ∨ r = 2) with rfl | rfl | rfl
  all_goals (intro h; exact absurd h (by decide))⟩

theorem zposFork (r : Nat) (hr : r < 3) : 0 < zFork r := by
  rcases (by omega : r = 0 ∨ r = 1 ∨ r = 2) with rfl | rfl | rfl
  all_goals decide

theorem bsI_Fork (W : World) : (bsI 3 #[(0, .int .i64 4), (1, .int .i64 4), (2, .int .i64 8)]).run Tryd.prog W = .ok (.slice (some ⟨W.heap.size, 0, none⟩) 3 3) (W.alloc (.cells (vs .i64 3 zFork) 3)) := by kernel_rfl

def svFork (a : Addr) (v : Value) : Sem Unit := storeVar 99 a v

theorem svFork_eq (a : Addr) (v : Value) : storeVar 99 a v = svFork a v := rfl

def bdFork (ps : Array (Nat × Value)) : Sem Value := Instr.build 99 ps

theorem bdFork_eq (ps : Array (Nat × Value)) : Instr.build 99 ps = bdFork ps := rfl

theorem bdFork_0 (W : World) : (bdFork #[]).run Tryd.prog W = .ok (.agg (cel (sFork oFork))) W := by kernel_rfl

theorem zeroFork (W : World) : (zeroValue 99).run Tryd.prog W = .ok (.agg (cel (sFork oFork))) W := by kernel_rfl

theorem slFork (x : VFork) : slen (sFork x) = 9 := rfl

theorem svFork_run {w : World} {b : Nat} {o : VFork} {t : TypeId} (h : w.heap[b]? = some (.cells (cel (sFork o)) t)) (c : VFork) : (svFork ⟨b, 0, none⟩ (.agg (cel (sFork c)))).run Tryd.prog w = .ok () (w.setRow b (cel (sFork c))) :=
  run_storeVar_row w b t 99 _ _ h (by rw [cel_size, slFork]; kernel_rfl) (by rw [cel_size, cel_size, slFork, slFork]) (cel_one _)

theorem svFork_newv (W : World) (o c : VFork) : (svFork ⟨W.heap.size, 0, none⟩ (.agg (cel (sFork c)))).run Tryd.prog (W.alloc (.cells (cel (sFork o)) 99)) = .ok () (W.alloc (.cells (cel (sFork c)) 99)) :=
  run_storeVar_new W 99 _ _ (by rw [cel_size, slFork]; kernel_rfl) (by rw [cel_size, cel_size, slFork, slFork]) (cel_one _)

theorem retFork {fn : Func} {R : Ending → World → Prop} {a : Act} {w' : World} (t s : Tmp) (b : Nat) (c : VFork) (ty : TypeId) (v : Value) (h : fn.results = #[.cell t 99, .tmp s]) (hd : a.defers = []) (ht : a.tmps.getD t undef = .pointer (some ⟨b, 0, none⟩)) (hs : a.tmps.getD s undef = v) (hr : w'.heap[b]? = some (.cells (cel (sFork c)) ty))
    (hR : R (.returned (.tuple #[.agg (cel (sFork c)), v])) w') : bodyPost Tryd.prog fn R .ret a w' := by
  refine bodyPost_ret ?_ hd hR
  have hl := loadAt_var (load_row (P := Tryd.prog) hr 99 _ Tryd.underlying99 rfl (by rw [cel_size, slFork]; kernel_rfl))
  rw [Array.getD_eq_getD_getElem?] at ht hs
  simp [results, h, ht, hs, hl, asAddr]

/-- The value of nothing but zeros; the value that bytes are. -/
def oCheckpoint : VCheckpoint := ⟨0, fun _ => 0⟩

def pCheckpoint (m : Nat → Int) : VCheckpoint := ⟨rdN (fun q => m (0 + q)), fun q => m (8 + q)⟩

def zCheckpoint : Nat → Int := zl7 [8, 32]

/-- The value of nothing but zeros; the value that bytes are. -/
def oValidator : VValidator := ⟨fun _ => 0, fun _ => 0, 0, false, 0, 0, 0, 0⟩

def pValidator (m : Nat → Int) : VValidator := ⟨fun q => m (0 + q), fun q => m (48 + q), rdN (fun q => m (80 + q)), m 88 == 1, rdN (fun q => m (89 + q)), rdN (fun q => m (97 + q)), rdN (fun q => m (105 + q)), rdN (fun q => m (113 + q))⟩

def zValidator : Nat → Int := zl7 [48, 32, 8, 1, 8, 8, 8, 8]

theorem fixValidator : FixS zValidator 8 121 := ⟨by kernel_rfl, by kernel_rfl, by kernel_rfl, fun r hr => by
  rcases (by omega : r = 0 ∨ r = 1 ∨ r = 2 ∨ r = 3 ∨ r = 4 ∨ r = 5 ∨ r = 6 ∨ r = 7) with rfl | rfl | rfl | rfl | rfl | rfl | rfl | rfl
  all_goals (intro h; exact absurd h (by decide))⟩

theorem zposValidator (r : Nat) (hr : r < 8) : 0 < zValidator r := by
  rcases (by omega : r = 0 ∨ r = 1 ∨ r = 2 ∨ r = 3 ∨ r = 4 ∨ r = 5 ∨ r = 6 ∨ r = 7) with rfl | rfl | rfl | rfl | rfl | rfl | rfl | rfl
  all_goals decide

theorem bsI_Validator (W : World) : (bsI 8 #[(0, .int .i64 48), (1, .int .i64 32), (2, .int .i64 8), (3, .int .i64 1), (4, .int .i64 8), (5, .int .i64 8), (6, .int .i64 8), (7, .int .i64 8)]).run Tryd.prog W = .ok (.slice (some ⟨W.heap.size, 0, none⟩) 8 8) (W.alloc (.cells (vs .i64 8 zValidator) 3)) := by kernel_rfl

def svValidator (a : Addr) (v : Value) : Sem Unit := storeVar 94 a v

theorem svValidator_eq (a : Addr) (v : Value) : storeVar 94 a v = svValidator a v := rfl

def bdValidator (ps : Array (Nat × Value)) : Sem Value := Instr.build 94 ps

theorem bdValidator_eq (ps : Array (Nat × Value)) : Instr.build 94 ps = bdValidator ps := rfl

theorem bdValidator_0 (W : World) : (bdValidator #[]).run Tryd.prog W = .ok (.agg (cel (sValidator oValidator))) W := by kernel_rfl

theorem zeroValidator (W : World) : (zeroValue 94).run Tryd.prog W = .ok (.agg (cel (sValidator oValidator))) W := by kernel_rfl

theorem slValidator (x : VValidator) : slen (sValidator x) = 86 := rfl

theorem svValidator_run {w : World} {b : Nat} {o : VValidator} {t : TypeId} (h : w.heap[b]? = some (.cells (cel (sValidator o)) t)) (c : VValidator) : (svValidator ⟨b, 0, none⟩ (.agg (cel (sValidator c)))).run Tryd.prog w = .ok () (w.setRow b (cel (sValidator c))) :=
  run_storeVar_row w b t 94 _ _ h (by rw [cel_size, slValidator]; kernel_rfl) (by rw [cel_size, cel_size, slValidator, slValidator]) (cel_one _)

theorem svValidator_newv (W : World) (o c : VValidator) : (svValidator ⟨W.heap.size, 0, none⟩ (.agg (cel (sValidator c)))).run Tryd.prog (W.alloc (.cells (cel (sValidator o)) 94)) = .ok () (W.alloc (.cells (cel (sValidator c)) 94)) :=
  run_storeVar_new W 94 _ _ (by rw [cel_size, slValidator]; kernel_rfl) (by rw [cel_size, cel_size, slValidator, slValidator]) (cel_one _)

theorem retValidator {fn : Func} {R : Ending → World → Prop} {a : Act} {w' : World} (t s : Tmp) (b : Nat) (c : VValidator) (ty : TypeId) (v : Value) (h : fn.results = #[.cell t 94, .tmp s]) (hd : a.defers = []) (ht : a.tmps.getD t undef = .pointer (some ⟨b, 0, none⟩)) (hs : a.tmps.getD s undef = v) (hr : w'.heap[b]? = some (.cells (cel (sValidator c)) ty))
    (hR : R (.returned (.tuple #[.agg (cel (sValidator c)), v])) w') : bodyPost Tryd.prog fn R .ret a w' := by
  refine bodyPost_ret ?_ hd hR
  have hl := loadAt_var (load_row (P := Tryd.prog) hr 94 _ Tryd.underlying94 rfl (by rw [cel_size, slValidator]; kernel_rfl))
  rw [Array.getD_eq_getD_getElem?] at ht hs
  simp [results, h, ht, hs, hl, asAddr]

/-- The value of nothing but zeros; the value that bytes are. -/
def oData : VData := ⟨0, 0, fun _ => 0, oCheckpoint, oCheckpoint⟩

def pData (m : Nat → Int) : VData := ⟨rdN (fun q => m (0 + q)), rdN (fun q => m (8 + q)), fun q => m (16 + q), pCheckpoint (fun q => m (48 + q)), pCheckpoint (fun q => m (88 + q))⟩

def zData : Nat → Int := zl7 [8, 8, 32, 40, 40]

/-- The value of nothing but zeros; the value that bytes are. -/
def oEth1 : VEth1 := ⟨fun _ => 0, 0, fun _ => 0⟩

def pEth1 (m : Nat → Int) : VEth1 := ⟨fun q => m (0 + q), rdN (fun q => m (32 + q)), fun q => m (40 + q)⟩

def zEth1 : Nat → Int := zl7 [32, 8, 32]

/-- The value of nothing but zeros; the value that bytes are. -/
def oHeader : VHeader := ⟨0, 0, fun _ => 0, fun _ => 0, fun _ => 0⟩

def pHeader (m : Nat → Int) : VHeader := ⟨rdN (fun q => m (0 + q)), rdN (fun q => m (8 + q)), fun q => m (16 + q), fun q => m (48 + q), fun q => m (80 + q)⟩

def zHeader : Nat → Int := zl7 [8, 8, 32, 32, 32]

theorem fixHeader : FixS zHeader 5 112 := ⟨by kernel_rfl, by kernel_rfl, by kernel_rfl, fun r hr => by
  rcases (by omega : r = 0 ∨ r = 1 ∨ r = 2 ∨ r = 3 ∨ r = 4) with rfl | rfl | rfl | rfl | rfl
  all_goals (intro h; exact absurd h (by decide))⟩

theorem zposHeader (r : Nat) (hr : r < 5) : 0 < zHeader r := by
  rcases (by omega : r = 0 ∨ r = 1 ∨ r = 2 ∨ r = 3 ∨ r = 4) with rfl | rfl | rfl | rfl | rfl
  all_goals decide

theorem bsI_Header (W : World) : (bsI 5 #[(0, .int .i64 8), (1, .int .i64 8), (2, .int .i64 32), (3, .int .i64 32), (4, .int .i64 32)]).run Tryd.prog W = .ok (.slice (some ⟨W.heap.size, 0, none⟩) 5 5) (W.alloc (.cells (vs .i64 5 zHeader) 3)) := by kernel_rfl

def svHeader (a : Addr) (v : Value) : Sem Unit := storeVar 26 a v

theorem svHeader_eq (a : Addr) (v : Value) : storeVar 26 a v = svHeader a v := rfl

def bdHeader (ps : Array (Nat × Value)) : Sem Value := Instr.build 26 ps

theorem bdHeader_eq (ps : Array (Nat × Value)) : Instr.build 26 ps = bdHeader ps := rfl

theorem bdHeader_0 (W : World) : (bdHeader #[]).run Tryd.prog W = .ok (.agg (cel (sHeader oHeader))) W := by kernel_rfl

theorem zeroHeader (W : World) : (zeroValue 26).run Tryd.prog W = .ok (.agg (cel (sHeader oHeader))) W := by kernel_rfl

theorem slHeader (x : VHeader) : slen (sHeader x) = 98 := rfl

theorem svHeader_run {w : World} {b : Nat} {o : VHeader} {t : TypeId} (h : w.heap[b]? = some (.cells (cel (sHeader o)) t)) (c : VHeader) : (svHeader ⟨b, 0, none⟩ (.agg (cel (sHeader c)))).run Tryd.prog w = .ok () (w.setRow b (cel (sHeader c))) :=
  run_storeVar_row w b t 26 _ _ h (by rw [cel_size, slHeader]; kernel_rfl) (by rw [cel_size, cel_size, slHeader, slHeader]) (cel_one _)

theorem svHeader_newv (W : World) (o c : VHeader) : (svHeader ⟨W.heap.size, 0, none⟩ (.agg (cel (sHeader c)))).run Tryd.prog (W.alloc (.cells (cel (sHeader o)) 26)) = .ok () (W.alloc (.cells (cel (sHeader c)) 26)) :=
  run_storeVar_new W 26 _ _ (by rw [cel_size, slHeader]; kernel_rfl) (by rw [cel_size, cel_size, slHeader, slHeader]) (cel_one _)

theorem retHeader {fn : Func} {R : Ending → World → Prop} {a : Act} {w' : World} (t s : Tmp) (b : Nat) (c : VHeader) (ty : TypeId) (v : Value) (h : fn.results = #[.cell t 26, .tmp s]) (hd : a.defers = []) (ht : a.tmps.getD t undef = .pointer (some ⟨b, 0, none⟩)) (hs : a.tmps.getD s undef = v) (hr : w'.heap[b]? = some (.cells (cel (sHeader c)) ty))
    (hR : R (.returned (.tuple #[.agg (cel (sHeader c)), v])) w') : bodyPost Tryd.prog fn R .ret a w' := by
  refine bodyPost_ret ?_ hd hR
  have hl := loadAt_var (load_row (P := Tryd.prog) hr 26 _ Tryd.underlying26 rfl (by rw [cel_size, slHeader]; kernel_rfl))
  rw [Array.getD_eq_getD_getElem?] at ht hs
  simp [results, h, ht, hs, hl, asAddr]

/-- The value of nothing but zeros; the value that bytes are. -/
def oExit : VExit := ⟨0, 0⟩

def pExit (m : Nat → Int) : VExit := ⟨rdN (fun q => m (0 + q)), rdN (fun q => m (8 + q))⟩

def zExit : Nat → Int := zl7 [8, 8]

theorem fixExit : FixS zExit 2 16 := ⟨by kernel_rfl, by kernel_rfl, by kernel_rfl, fun r hr => by
  rcases (by omega : r = 0 ∨ r = 1) with rfl | rfl
  all_goals (intro h; exact absurd h (by decide))⟩

theorem zposExit (r : Nat) (hr : r < 2) : 0 < zExit r := by
  rcases (by omega : r = 0 ∨ r = 1) with rfl | rfl
  all_goals decide

theorem bsI_Exit (W : World) : (bsI 2 #[(0, .int .i64 8), (1, .int .i64 8)]).run Tryd.prog W = .ok (.slice (some ⟨W.heap.size, 0, none⟩) 2 2) (W.alloc (.cells (vs .i64 2 zExit) 3)) := by kernel_rfl

def svExit (a : Addr) (v : Value) : Sem Unit := storeVar 55 a v

theorem svExit_eq (a : Addr) (v : Value) : storeVar 55 a v = svExit a v := rfl

def bdExit (ps : Array (Nat × Value)) : Sem Value := Instr.build 55 ps

theorem bdExit_eq (ps : Array (Nat × Value)) : Instr.build 55 ps = bdExit ps := rfl

theorem bdExit_0 (W : World) : (bdExit #[]).run Tryd.prog W = .ok (.agg (cel (sExit oExit))) W := by kernel_rfl

theorem zeroExit (W : World) : (zeroValue 55).run Tryd.prog W = .ok (.agg (cel (sExit oExit))) W := by kernel_rfl

theorem slExit (x : VExit) : slen (sExit x) = 2 := rfl

theorem svExit_run {w : World} {b : Nat} {o : VExit} {t : TypeId} (h : w.heap[b]? = some (.cells (cel (sExit o)) t)) (c : VExit) : (svExit ⟨b, 0, none⟩ (.agg (cel (sExit c)))).run Tryd.prog w = .ok () (w.setRow b (cel (sExit c))) :=
  run_storeVar_row w b t 55 _ _ h (by rw [cel_size, slExit]; kernel_rfl) (by rw [cel_size, cel_size, slExit, slExit]) (cel_one _)

theorem svExit_newv (W : World) (o c : VExit) : (svExit ⟨W.heap.size, 0, none⟩ (.agg (cel (sExit c)))).run Tryd.prog (W.alloc (.cells (cel (sExit o)) 55)) = .ok () (W.alloc (.cells (cel (sExit c)) 55)) :=
  run_storeVar_new W 55 _ _ (by rw [cel_size, slExit]; kernel_rfl) (by rw [cel_size, cel_size, slExit, slExit]) (cel_one _)

theorem retExit {fn : Func} {R : Ending → World → Prop} {a : Act} {w' : World} (t s : Tmp) (b : Nat) (c : VExit) (ty : TypeId) (v : Value) (h : fn.results = #[.cell t 55, .tmp s]) (hd : a.defers = []) (ht : a.tmps.getD t undef = .pointer (some ⟨b, 0, none⟩)) (hs : a.tmps.getD s undef = v) (hr : w'.heap[b]? = some (.cells (cel (sExit c)) ty))
    (hR : R (.returned (.tuple #[.agg (cel (sExit c)), v])) w') : bodyPost Tryd.prog fn R .ret a w' := by
  refine bodyPost_ret ?_ hd hR
  have hl := loadAt_var (load_row (P := Tryd.prog) hr 55 _ Tryd.underlying55 rfl (by rw [cel_size, slExit]; kernel_rfl))
  rw [Array.getD_eq_getD_getElem?] at ht hs
  simp [results, h, ht, hs, hl, asAddr]

/-- The value of nothing but zeros; the value that bytes are. -/
def oSignedHeader : VSignedHeader := ⟨oHeader, fun _ => 0⟩

def pSignedHeader (m : Nat → Int) : VSignedHeader := ⟨pHeader (fun q => m (0 + q)), fun q => m (112 + q)⟩

def zSignedHeader : Nat → Int := zl7 [112, 96]

theorem fixSignedHeader : FixS zSignedHeader 2 208 := ⟨by kernel_rfl, by kernel_rfl, by kernel_rfl, fun r hr => by
  rcases (by omega : r = 0 ∨ r = 1) with rfl | rfl
  all_goals (intro h; exact absurd h (by decide))⟩

theorem zposSignedHeader (r : Nat) (hr : r < 2) : 0 < zSignedHeader r := by
  rcases (by omega : r = 0 ∨ r = 1) with rfl | rfl
  all_goals decide

theorem bsI_SignedHeader (W : World) : (bsI 2 #[(0, .int .i64 112), (1, .int .i64 96)]).run Tryd.prog W = .ok (.slice (some ⟨W.heap.size, 0, none⟩) 2 2) (W.alloc (.cells (vs .i64 2 zSignedHeader) 3)) := by kernel_rfl

def svSignedHeader (a : Addr) (v : Value) : Sem Unit := storeVar 30 a v

theorem svSignedHeader_eq (a : Addr) (v : Value) : storeVar 30 a v = svSignedHeader a v := rfl

def bdSignedHeader (ps : Array (Nat × Value)) : Sem Value := Instr.build 30 ps

theorem bdSignedHeader_eq (ps : Array (Nat × Value)) : Instr.build 30 ps = bdSignedHeader ps := rfl

theorem bdSignedHeader_0 (W : World) : (bdSignedHeader #[]).run Tryd.prog W = .ok (.agg (cel (sSignedHeader oSignedHeader))) W := by kernel_rfl

theorem zeroSignedHeader (W : World) : (zeroValue 30).run Tryd.prog W = .ok (.agg (cel (sSignedHeader oSignedHeader))) W := by kernel_rfl

set_option maxRecDepth 20000 in
theorem slSignedHeader (x : VSignedHeader) : slen (sSignedHeader x) = 194 := rfl

theorem svSignedHeader_run {w : World} {b : Nat} {o : VSignedHeader} {t : TypeId} (h : w.heap[b]? = some (.cells (cel (sSignedHeader o)) t)) (c : VSignedHeader) : (svSignedHeader ⟨b, 0, none⟩ (.agg (cel (sSignedHeader c)))).run Tryd.prog w = .ok () (w.setRow b (cel (sSignedHeader c))) :=
  run_storeVar_row w b t 30 _ _ h (by rw [cel_size, slSignedHeader]; kernel_rfl) (by rw [cel_size, cel_size, slSignedHeader, slSignedHeader]) (cel_one _)

theorem svSignedHeader_newv (W : World) (o c : VSignedHeader) : (svSignedHeader ⟨W.heap.size, 0, none⟩ (.agg (cel (sSignedHeader c)))).run Tryd.prog (W.alloc (.cells (cel (sSignedHeader o)) 30)) = .ok () (W.alloc (.cells (cel (sSignedHeader c)) 30)) :=
  run_storeVar_new W 30 _ _ (by rw [cel_size, slSignedHeader]; kernel_rfl) (by rw [cel_size, cel_size, slSignedHeader, slSignedHeader]) (cel_one _)

theorem retSignedHeader {fn : Func} {R : Ending → World → Prop} {a : Act} {w' : World} (t s : Tmp) (b : Nat) (c : VSignedHeader) (ty : TypeId) (v : Value) (h : fn.results = #[.cell t 30, .tmp s]) (hd : a.defers = []) (ht : a.tmps.getD t undef = .pointer (some ⟨b, 0, none⟩)) (hs : a.tmps.getD s undef = v) (hr : w'.heap[b]? = some (.cells (cel (sSignedHeader c)) ty))
    (hR : R (.returned (.tuple #[.agg (cel (sSignedHeader c)), v])) w') : bodyPost Tryd.prog fn R .ret a w' := by
  refine bodyPost_ret ?_ hd hR
  have hl := loadAt_var (load_row (P := Tryd.prog) hr 30 _ Tryd.underlying30 rfl (by rw [cel_size, slSignedHeader]; kernel_rfl))
  rw [Array.getD_eq_getD_getElem?] at ht hs
  simp [results, h, ht, hs, hl, asAddr]

/-- The value of nothing but zeros; the value that bytes are. -/
def oDepositData : VDepositData := ⟨fun _ => 0, fun _ => 0, 0, fun _ => 0⟩

def pDepositData (m : Nat → Int) : VDepositData := ⟨fun q => m (0 + q), fun q => m (48 + q), rdN (fun q => m (80 + q)), fun q => m (88 + q)⟩

def zDepositData : Nat → Int := zl7 [48, 32, 8, 96]

theorem fixDepositData : FixS zDepositData 4 184 := ⟨by kernel_rfl, by kernel_rfl, by kernel_rfl, fun r hr => by
  rcases (by omega : r = 0 ∨ r = 1 ∨ r = 2 ∨ r = 3) with rfl | rfl | rfl | rfl
  all_goals (intro h; exact absurd h (by decide))⟩

theorem zposDepositData (r : Nat) (hr : r < 4) : 0 < zDepositData r := by
  rcases (by omega : r = 0 ∨ r = 1 ∨ r = 2 ∨ r = 3) with rfl | rfl | rfl | rfl
  all_goals decide

theorem bsI_DepositData (W : World) : (bsI 4 #[(0, .int .i64 48), (1, .int .i64 32), (2, .int .i64 8), (3, .int .i64 96)]).run Tryd.prog W = .ok (.slice (some ⟨W.heap.size, 0, none⟩) 4 4) (W.alloc (.cells (vs .i64 4 zDepositData) 3)) := by kernel_rfl

def svDepositData (a : Addr) (v : Value) : Sem Unit := storeVar 46 a v

theorem svDepositData_eq (a : Addr) (v : Value) : storeVar 46 a v = svDepositData a v := rfl

def bdDepositData (ps : Array (Nat × Value)) : Sem Value := Instr.build 46 ps

theorem bdDepositData_eq (ps : Array (Nat × Value)) : Instr.build 46 ps = bdDepositData ps := rfl

theorem bdDepositData_0 (W : World) : (bdDepositData #[]).run Tryd.prog W = .ok (.agg (cel (sDepositData oDepositData))) W := by kernel_rfl

theorem zeroDepositData (W : World) : (zeroValue 46).run Tryd.prog W = .ok (.agg (cel (sDepositData oDepositData))) W := by kernel_rfl

set_option maxRecDepth 20000 in
theorem slDepositData (x : VDepositData) : slen (sDepositData x) = 177 := rfl

theorem svDepositData_run {w : World} {b : Nat} {o : VDepositData} {t : TypeId} (h : w.heap[b]? = some (.cells (cel (sDepositData o)) t)) (c : VDepositData) : (svDepositData ⟨b, 0, none⟩ (.agg (cel (sDepositData c)))).run Tryd.prog w = .ok () (w.setRow b (cel (sDepositData c))) :=
  run_storeVar_row w b t 46 _ _ h (by rw [cel_size, slDepositData]; kernel_rfl) (by rw [cel_size, cel_size, slDepositData, slDepositData]) (cel_one _)

theorem svDepositData_newv (W : World) (o c : VDepositData) : (svDepositData ⟨W.heap.size, 0, none⟩ (.agg (cel (sDepositData c)))).run Tryd.prog (W.alloc (.cells (cel (sDepositData o)) 46)) = .ok () (W.alloc (.cells (cel (sDepositData c)) 46)) :=
  run_storeVar_new W 46 _ _ (by rw [cel_size, slDepositData]; kernel_rfl) (by rw [cel_size, cel_size, slDepositData, slDepositData]) (cel_one _)

theorem retDepositData {fn : Func} {R : Ending → World → Prop} {a : Act} {w' : World} (t s : Tmp) (b : Nat) (c : VDepositData) (ty : TypeId) (v : Value) (h : fn.results = #[.cell t 46, .tmp s]) (hd : a.defers = []) (ht : a.tmps.getD t undef = .pointer (some ⟨b, 0, none⟩)) (hs : a.tmps.getD s undef = v) (hr : w'.heap[b]? = some (.cells (cel (sDepositData c)) ty))
    (hR : R (.returned (.tuple #[.agg (cel (sDepositData c)), v])) w') : bodyPost Tryd.prog fn R .ret a w' := by
  refine bodyPost_ret ?_ hd hR
  have hl := loadAt_var (load_row (P := Tryd.prog) hr 46 _ Tryd.underlying46 rfl (by rw [cel_size, slDepositData]; kernel_rfl))
  rw [Array.getD_eq_getD_getElem?] at ht hs
  simp [results, h, ht, hs, hl, asAddr]

/-- The value of nothing but zeros; the value that bytes are. -/
def oSignedExit : VSignedExit := ⟨oExit, fun _ => 0⟩

def pSignedExit (m : Nat → Int) : VSignedExit := ⟨pExit (fun q => m (0 + q)), fun q => m (16 + q)⟩

def zSignedExit : Nat → Int := zl7 [16, 96]

theorem fixSignedExit : FixS zSignedExit 2 112 := ⟨by kernel_rfl, by kernel_rfl, by kernel_rfl, fun r hr => by
  rcases (by omega : r = 0 ∨ r = 1) with rfl | rfl
  all_goals (intro h; exact absurd h (by decide))⟩

theorem zposSignedExit (r : Nat) (hr : r < 2) : 0 < zSignedExit r := by
  rcases (by omega : r = 0 ∨ r = 1) with rfl | rfl
  all_goals decide

theorem bsI_SignedExit (W : World) : (bsI 2 #[(0, .int .i64 16), (1, .int .i64 96)]).run Tryd.prog W = .ok (.slice (some ⟨W.heap.size, 0, none⟩) 2 2) (W.alloc (.cells (vs .i64 2 zSignedExit) 3)) := by kernel_rfl

def svSignedExit (a : Addr) (v : Value) : Sem Unit := storeVar 64 a v

theorem svSignedExit_eq (a : Addr) (v : Value) : storeVar 64 a v = svSignedExit a v := rfl

def bdSignedExit (ps : Array (Nat × Value)) : Sem Value := Instr.build 64 ps

theorem bdSignedExit_eq (ps : Array (Nat × Value)) : Instr.build 64 ps = bdSignedExit ps := rfl

theorem bdSignedExit_0 (W : World) : (bdSignedExit #[]).run Tryd.prog W = .ok (.agg (cel (sSignedExit oSignedExit))) W := by kernel_rfl

theorem zeroSignedExit (W : World) : (zeroValue 64).run Tryd.prog W = .ok (.agg (cel (sSignedExit oSignedExit))) W := by kernel_rfl

theorem slSignedExit (x : VSignedExit) : slen (sSignedExit x) = 98 := rfl

theorem svSignedExit_run {w : World} {b : Nat} {o : VSignedExit} {t : TypeId} (h : w.heap[b]? = some (.cells (cel (sSignedExit o)) t)) (c : VSignedExit) : (svSignedExit ⟨b, 0, none⟩ (.agg (cel (sSignedExit c)))).run Tryd.prog w = .ok () (w.setRow b (cel (sSignedExit c))) :=
  run_storeVar_row w b t 64 _ _ h (by rw [cel_size, slSignedExit]; kernel_rfl) (by rw [cel_size, cel_size, slSignedExit, slSignedExit]) (cel_one _)

theorem svSignedExit_newv (W : World) (o c : VSignedExit) : (svSignedExit ⟨W.heap.size, 0, none⟩ (.agg (cel (sSignedExit c)))).run Tryd.prog (W.alloc (.cells (cel (sSignedExit o)) 64)) = .ok () (W.alloc (.cells (cel (sSignedExit c)) 64)) :=
  run_storeVar_new W 64 _ _ (by rw [cel_size, slSignedExit]; kernel_rfl) (by rw [cel_size, cel_size, slSignedExit, slSignedExit]) (cel_one _)

theorem retSignedExit {fn : Func} {R : Ending → World → Prop} {a : Act} {w' : World} (t s : Tmp) (b : Nat) (c : VSignedExit) (ty : TypeId) (v : Value) (h : fn.results = #[.cell t 64, .tmp s]) (hd : a.defers = []) (ht : a.tmps.getD t undef = .pointer (some ⟨b, 0, none⟩)) (hs : a.tmps.getD s undef = v) (hr : w'.heap[b]? = some (.cells (cel (sSignedExit c)) ty))
    (hR : R (.returned (.tuple #[.agg (cel (sSignedExit c)), v])) w') : bodyPost Tryd.prog fn R .ret a w' := by
  refine bodyPost_ret ?_ hd hR
  have hl := loadAt_var (load_row (P := Tryd.prog) hr 64 _ Tryd.underlying64 rfl (by rw [cel_size, slSignedExit]; kernel_rfl))
  rw [Array.getD_eq_getD_getElem?] at ht hs
  simp [results, h, ht, hs, hl, asAddr]

end Go.Proofs.YtaodonmbanpieabDoor
