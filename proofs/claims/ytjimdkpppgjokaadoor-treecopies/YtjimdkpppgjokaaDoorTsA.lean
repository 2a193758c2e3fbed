/-
  The memory of a tree that remembers; what New answers.
  What New answers.
  A tree's memory, told by labels of blocks; what Len and at answer.
  What Get answers, and what mark leaves.
-/
import Derived.Test.YtjimdkpppgjokaaDoorMkH
import Derived.Maps.AppendAt
namespace Go.Proofs.YtjimdkpppgjokaaDoor
open Go.RowKit
set_option linter.unusedVariables false
set_option linter.unusedSimpArgs false

/-- The block of a tree. -/
def trA (n : Int) (rows : Value) (z : Nat → Int) (cg ic : Value) (h : Int) : Array Value := #[.int .i64 n, rows] ++ vs .u8 992 z ++ #[cg, ic, .int .i64 h]
theorem trA_size (n : Int) (r : Value) (z : Nat → Int) (cg ic : Value) (h : Int) : (trA n r z cg ic h).size = 997 := by simp [trA, vs_size]
theorem trA_0 (n : Int) (r : Value) (z : Nat → Int) (cg ic : Value) (h : Int) : (trA n r z cg ic h)[0]? = some (.int .i64 n) := by
  unfold trA
  rw [Array.getElem?_append_left (by simp [vs_size]), Array.getElem?_append_left (by simp)]
  rfl
theorem trA_1 (n : Int) (r : Value) (z : Nat → Int) (cg ic : Value) (h : Int) : (trA n r z cg ic h)[1]? = some r := by
  unfold trA
  rw [Array.getElem?_append_left (by simp [vs_size]), Array.getElem?_append_left (by simp)]
  rfl
theorem trA_z (n : Int) (r : Value) (z : Nat → Int) (cg ic : Value) (h : Int) (j : Nat) (hj : j < 992) : (trA n r z cg ic h)[2 + j]? = some (.int .u8 (z j)) := by
  unfold trA
  rw [Array.getElem?_append_left (by simp [vs_size]; omega), Array.getElem?_append_right (by simp)]
  simp [vs_get _ _ _ _ hj]
theorem trA_994 (n : Int) (r : Value) (z : Nat → Int) (cg ic : Value) (h : Int) : (trA n r z cg ic h)[994]? = some cg := by
  unfold trA
  rw [Array.getElem?_append_right (by simp [vs_size])]
  simp [vs_size]
theorem trA_995 (n : Int) (r : Value) (z : Nat → Int) (cg ic : Value) (h : Int) : (trA n r z cg ic h)[995]? = some ic := by
  unfold trA
  rw [Array.getElem?_append_right (by simp [vs_size])]
  simp [vs_size]
theorem trA_996 (n : Int) (r : Value) (z : Nat → Int) (cg ic : Value) (h : Int) : (trA n r z cg ic h)[996]? = some (.int .i64 h) := by
  unfold trA
  rw [Array.getElem?_append_right (by simp [vs_size])]
  simp [vs_size]
theorem trA_ext {n : Int} {r : Value} {z : Nat → Int} {cg ic : Value} {h : Int} (C : Array Value) (hc : C.size = 997) (h0 : C[0]? = some (.int .i64 n)) (h1 : C[1]? = some r) (hz : ∀ j, j < 992 → C[2 + j]? = some (.int .u8 (z j))) (h2 : C[994]? = some cg) (h3 : C[995]? = some ic) (h4 : C[996]? = some (.int .i64 h)) : C = trA n r z cg ic h := by
  apply Array.ext_getElem?
  intro i
  by_cases e : i < 997
  · rcases (by omega : i = 0 ∨ i = 1 ∨ i = 994 ∨ i = 995 ∨ i = 996 ∨ (2 ≤ i ∧ i < 994)) with rfl | rfl | rfl | rfl | rfl | ⟨e1, e2⟩
    · rw [h0, trA_0]
    · rw [h1, trA_1]
    · rw [h2, trA_994]
    · rw [h3, trA_995]
    · rw [h4, trA_996]
    · have := hz (i - 2) (by omega)
      have k := trA_z n r z cg ic h (i - 2) (by omega)
      rw [show 2 + (i - 2) = i by omega] at this k
      rw [this, k]
  · rw [Array.getElem?_eq_none (by omega), Array.getElem?_eq_none (by rw [trA_size]; omega)]
theorem trA_set994 (n : Int) (r : Value) (z : Nat → Int) (cg cg' ic : Value) (h : Int) : (trA n r z cg ic h).setIfInBounds 994 cg' = trA n r z cg' ic h := by
  refine trA_ext _ (by simp [trA_size]) ?_ ?_ (fun j hj => ?_) ?_ ?_ ?_
  · rw [Array.getElem?_setIfInBounds, if_neg (by omega), trA_0]
  · rw [Array.getElem?_setIfInBounds, if_neg (by omega), trA_1]
  · rw [Array.getElem?_setIfInBounds, if_neg (by omega), trA_z _ _ _ _ _ _ _ hj]
  · rw [Array.getElem?_setIfInBounds, if_pos rfl, if_pos (by rw [trA_size]; omega)]
  · rw [Array.getElem?_setIfInBounds, if_neg (by omega), trA_995]
  · rw [Array.getElem?_setIfInBounds, if_neg (by omega), trA_996]
theorem trA_set995 (n : Int) (r : Value) (z : Nat → Int) (cg ic ic' : Value) (h : Int) : (trA n r z cg ic h).setIfInBounds 995 ic' = trA n r z cg ic' h := by
  refine trA_ext _ (by simp [trA_size]) ?_ ?_ (fun j hj => ?_) ?_ ?_ ?_
  · rw [Array.getElem?_setIfInBounds, if_neg (by omega), trA_0]
  · rw [Array.getElem?_setIfInBounds, if_neg (by omega), trA_1]
  · rw [Array.getElem?_setIfInBounds, if_neg (by omega), trA_z _ _ _ _ _ _ _ hj]
  · rw [Array.getElem?_setIfInBounds, if_neg (by omega), trA_994]
  · rw [Array.getElem?_setIfInBounds, if_pos rfl, if_pos (by rw [trA_size]; omega)]
  · rw [Array.getElem?_setIfInBounds, if_neg (by omega), trA_996]
theorem trA_set996 (n : Int) (r : Value) (z : Nat → Int) (cg ic : Value) (h h' : Int) : (trA n r z cg ic h).setIfInBounds 996 (.int .i64 h') = trA n r z cg ic h' := by
  refine trA_ext _ (by simp [trA_size]) ?_ ?_ (fun j hj => ?_) ?_ ?_ ?_
  · rw [Array.getElem?_setIfInBounds, if_neg (by omega), trA_0]
  · rw [Array.getElem?_setIfInBounds, if_neg (by omega), trA_1]
  · rw [Array.getElem?_setIfInBounds, if_neg (by omega), trA_z _ _ _ _ _ _ _ hj]
  · rw [Array.getElem?_setIfInBounds, if_neg (by omega), trA_994]
  · rw [Array.getElem?_setIfInBounds, if_neg (by omega), trA_995]
  · rw [Array.getElem?_setIfInBounds, if_pos rfl, if_pos (by rw [trA_size]; omega)]
theorem trA_put (n : Int) (r : Value) (z z' c : Nat → Int) (cg ic : Value) (h : Int) (k : Nat) (hk : k < 31) (h1 : ∀ q, q < 992 → z' q = if 32 * k ≤ q ∧ q < 32 * k + 32 then c (q - 32 * k) else z q) : putL (trA n r z cg ic h) (2 + 32 * k) (bl c 32) = trA n r z' cg ic h := by
  have hs : 2 + 32 * k + (bl c 32).length ≤ (trA n r z cg ic h).size := by rw [bl_len, trA_size]; omega
  refine trA_ext _ (by rw [putL_size, trA_size]) ?_ ?_ (fun j hj => ?_) ?_ ?_ ?_
  · rw [putL_get _ _ _ _ hs, if_neg (by omega), trA_0]
  · rw [putL_get _ _ _ _ hs, if_neg (by omega), trA_1]
  · rw [putL_get _ _ _ _ hs, bl_len, h1 j hj]
    by_cases h2 : 32 * k ≤ j ∧ j < 32 * k + 32
    · rw [if_pos (by omega), if_pos h2, bl_at _ _ _ (by omega), show 2 + j - (2 + 32 * k) = j - 32 * k by omega]
    · rw [if_neg (by omega), if_neg h2, trA_z _ _ _ _ _ _ _ hj]
  · rw [putL_get _ _ _ _ hs, bl_len, if_neg (by omega), trA_994]
  · rw [putL_get _ _ _ _ hs, bl_len, if_neg (by omega), trA_995]
  · rw [putL_get _ _ _ _ hs, bl_len, if_neg (by omega), trA_996]

/-- A tree's value built, whole. -/
def bd58 (ps : Array (Nat × Value)) : Sem Value := Instr.build 58 ps
theorem bd58_eq (ps : Array (Nat × Value)) : Instr.build 58 ps = bd58 ps := rfl
theorem bd58_run (W : World) (n : Int) (a : Option Addr) (len cap : Nat) : (bd58 #[(0, .int .i64 n), (1, .slice a len cap)]).run Tryd.prog W = .ok (.agg (trA n (.slice a len cap) (fun _ => 0) (.slice none 0 0) (.slice none 0 0) 0)) W := by kernel_rfl
/-- A slice of rows made. -/
def mk55 (x y : Value) : Sem Value := Instr.makeSlice 55 x y
theorem mk55_eq (x y : Value) : Instr.makeSlice 55 x y = mk55 x y := rfl
theorem infoS : ∃ i, Tryd.prog.info? 26 = some i ∧ i.zero = some (.slice none 0 0) ∧ i.size = 1 ∧ i.bytes = 24 := by
  have h : (Tryd.prog.info? 26).map (fun i => (i.zero, i.size, i.bytes)) = some (some (.slice none 0 0), 1, 24) := by kernel_rfl
  cases hq : Tryd.prog.info? 26 with
  | none => simp [hq] at h
  | some i => simp [hq] at h; exact ⟨i, rfl, h.1, h.2.1, h.2.2⟩
/-- Rows that are none. -/
def nilR (n : Nat) : Array Value := madeCells (Value.slice none 0 0).cells (n * 1)
theorem nilR_size (n : Nat) : (nilR n).size = n := by unfold nilR; rw [size_madeCells, Nat.mul_one]
theorem nilR_get (n i : Nat) (h : i < n) : (nilR n)[i]? = some (.slice none 0 0) := by
  unfold nilR
  have e : (Value.slice none 0 0).cells = #[.slice none 0 0] := rfl
  rw [e]
  simp [madeCells, h, Nat.mod_one]
theorem mk55_run (W : World) (n : Nat) (hn : n ≤ 1000) : (mk55 (.int .i64 n) (.int .i64 n)).run Tryd.prog W = .ok (.slice (some ⟨W.heap.size, 0, none⟩) n n) (W.alloc (.cells (nilR n) 26)) := by
  obtain ⟨i, hi, hz0, hz1, hz2⟩ := infoS
  have h := run_make (P := Tryd.prog) W 55 26 i _ Tryd.underlying55 hi hz0 .i64 .i64 n n (by omega) (Int.le_refl _) (by rw [hz2]; omega) (by omega)
  rw [hz1, Int.toNat_natCast] at h
  unfold mk55
  rw [h]
  rfl
/-- A zero root's address, whole. -/
def ix56 (x i : Value) : Sem Value := Instr.indexAt 56 x i
theorem ix56_eq (x i : Value) : Instr.indexAt 56 x i = ix56 x i := rfl
theorem ix56_run (w : World) (b off i : Nat) (h : i < 31) : (ix56 (.pointer (some ⟨b, off, none⟩)) (.int .i64 i)).run Tryd.prog w = .ok (.pointer (some ⟨b, off + 32 * i, none⟩)) w := by
  unfold ix56 Instr.indexAt
  have h1 : (0 : Int) ≤ (i : Int) ∧ (i : Int) < ((31 : Nat) : Int) := by omega
  have hsa : (Instr.sureAddr (Value.pointer (some ⟨b, off, none⟩))).run Tryd.prog w = .ok ⟨b, off, none⟩ w := rfl
  simp only [asIntOf, Sem.run_bind, Sem.run_pure, Result.andThen_ok, run_underlying Tryd.underlying56, if_pos h1, size_root, Int.toNat_natCast, hsa]
  rw [Nat.mul_comm, Addr.add_mid]

/-- The zero roots up to k in a row of 31. -/
def zk (k q : Nat) : Int := if q < 32 * (k + 1) then zr (q / 32) (q % 32) else 0
theorem zk_get (k d j : Nat) (hd : d ≤ k) (hj : j < 32) : zk k (32 * d + j) = zr d j := by
  unfold zk
  rw [if_pos (by omega), show (32 * d + j) / 32 = d by omega, show (32 * d + j) % 32 = j by omega]
theorem zk_zero (q : Nat) : zk 0 q = 0 := by
  unfold zk
  by_cases h : q < 32 * (0 + 1)
  · rw [if_pos h, show q / 32 = 0 by omega]
    rfl
  · rw [if_neg h]
theorem zk_step (k q : Nat) : zk (k + 1) q = if 32 * (k + 1) ≤ q ∧ q < 32 * (k + 1) + 32 then zr (k + 1) (q - 32 * (k + 1)) else zk k q := by
  unfold zk
  by_cases h : 32 * (k + 1) ≤ q ∧ q < 32 * (k + 1) + 32
  · rw [if_pos h, if_pos (by omega), show q / 32 = k + 1 by omega, show q % 32 = q - 32 * (k + 1) by omega]
  · rw [if_neg h]
    by_cases h2 : q < 32 * (k + 1)
    · rw [if_pos h2, if_pos (by omega)]
    · rw [if_neg h2, if_neg (by omega)]

end Go.Proofs.YtjimdkpppgjokaaDoor

namespace Go.Proofs.YtjimdkpppgjokaaDoor
open Go.RowKit
set_option linter.unusedVariables false
set_option linter.unusedSimpArgs false

attribute [local go_sem ↓] sv24_eq lv24_eq ix22_eq slr_eq bd27_eq bs22_eq bd58_eq mk55_eq ix56_eq

set_option maxRecDepth 20000 in
set_option maxHeartbeats 2000000 in
theorem tnew_ok (m D : Nat) (w : World) (hS : Sh w) (hm : 1 ≤ m) (hm2 : m ≤ 1073741824) (hD : dpt m = D) (hD2 : D ≤ 30) :
    Calls Tryd.prog 9 #[.int .i64 m] w fun e w' => e = .returned (.pointer (some ⟨w.heap.size + 1, 0, none⟩)) ∧ Below w.heap.size w w' ∧ w.heap.size + 1 < w'.heap.size ∧ w'.heap[w.heap.size]? = some (.cells (nilR (D + 1)) 26) ∧ w'.heap[w.heap.size + 1]? = some (.cells (trA m (.slice (some ⟨w.heap.size, 0, none⟩) (D + 1) (D + 1)) (zk D) (.slice none 0 0) (.slice none 0 0) 0) 58) := by
  have HS := hid hS
  obtain ⟨m1, em⟩ : ∃ m1, m1 = m - 1 := ⟨_, rfl⟩
  have hL := Tryd.bits_Len64 (m1 : Int) w (by omega) (by omega)
  have eD : Lib.bitLen m1 = D := by
    rw [← hD]
    unfold dpt
    rw [if_neg (by omega), em]
  have e1 : (m : Int) - 1 = (m1 : Int) := by omega
  have d1 : decide ((m : Int) < 1) = false := by simp; omega
  have d1' : decide (m < 1) = false := by simp; omega
  have d2 : decide ((1073741824 : Int) < (m : Int)) = false := by simp; omega
  have d2' : decide (1073741824 < m) = false := by simp; omega
  have mk := mk55_run w (D + 1) (by omega)
  rw [show ((D + 1 : Nat) : Int) = (D : Int) + 1 from rfl] at mk
  have bd := fun W => bd58_run W (m : Int) (some ⟨w.heap.size, 0, none⟩) (D + 1) (D + 1)
  rw [show (((m1 : Int).toNat)) = m1 from rfl, eD] at hL
  have HL0 := hid hL
  have EM := hid em
  clear hS hL em hD eD
  go_enter Tryd.func9, Tryd.ntmps9
  go_upto_region 5 with (go_at_call 24; refine HL0.out.mono ?_; rintro e w1 ⟨rfl, hw1⟩; obtain rfl := hw1.symm)
  obtain ⟨W0, hW0⟩ : ∃ W, (w.alloc (.cells (nilR (D + 1)) 26)).alloc (.cells (trA m (.slice (some ⟨w.heap.size, 0, none⟩) (D + 1) (D + 1)) (fun _ => 0) (.slice none 0 0) (.slice none 0 0) 0) 58) = W := ⟨_, rfl⟩
  rw [hW0]
  have hB0 : Below w.heap.size w W0 := by rw [← hW0]; go_grown
  have z0 : w.heap.size + 1 < W0.heap.size := by rw [← hW0]; simp
  have r0 : W0.heap[w.heap.size]? = some (.cells (nilR (D + 1)) 26) := by rw [← hW0]; exact (heap_old (by simp)).trans (heap_new rfl)
  have rt : W0.heap[w.heap.size + 1]? = some (.cells (trA m (.slice (some ⟨w.heap.size, 0, none⟩) (D + 1) (D + 1)) (zk 0) (.slice none 0 0) (.slice none 0 0) 0) 58) := by
    rw [← hW0, show zk 0 = fun _ => 0 from funext zk_zero]
    exact heap_new (by simp)
  have H0 := hid (And.intro hB0 (And.intro z0 (And.intro r0 rt)))
  clear hB0 z0 r0 rt hW0 mk bd
  generalize hrv : Value.slice (some ⟨w.heap.size, 0, none⟩) (D + 1) (D + 1) = rv at H0 ⊢
  have HRV := hid hrv
  clear hrv
  go_wp2
  go_loopw [23] (fun d wr => ∃ k : Nat, k ≤ D ∧ d = .int .i64 k ∧ Below w.heap.size w wr ∧ w.heap.size + 1 < wr.heap.size ∧ wr.heap[w.heap.size]? = some (.cells (nilR (D + 1)) 26) ∧ wr.heap[w.heap.size + 1]? = some (.cells (trA m rv (zk k) (.slice none 0 0) (.slice none 0 0) 0) 58)) (fun d _ => D - (intOf d).toNat)
  case atStart => exact ⟨0, by omega, rfl, H0.out⟩
  case round =>
    clear H0
    obtain ⟨k, hk, rfl, hB, hz, r0, rt⟩ := hrel
    by_cases hlt : k < D
    · have b3 : decide (k < D) = true := by simp; omega
      have hcl : ∀ j, j < 32 → wr.cell? ⟨w.heap.size + 1, 2 + 32 * k + j, none⟩ = some (.int .u8 (zr k j)) := fun j hj => by
        rw [row_cell rt, Nat.add_assoc, trA_z _ _ _ _ _ _ _ (by omega), zk_get k k j (Nat.le_refl _) hj]
      have hl : ∀ W, (∀ j, j < 32 → W.cell? ⟨w.heap.size + 1, 2 + 32 * k + j, none⟩ = some (.int .u8 (zr k j))) → (lv24 ⟨w.heap.size + 1, 2 + 32 * k, none⟩).run Tryd.prog W = .ok (.agg (vs .u8 32 (zr k))) W := fun W h => lv24_mid h
      have htw : Calls Tryd.prog 25 #[.agg (vs .u8 32 (zr k)), .agg (vs .u8 32 (zr k))] wr.drew fun e w' => e = .returned (.agg (vs .u8 32 (zr (k + 1)))) ∧ Below wr.heap.size wr w' := by
        refine (two_tw (zr k) (zr k) wr.drew (HS.out.below hB.drew) (fun j _ => zr_bd k j) (fun j _ => zr_bd k j)).mono ?_
        rintro e w' ⟨rfl, hb⟩
        exact ⟨rfl, ((Below.refl wr.heap.size wr).drew).trans hb⟩
      have hkp : ∀ W, Below wr.heap.size wr W → ∀ j, j < 32 → W.cell? ⟨w.heap.size + 1, 2 + 32 * k + j, none⟩ = some (.int .u8 (zr k j)) := fun W h j hj => (below_cell h hz).trans (hcl j hj)
      have hst : ∀ W, Below wr.heap.size wr W → ∃ w2, (sv24 ⟨w.heap.size + 1, 2 + 32 * (k + 1), none⟩ (.agg (vs .u8 32 (zr (k + 1))))).run Tryd.prog W = .ok () w2 ∧ (Below w.heap.size w w2 ∧ w.heap.size + 1 < w2.heap.size ∧ w2.heap[w.heap.size]? = some (.cells (nilR (D + 1)) 26) ∧ w2.heap[w.heap.size + 1]? = some (.cells (trA m rv (zk (k + 1)) (.slice none 0 0) (.slice none 0 0) 0) 58)) ∧ True ∧ ∀ j, j < 32 → w2.cell? ⟨w.heap.size + 1, 2 + 32 * k + j, none⟩ = some (.int .u8 (zr k j)) := by
        intro W h
        have rW := (h.block _ hz).trans rt
        have hsz := h.size
        have hkk := setCells_kept (bl (zr (k + 1)) 32) (2 + 32 * (k + 1)) (Kept.refl (w.heap.size + 1) W)
        have hBW := hB.trans (h.mono hB.size)
        have r2 := setCells_row (bl (zr (k + 1)) 32) (2 + 32 * (k + 1)) rW
        rw [trA_put m rv (zk k) (zk (k + 1)) (zr (k + 1)) _ _ 0 (k + 1) (by omega) (fun q _ => zk_step k q)] at r2
        refine ⟨_, sv24_mid rW (2 + 32 * (k + 1)) (zr (k + 1)) (by rw [trA_size]; omega), ⟨hBW.trans (hkk.below (by omega) hBW.size), ?_, ?_, r2⟩, trivial, fun j hj => ?_⟩
        · rw [size_cells]; omega
        · exact (hkk.block _ (by omega) (by omega)).trans ((h.block _ (by omega)).trans r0)
        · rw [row_cell r2, Nat.add_assoc, trA_z _ _ _ _ _ _ _ (by omega), zk_get (k + 1) k j (by omega) hj]
      have ix1 := fun W => ix56_run W (w.heap.size + 1) 2 k (by omega)
      have ix2 := fun W => ix56_run W (w.heap.size + 1) 2 (k + 1) (by omega)
      rw [show ((k + 1 : Nat) : Int) = (k : Int) + 1 from rfl] at ix2
      have hS0 : ∀ j, j < 32 → wr.drew.cell? ⟨w.heap.size + 1, 2 + 32 * k + j, none⟩ = some (.int .u8 (zr k j)) := hcl
      have wk : IntKind.i64.wrap ((k : Int) + 1) = (k : Int) + 1 := i64_of _ (by omega) (by omega)
      have hkb : k ≤ 30 := by omega
      have HS0 := hid hS0
      have HL := hid hl
      have HTW := hid htw
      have HKP := hid hkp
      have HST := hid hst
      clear hcl hl htw hkp hst hS0 hB hz r0 rt
      go_upto_region 8 with fail
      refine wp_region_noPanic ?_
      refine wp_region_held_drew (S := fun W => ∀ j, j < 32 → W.cell? ⟨w.heap.size + 1, 2 + 32 * k + j, none⟩ = some (.int .u8 (zr k j))) (by kernel_rfl) (HS0.out) (fun hHeld => ?_)
      refine wpAnyH_take (i := 0) (v := ?v1) rfl (by kernel_rfl) (by kernel_rfl) (by kernel_rfl) (fun _ _ _ h => h) (Or.inl ⟨by rfl, ?hy1⟩) hHeld ?rest1
      case hy1 =>
        intro w hSw
        go_simp
        try with_reducible rfl
      try simp only [Act.put, List.setIfInBounds_toArray, List.set_cons_zero, List.set_cons_succ, Array.toArray_toList, List.getElem_toArray, List.getElem_cons_zero, List.getElem_cons_succ]
      refine wpAnyH_take (i := 1) (v := ?v2) rfl (by kernel_rfl) (by kernel_rfl) (by kernel_rfl) (fun _ _ _ h => h) (Or.inl ⟨by rfl, ?hy2⟩) hHeld ?rest2
      case hy2 =>
        intro w hSw
        go_simp
        try with_reducible rfl
      try simp only [Act.put, List.setIfInBounds_toArray, List.set_cons_zero, List.set_cons_succ, Array.toArray_toList, List.getElem_toArray, List.getElem_cons_zero, List.getElem_cons_succ]
      refine wpAnyH_take (i := 2) (v := ?v3) rfl (by kernel_rfl) (by kernel_rfl) (by kernel_rfl) (fun _ _ _ h => h) (Or.inl ⟨by rfl, ?hy3⟩) hHeld ?rest3
      case hy3 =>
        intro w hSw
        go_simp
        try with_reducible rfl
      try simp only [Act.put, List.setIfInBounds_toArray, List.set_cons_zero, List.set_cons_succ, Array.toArray_toList, List.getElem_toArray, List.getElem_cons_zero, List.getElem_cons_succ]
      refine wpAnyH_take (i := 3) (v := ?v4) rfl (by kernel_rfl) (by kernel_rfl) (by kernel_rfl) (fun _ _ _ h => h) (Or.inl ⟨by rfl, ?hy4⟩) hHeld ?rest4
      case hy4 =>
        intro w hSw
        go_simp
        try with_reducible rfl
      try simp only [Act.put, List.setIfInBounds_toArray, List.set_cons_zero, List.set_cons_succ, Array.toArray_toList, List.getElem_toArray, List.getElem_cons_zero, List.getElem_cons_succ]
      refine wpAnyH_take (i := 4) (v := ?v5) rfl (by kernel_rfl) (by kernel_rfl) (by kernel_rfl) (fun _ _ _ h => h) (Or.inl ⟨by rfl, ?hy5⟩) hHeld ?rest5
      case hy5 =>
        intro w hSw
        go_simp
        try with_reducible rfl
      try simp only [Act.put, List.setIfInBounds_toArray, List.set_cons_zero, List.set_cons_succ, Array.toArray_toList, List.getElem_toArray, List.getElem_cons_zero, List.getElem_cons_succ]
      refine wpAnyH_take (i := 5) (v := ?v6) rfl (by kernel_rfl) (by kernel_rfl) (by kernel_rfl) (fun _ _ _ h => h) (Or.inl ⟨by rfl, ?hy6⟩) hHeld ?rest6
      case hy6 =>
        intro w hSw
        go_simp
        try with_reducible rfl
      try simp only [Act.put, List.setIfInBounds_toArray, List.set_cons_zero, List.set_cons_succ, Array.toArray_toList, List.getElem_toArray, List.getElem_cons_zero, List.getElem_cons_succ]
      refine wpAnyH_take (i := 6) (v := ?v7) rfl (by kernel_rfl) (by kernel_rfl) (by kernel_rfl) (fun _ _ _ h => h) (Or.inl ⟨by rfl, ?hy7⟩) hHeld ?rest7
      case hy7 =>
        intro w hSw
        go_simp
        try with_reducible rfl
      try simp only [Act.put, List.setIfInBounds_toArray, List.set_cons_zero, List.set_cons_succ, Array.toArray_toList, List.getElem_toArray, List.getElem_cons_zero, List.getElem_cons_succ]
      refine wpAnyH_take (i := 7) (v := ?v8) rfl (by kernel_rfl) (by kernel_rfl) (by kernel_rfl) (fun _ _ _ h => h) (Or.inl ⟨by rfl, ?hy8⟩) hHeld ?rest8
      case hy8 =>
        intro w hSw
        go_simp
        try with_reducible rfl
      try simp only [Act.put, List.setIfInBounds_toArray, List.set_cons_zero, List.set_cons_succ, Array.toArray_toList, List.getElem_toArray, List.getElem_cons_zero, List.getElem_cons_succ]
      refine wpAnyH_take (i := 8) (v := ?v9) rfl (by kernel_rfl) (by kernel_rfl) (by kernel_rfl) (fun _ _ _ h => h) (Or.inl ⟨by rfl, ?hy9⟩) hHeld ?rest9
      case hy9 =>
        intro w hSw
        have ld := HL.out _ hSw
        go_simp
        try with_reducible rfl
      try simp only [Act.put, List.setIfInBounds_toArray, List.set_cons_zero, List.set_cons_succ, Array.toArray_toList, List.getElem_toArray, List.getElem_cons_zero, List.getElem_cons_succ]
      refine wpAnyH_take (i := 9) (v := ?v10) rfl (by kernel_rfl) (by kernel_rfl) (by kernel_rfl) (fun _ _ _ h => h) (Or.inl ⟨by rfl, ?hy10⟩) hHeld ?rest10
      case hy10 =>
        intro w hSw
        go_simp
        try with_reducible rfl
      try simp only [Act.put, List.setIfInBounds_toArray, List.set_cons_zero, List.set_cons_succ, Array.toArray_toList, List.getElem_toArray, List.getElem_cons_zero, List.getElem_cons_succ]
      refine wpAnyH_take (i := 10) (v := ?v11) rfl (by kernel_rfl) (by kernel_rfl) (by kernel_rfl) (fun _ _ _ h => h) (Or.inl ⟨by rfl, ?hy11⟩) hHeld ?rest11
      case hy11 =>
        intro w hSw
        go_simp
        try with_reducible rfl
      try simp only [Act.put, List.setIfInBounds_toArray, List.set_cons_zero, List.set_cons_succ, Array.toArray_toList, List.getElem_toArray, List.getElem_cons_zero, List.getElem_cons_succ]
      refine wpAnyH_take (i := 11) (v := ?v12) rfl (by kernel_rfl) (by kernel_rfl) (by kernel_rfl) (fun _ _ _ h => h) (Or.inl ⟨by rfl, ?hy12⟩) hHeld ?rest12
      case hy12 =>
        intro w hSw
        go_simp
        try with_reducible rfl
      try simp only [Act.put, List.setIfInBounds_toArray, List.set_cons_zero, List.set_cons_succ, Array.toArray_toList, List.getElem_toArray, List.getElem_cons_zero, List.getElem_cons_succ]
      refine wpAnyH_take (i := 12) (v := ?v13) rfl (by kernel_rfl) (by kernel_rfl) (by kernel_rfl) (fun _ _ _ h => h) (Or.inl ⟨by rfl, ?hy13⟩) hHeld ?rest13
      case hy13 =>
        intro w hSw
        go_simp
        try with_reducible rfl
      try simp only [Act.put, List.setIfInBounds_toArray, List.set_cons_zero, List.set_cons_succ, Array.toArray_toList, List.getElem_toArray, List.getElem_cons_zero, List.getElem_cons_succ]
      refine wpAnyH_take (i := 13) (v := ?v14) rfl (by kernel_rfl) (by kernel_rfl) (by kernel_rfl) (fun _ _ _ h => h) (Or.inl ⟨by rfl, ?hy14⟩) hHeld ?rest14
      case hy14 =>
        intro w hSw
        go_simp
        try with_reducible rfl
      try simp only [Act.put, List.setIfInBounds_toArray, List.set_cons_zero, List.set_cons_succ, Array.toArray_toList, List.getElem_toArray, List.getElem_cons_zero, List.getElem_cons_succ]
      refine wpAnyH_take (i := 14) (v := ?v15) rfl (by kernel_rfl) (by kernel_rfl) (by kernel_rfl) (fun _ _ _ h => h) (Or.inl ⟨by rfl, ?hy15⟩) hHeld ?rest15
      case hy15 =>
        intro w hSw
        have ld := HL.out _ hSw
        go_simp
        try with_reducible rfl
      try simp only [Act.put, List.setIfInBounds_toArray, List.set_cons_zero, List.set_cons_succ, Array.toArray_toList, List.getElem_toArray, List.getElem_cons_zero, List.getElem_cons_succ]
      refine wpAnyH_take (i := 16) (v := ?v16) rfl (by kernel_rfl) (by kernel_rfl) (by kernel_rfl) (fun _ _ _ h => h) (Or.inl ⟨by rfl, ?hy16⟩) hHeld ?rest16
      case hy16 =>
        intro w hSw
        go_simp
        try with_reducible rfl
      try simp only [Act.put, List.setIfInBounds_toArray, List.set_cons_zero, List.set_cons_succ, Array.toArray_toList, List.getElem_toArray, List.getElem_cons_zero, List.getElem_cons_succ]
      refine wpAnyH_take (i := 17) (v := ?v17) rfl (by kernel_rfl) (by kernel_rfl) (by kernel_rfl) (fun _ _ _ h => h) (Or.inl ⟨by rfl, ?hy17⟩) hHeld ?rest17
      case hy17 =>
        intro w hSw
        go_simp
        try with_reducible rfl
      try simp only [Act.put, List.setIfInBounds_toArray, List.set_cons_zero, List.set_cons_succ, Array.toArray_toList, List.getElem_toArray, List.getElem_cons_zero, List.getElem_cons_succ]
      refine wpAnyH_ready (rs := [15]) (by kernel_rfl) (by simp) ?_
      refine AllReadyH.cons rfl (fun K hK => ?_) AllReadyH.nil
      go_simp
      refine (HTW.out).mono ?_
      rintro e w1 ⟨rfl, hs1⟩
      dsimp only
      obtain ⟨w2, sv2, h2⟩ := HST.out _ hs1
      have H2 := hid h2
      clear h2
      refine hK.out _ _ (HKP.out _ hs1) (fun hHeld => ?_)
      clear hK K
      try simp only [Act.put, List.setIfInBounds_toArray, List.set_cons_zero, List.set_cons_succ, Array.toArray_toList, List.getElem_toArray, List.getElem_cons_zero, List.getElem_cons_succ]
      refine wpAnyH_take (i := 18) (v := ?v18) rfl (by kernel_rfl) (by kernel_rfl) (by kernel_rfl) (fun _ _ _ h => h) (Or.inl ⟨by rfl, ?hy18⟩) hHeld ?rest18
      case hy18 =>
        intro w hSw
        go_simp
        try with_reducible rfl
      try simp only [Act.put, List.setIfInBounds_toArray, List.set_cons_zero, List.set_cons_succ, Array.toArray_toList, List.getElem_toArray, List.getElem_cons_zero, List.getElem_cons_succ]
      refine wpAnyH_ready (rs := [19]) (by kernel_rfl) (by simp) ?_
      refine AllReadyH.cons rfl (fun K hK => ?_) AllReadyH.nil
      go_simp
      refine hK.out _ _ H2.out.2.2 (fun hHeld => ?_)
      clear hK K
      try simp only [Act.put, List.setIfInBounds_toArray, List.set_cons_zero, List.set_cons_succ, Array.toArray_toList, List.getElem_toArray, List.getElem_cons_zero, List.getElem_cons_succ]
      refine wpAnyH_done (by kernel_rfl) ?_ _
      refine NoPanic.normal ?_
      go_wp2
      go_roundw
      case rel => exact ⟨k + 1, by omega, by go_num, H2.out.1⟩
      case measure => simp [intOf]; omega
    · obtain rfl : D = k := by omega
      have b3 : decide (D < D) = false := by simp
      have H := hid (And.intro hB (And.intro hz (And.intro r0 rt)))
      clear hB hz r0 rt
      go_wp2
      go_ret
      exact ⟨rfl, by rw [HRV.out]; exact H.out⟩

end Go.Proofs.YtjimdkpppgjokaaDoor

namespace Go.Proofs.YtjimdkpppgjokaaDoor
open Go.RowKit
set_option linter.unusedVariables false
set_option linter.unusedSimpArgs false

/-- A row of values. -/
def rA (n : Nat) (v : Nat → Value) : Array Value := (Array.range n).map v
theorem rA_size (n : Nat) (v : Nat → Value) : (rA n v).size = n := by simp [rA]
theorem rA_get (n : Nat) (v : Nat → Value) (i : Nat) (h : i < n) : (rA n v)[i]? = some (v i) := by simp [rA, h]
theorem rA_set (n : Nat) (v : Nat → Value) (i : Nat) (x : Value) : (rA n v).setIfInBounds i x = rA n (fun j => if j = i then x else v j) := by
  apply Array.ext_getElem?
  intro j
  by_cases hj : j < n
  · rw [rA_get _ _ _ hj, Array.getElem?_setIfInBounds]
    by_cases h : i = j
    · subst h
      rw [if_pos rfl, if_pos (by rw [rA_size]; exact hj), if_pos rfl]
    · rw [if_neg h, rA_get _ _ _ hj, if_neg (fun e => h e.symm)]
  · rw [Array.getElem?_eq_none (by rw [Array.size_setIfInBounds, rA_size]; omega), Array.getElem?_eq_none (by rw [rA_size]; omega)]
theorem nilR_rA (n : Nat) : nilR n = rA n (fun _ => .slice none 0 0) := by
  apply Array.ext_getElem?
  intro j
  by_cases hj : j < n
  · rw [nilR_get _ _ hj, rA_get _ _ _ hj]
  · rw [Array.getElem?_eq_none (by rw [nilR_size]; omega), Array.getElem?_eq_none (by rw [rA_size]; omega)]

/-- Rows of the tree's own, in blocks that bear a label. -/
def Lab (LB : Nat → Nat) (l : Nat) (v : Value) : Prop := ∀ g, v.ownBlock = some g → LB g = l
def RowL (w : World) (LB : Nat → Nat) (l : Nat) (v : Value) (n : Nat) (f : Nat → Int) : Prop := w.ownsRow 0 33 32 v n (bl f (32 * n)) ∧ Lab LB l v
def il (c : Nat → Int) (n : Nat) : List Value := (List.range n).map fun i => Value.int .i64 (c i)
def bol (c : Nat → Bool) (n : Nat) : List Value := (List.range n).map fun i => Value.bool (c i)
def IntL (w : World) (LB : Nat → Nat) (l : Nat) (v : Value) (n : Nat) (c : Nat → Int) : Prop := w.ownsRow 0 3 1 v n (il c n) ∧ Lab LB l v
def BooL (w : World) (LB : Nat → Nat) (l : Nat) (v : Value) (n : Nat) (c : Nat → Bool) : Prop := w.ownsRow 0 4 1 v n (bol c n) ∧ Lab LB l v

/-- A tree in memory: limit n, depth D, the rows' block R, its rows (values rv, lengths ln, roots rf), the changed leaves, whether each is, the hashes. -/
structure Tre (w : World) (LB : Nat → Nat) (t : Nat) (n D R : Nat) (rv : Nat → Value) (ln : Nat → Nat) (rf : Nat → Nat → Int) (cv : Value) (cn : Nat) (cs : Nat → Int) (iv : Value) (ib : Nat → Bool) (hs : Int) : Prop where
  lt : LB t = 1
  lR : LB R = 2
  dep : D ≤ 30
  blk : w.heap[t]? = some (.cells (trA n (.slice (some ⟨R, 0, none⟩) (D + 1) (D + 1)) (zk D) cv iv hs) 58)
  rws : w.heap[R]? = some (.cells (rA (D + 1) rv) 26)
  row : ∀ d, d ≤ D → RowL w LB (5 + d) (rv d) (ln d) (rf d)
  chg : IntL w LB 3 cv cn cs
  isc : BooL w LB 4 iv (ln 0) ib

/-- What a call on a tree leaves of the memory: blocks without a label. -/
structure Tou (LB : Nat → Nat) (w w' : World) : Prop where
  os : w'.os = w.os
  tape : w'.tape = w.tape
  output : w'.output = w.output
  size : w.heap.size ≤ w'.heap.size
  block : ∀ k, k < w.heap.size → LB k = 0 → w'.heap[k]? = w.heap[k]?
theorem Tou.refl (LB : Nat → Nat) (w : World) : Tou LB w w := ⟨rfl, rfl, rfl, Nat.le_refl _, fun _ _ _ => rfl⟩
theorem Tou.trans {LB : Nat → Nat} {a b c : World} (h : Tou LB a b) (k : Tou LB b c) : Tou LB a c :=
  ⟨k.os.trans h.os, k.tape.trans h.tape, k.output.trans h.output, Nat.le_trans h.size k.size, fun i hi hn => (k.block i (Nat.lt_of_lt_of_le hi h.size) hn).trans (h.block i hi hn)⟩
theorem Tou.ofBelow {LB : Nat → Nat} {a b : World} (h : Below a.heap.size a b) : Tou LB a b := ⟨h.os, h.tape, h.output, h.size, fun i hi _ => h.block i hi⟩
theorem Tre.below {w w' : World} {LB : Nat → Nat} {t n D R : Nat} {rv : Nat → Value} {ln : Nat → Nat} {rf : Nat → Nat → Int} {cv : Value} {cn : Nat} {cs : Nat → Int} {iv : Value} {ib : Nat → Bool} {hs : Int} (h : Tre w LB t n D R rv ln rf cv cn cs iv ib hs) (hb : Below w.heap.size w w') : Tre w' LB t n D R rv ln rf cv cn cs iv ib hs := by
  have hk : ∀ {B s : Nat} {e : TypeId} {v : Value} {m : Nat} {xs : List Value}, w.ownsRow B e s v m xs → w'.ownsRow B e s v m xs := fun ho => ho.kept (row := none) ⟨hb.os, hb.tape, hb.output, hb.size, fun k hk _ => hb.block k hk⟩ (by
    rename_i v m xs
    cases v.ownBlock <;> simp)
  exact ⟨h.lt, h.lR, h.dep, (hb.block _ (Array.getElem?_eq_some_iff.1 h.blk).1).trans h.blk, (hb.block _ (Array.getElem?_eq_some_iff.1 h.rws).1).trans h.rws, fun d hd => ⟨hk (h.row d hd).1, (h.row d hd).2⟩, ⟨hk h.chg.1, h.chg.2⟩, ⟨hk h.isc.1, h.isc.2⟩⟩

/-- A row's address, whole. -/
def ix55 (x i : Value) : Sem Value := Instr.indexAt 55 x i
theorem ix55_eq (x i : Value) : Instr.indexAt 55 x i = ix55 x i := rfl
theorem size_slr (w : World) : (sizeOf 26).run Tryd.prog w = .ok 1 w := by
  have hi : (Tryd.prog.info? 26).map (·.size) = some 1 := by kernel_rfl
  cases hq : Tryd.prog.info? 26 with
  | none => simp [hq] at hi
  | some i => simp [hq] at hi; simp [sizeOf, typeInfo, hq, hi]
theorem ix55_run (w : World) (b len cap i : Nat) (h : i < len) : (ix55 (.slice (some ⟨b, 0, none⟩) len cap) (.int .i64 i)).run Tryd.prog w = .ok (.pointer (some ⟨b, i, none⟩)) w := by
  unfold ix55 Instr.indexAt
  have h1 : (0 : Int) ≤ (i : Int) ∧ (i : Int) < (len : Int) := by omega
  simp only [asIntOf, Sem.run_bind, Sem.run_pure, Result.andThen_ok, run_underlying Tryd.underlying55, if_pos h1, size_slr, Addr.add_mid, Int.toNat_natCast, Nat.mul_one, Nat.zero_add]
theorem row_form {w : World} {B s : Nat} {e : TypeId} {v : Value} {n : Nat} {xs : List Value} (h : w.ownsRow B e s v n xs) : ∃ a cap, v = .slice a n cap := by
  rcases h.2 with ⟨rfl, rfl⟩ | ⟨g, cap, cur, rfl, _⟩
  · exact ⟨none, 0, rfl⟩
  · exact ⟨_, cap, rfl⟩

attribute [local go_sem ↓] sv24_eq lv24_eq ix22_eq slr_eq bd27_eq bs22_eq bd58_eq mk55_eq ix56_eq ix55_eq

set_option maxRecDepth 20000 in
set_option maxHeartbeats 1000000 in
theorem tlen_any {w : World} {LB : Nat → Nat} {t n D R : Nat} {rv : Nat → Value} {ln : Nat → Nat} {rf : Nat → Nat → Int} {cv : Value} {cn : Nat} {cs : Nat → Int} {iv : Value} {ib : Nat → Bool} {hs : Int} (h : Tre w LB t n D R rv ln rf cv cn cs iv ib hs) :
    Calls Tryd.prog 11 #[.pointer (some ⟨t, 0, none⟩)] w fun e w' => e = .returned (.int .i64 (ln 0)) ∧ w' = w := by
  obtain ⟨a, cap, hv⟩ := row_form (h.row 0 (by omega)).1
  have c1 := row_cell h.blk 1
  rw [trA_1] at c1
  have c2 := row_cell h.rws 0
  rw [rA_get _ _ _ (by omega), hv] at c2
  have ixf := fun W => ix55_run W R (D + 1) (D + 1) 0 (by omega)
  rw [show ((0 : Nat) : Int) = 0 from rfl] at ixf
  clear h hv
  generalize ln 0 = L at c2 ⊢
  go_enter Tryd.func11, Tryd.ntmps11
  go_wp2
  go_ret
  exact ⟨rfl, rfl⟩

/-- The root at a place of a row. -/
def tat (ln : Nat → Nat) (rf : Nat → Nat → Int) (d i : Nat) : Nat → Int := gt32 (rf d) (ln d) d i

set_option maxRecDepth 20000 in
set_option maxHeartbeats 1000000 in
theorem tat_any {w : World} {LB : Nat → Nat} {t n D R : Nat} {rv : Nat → Value} {ln : Nat → Nat} {rf : Nat → Nat → Int} {cv : Value} {cn : Nat} {cs : Nat → Int} {iv : Value} {ib : Nat → Bool} {hs : Int} (h : Tre w LB t n D R rv ln rf cv cn cs iv ib hs) (d i : Nat) (hd : d ≤ D) (hi : i ≤ 4611686018427387904) :
    Calls Tryd.prog 27 #[.pointer (some ⟨t, 0, none⟩), .int .i64 d, .int .i64 i] w fun e w' => e = .returned (.agg (vs .u8 32 (tat ln rf d i))) ∧ Below w.heap.size w w' := by
  obtain ⟨a, cap, hv⟩ := row_form (h.row d hd).1
  have hdep := h.dep
  have ht := (Array.getElem?_eq_some_iff.1 h.blk).1
  have hR := (Array.getElem?_eq_some_iff.1 h.rws).1
  have z := zero_root
  have hB : Below w.heap.size w (w.alloc (.cells (vs .u8 32 fun _ => 0) 33)) := (Below.refl _ _).alloc (Nat.le_refl _) _
  have c1 := (below_cell hB ht).trans (row_cell h.blk 1)
  rw [trA_1] at c1
  have c2 := (below_cell hB hR).trans (row_cell h.rws d)
  rw [rA_get _ _ _ (by omega), hv] at c2
  have ixf := fun W => ix55_run W R (D + 1) (D + 1) d (by omega)
  by_cases hlt : i < ln d
  · have b1 : decide (i < ln d) = true := by simp; omega
    have b2 : decide ((i : Int) < (ln d : Int)) = true := by simp; omega
    have hrt := RowR.ofOwns (h.row d hd).1
    obtain ⟨a', cap', hv', hrow⟩ := hrt
    rw [hv] at hv'
    cases hv'
    obtain ⟨b, o, hb, hx, hc⟩ := hrow.rts.at i hlt
    have l2 := lv24_mid (w := w.alloc (.cells (vs .u8 32 fun _ => 0) 33)) (b := b) (o := o) (c := rt32 (rf d) i) (fun j hj => (below_cell hB hb).trans (hc j hj))
    have s2 := sv24_newv w (fun _ => 0) (rt32 (rf d) i)
    have ev : tat ln rf d i = rt32 (rf d) i := if_pos hlt
    rw [ev]
    clear h hv ev hrow hc hB
    generalize ln d = L at c2 b1 b2 hx hlt
    go_enter Tryd.func27, Tryd.ntmps27
    go_wp2
    refine ret24 6 w.heap.size _ 33 rfl rfl rfl (heap_new rfl) ⟨rfl, ?_⟩
    go_grown
  · have b1 : decide (i < ln d) = false := by simp; omega
    have b2 : decide ((i : Int) < (ln d : Int)) = false := by simp; omega
    have ix2 := fun W => ix56_run W t 2 d (by omega)
    have l2 := lv24_mid (w := w.alloc (.cells (vs .u8 32 fun _ => 0) 33)) (b := t) (o := 2 + 32 * d) (c := zr d) (fun j hj => by
      rw [below_cell hB ht, row_cell h.blk, Nat.add_assoc, trA_z _ _ _ _ _ _ _ (by omega), zk_get D d j hd hj])
    have s2 := sv24_newv w (fun _ => 0) (zr d)
    have ev : tat ln rf d i = zr d := if_neg hlt
    rw [ev]
    clear h hv ev hB
    generalize ln d = L at c2 b1 b2 hlt
    go_enter Tryd.func27, Tryd.ntmps27
    go_wp2
    refine ret24 6 w.heap.size _ 33 rfl rfl rfl (heap_new rfl) ⟨rfl, ?_⟩
    go_grown

end Go.Proofs.YtjimdkpppgjokaaDoor

namespace Go.Proofs.YtjimdkpppgjokaaDoor
open Go.RowKit
set_option linter.unusedVariables false
set_option linter.unusedSimpArgs false

/-- The leaf that Get answers, and the error. -/
def getV (L : Nat) (f : Nat → Int) (i : Int) : Nat → Int := if 0 ≤ i ∧ i < (L : Int) then rt32 f i.toNat else fun _ => 0
def getE (L : Nat) (i : Int) : Int := if 0 ≤ i ∧ i < (L : Int) then 0 else 1

attribute [local go_sem ↓] sv24_eq lv24_eq ix22_eq slr_eq bd27_eq bs22_eq bd58_eq mk55_eq ix56_eq ix55_eq

set_option maxRecDepth 20000 in
set_option maxHeartbeats 1000000 in
theorem tget_any {w : World} {LB : Nat → Nat} {t n D R : Nat} {rv : Nat → Value} {ln : Nat → Nat} {rf : Nat → Nat → Int} {cv : Value} {cn : Nat} {cs : Nat → Int} {iv : Value} {ib : Nat → Bool} {hs : Int} (h : Tre w LB t n D R rv ln rf cv cn cs iv ib hs) (i : Int) (h0 : -9223372036854775808 ≤ i) (h1 : i ≤ 9223372036854775807) :
    Calls Tryd.prog 19 #[.pointer (some ⟨t, 0, none⟩), .int .i64 i] w fun e w' => e = .returned (.tuple #[.agg (vs .u8 32 (getV (ln 0) (rf 0) i)), .int .i64 (getE (ln 0) i)]) ∧ Below w.heap.size w w' := by
  have z := zero_root
  have hB : Below w.heap.size w (w.alloc (.cells (vs .u8 32 fun _ => 0) 33)) := (Below.refl _ _).alloc (Nat.le_refl _) _
  have hlen := tlen_any (h.below hB)
  by_cases hi : 0 ≤ i ∧ i < (ln 0 : Int)
  · obtain ⟨I, rfl⟩ : ∃ I : Nat, i = (I : Int) := ⟨i.toNat, by omega⟩
    have hI : I < ln 0 := by omega
    have ev : getV (ln 0) (rf 0) (I : Int) = rt32 (rf 0) I := if_pos hi
    have ee : getE (ln 0) (I : Int) = 0 := if_pos hi
    rw [ev, ee]
    have d0 : decide ((I : Int) < 0) = false := by simp
    have d1 : decide ((ln 0 : Int) ≤ (I : Int)) = false := by simp; omega
    have d2 : decide (ln 0 ≤ I) = false := by simp; omega
    obtain ⟨a, cap, hv, hrow⟩ := RowR.ofOwns (h.row 0 (by omega)).1
    obtain ⟨b, o, hb, hx, hc⟩ := hrow.rts.at I hI
    have ht := (Array.getElem?_eq_some_iff.1 h.blk).1
    have hR := (Array.getElem?_eq_some_iff.1 h.rws).1
    have c1 := (below_cell hB ht).trans (row_cell h.blk 1)
    rw [trA_1] at c1
    have c2 := (below_cell hB hR).trans (row_cell h.rws 0)
    rw [rA_get _ _ _ (by omega), hv] at c2
    have ixf := fun W => ix55_run W R (D + 1) (D + 1) 0 (by omega)
    rw [show ((0 : Nat) : Int) = 0 from rfl] at ixf
    have l2 := lv24_mid (w := w.alloc (.cells (vs .u8 32 fun _ => 0) 33)) (b := b) (o := o) (c := rt32 (rf 0) I) (fun j hj => (below_cell hB hb).trans (hc j hj))
    have s2 := sv24_newv w (fun _ => 0) (rt32 (rf 0) I)
    have HLEN := hid hlen
    clear h hv ev ee hrow hc hB hlen
    generalize ln 0 = L at HLEN c2 hx d1 d2
    go_enter Tryd.func19, Tryd.ntmps19
    go_wp2_with (go_at_call 11; refine HLEN.out.mono ?_; rintro e w1 ⟨rfl, hw1⟩; obtain rfl := hw1.symm)
    refine ret24s 4 5 w.heap.size _ 33 _ rfl rfl rfl rfl (heap_new rfl) ⟨rfl, ?_⟩
    go_grown
  · have ev : getV (ln 0) (rf 0) i = fun _ => 0 := if_neg hi
    have ee : getE (ln 0) i = 1 := if_neg hi
    rw [ev, ee]
    have b0 := bd27_0
    have s2 := sv24_newv w (fun _ => 0) (fun _ => 0)
    have HLEN := hid hlen
    clear h ev ee hB hlen
    by_cases hneg : i < 0
    · have d0 : decide (i < 0) = true := by simp; omega
      clear hi
      go_enter Tryd.func19, Tryd.ntmps19
      go_wp2
      refine ret24s 4 5 w.heap.size _ 33 _ rfl rfl rfl rfl (heap_new rfl) ⟨rfl, ?_⟩
      go_grown
    · have d0 : decide (i < 0) = false := by simp; omega
      have d1 : decide ((ln 0 : Int) ≤ i) = true := by
        have : ¬ i < (ln 0 : Int) := fun h => hi ⟨by omega, h⟩
        simp; omega
      clear hi
      generalize ln 0 = L at HLEN d1
      go_enter Tryd.func19, Tryd.ntmps19
      go_wp2_with (go_at_call 11; refine HLEN.out.mono ?_; rintro e w1 ⟨rfl, hw1⟩; obtain rfl := hw1.symm)
      refine ret24s 4 5 w.heap.size _ 33 _ rfl rfl rfl rfl (heap_new rfl) ⟨rfl, ?_⟩
      go_grown

/-! Rows kept. -/
theorem own_keep {w w' : World} {B s : Nat} {e : TypeId} {v : Value} {n : Nat} {xs : List Value} {row : Option Nat} (h : w.ownsRow B e s v n xs) (hg : w.grownBy w' row) (hne : ∀ b, v.ownBlock = some b → row ≠ some b) : w'.ownsRow B e s v n xs :=
  h.kept hg (by
    cases hv : v.ownBlock with
    | none => exact .inl rfl
    | some b => exact .inr (fun e => hne b hv e.symm))
theorem grown_set (w : World) (g i : Nat) (v : Value) : w.grownBy (w.setCell ⟨g, i, none⟩ v) (some g) :=
  ⟨rfl, rfl, rfl, by simp [World.setCell], fun k _ hk => heap_set_other (fun e => hk (by rw [e]))⟩
theorem grown_new (w : World) (o : Obj) : w.grownBy (w.alloc o) none := ⟨rfl, rfl, rfl, by simp, fun k hk _ => heap_old hk⟩
/-- What a step leaves: all but a block that bears one of the labels. -/
theorem Tre.step {w w' : World} {LB : Nat → Nat} {t n D R : Nat} {rv : Nat → Value} {ln : Nat → Nat} {rf : Nat → Nat → Int} {cv : Value} {cn : Nat} {cs : Nat → Int} {iv : Value} {ib : Nat → Bool} {hs : Int} (h : Tre w LB t n D R rv ln rf cv cn cs iv ib hs) {row : Option Nat} {l : Nat} (hg : w.grownBy w' row) (hl : ∀ b, row = some b → LB b = l) :
    (l ≠ 1 → w'.heap[t]? = w.heap[t]?) ∧ (l ≠ 2 → w'.heap[R]? = w.heap[R]?) ∧ (∀ d, d ≤ D → l ≠ 5 + d → RowL w' LB (5 + d) (rv d) (ln d) (rf d)) ∧ (l ≠ 3 → IntL w' LB 3 cv cn cs) ∧ (l ≠ 4 → BooL w' LB 4 iv (ln 0) ib) := by
  have nb : ∀ (v : Value) (m : Nat), Lab LB m v → l ≠ m → ∀ b, v.ownBlock = some b → row ≠ some b := fun v m hv hm b hb hr => hm ((hl b hr).symm.trans (hv b hb))
  refine ⟨fun h1 => ?_, fun h1 => ?_, fun d hd h1 => ⟨own_keep (h.row d hd).1 hg (nb _ _ (h.row d hd).2 h1), (h.row d hd).2⟩, fun h1 => ⟨own_keep h.chg.1 hg (nb _ _ h.chg.2 h1), h.chg.2⟩, fun h1 => ⟨own_keep h.isc.1 hg (nb _ _ h.isc.2 h1), h.isc.2⟩⟩
  · exact hg.block t (Array.getElem?_eq_some_iff.1 h.blk).1 (fun e => h1 ((hl t e.symm).symm.trans h.lt))
  · exact hg.block R (Array.getElem?_eq_some_iff.1 h.rws).1 (fun e => h1 ((hl R e.symm).symm.trans h.lR))

/-- Labels of new blocks. -/
def lab' (w : World) (LB : Nat → Nat) (l k : Nat) : Nat := if k < w.heap.size then LB k else l
theorem lab'_old (w : World) (LB : Nat → Nat) (l k : Nat) (h : k < w.heap.size) : lab' w LB l k = LB k := if_pos h
theorem lab'_new (w : World) (LB : Nat → Nat) (l k : Nat) (h : w.heap.size ≤ k) : lab' w LB l k = l := if_neg (by omega)
theorem Lab.more {w : World} {B s : Nat} {e : TypeId} {v : Value} {n : Nat} {xs : List Value} {LB : Nat → Nat} {m : Nat} (ho : w.ownsRow B e s v n xs) (h : Lab LB m v) (l : Nat) : Lab (lab' w LB l) m v := fun g hg => (lab'_old w LB l g (ho.lt g hg).2).trans (h g hg)

end Go.Proofs.YtjimdkpppgjokaaDoor
