/-
  What oper.rootOf answers.
-/
import Derived.Test.YtokbhcgooboocaaGreatDoorCoBp
import Derived.Test.YtokbhcgooboocaaGreatDoorOpDp
import Derived.Test.YtokbhcgooboocaaGreatDoorTfDatap
namespace Go.Proofs.YtokbhcgooboocaaGreatDoor
open Go.RowKit
set_option linter.unusedVariables false
set_option linter.unusedSimpArgs false
set_option maxRecDepth 20000

attribute [local go_sem ↓] sv24_eq lv24_eq ix22_eq slr_eq bd27_eq bs22_eq

set_option maxRecDepth 20000 in
set_option maxHeartbeats 1000000 in
theorem orootof_any (a : Option Addr) (len cap : Nat) (f : Nat → Int) (w : World) (hr : Rts w a len cap f) (hl : 32 * len ≤ 140737488355328) (hf : ByB f (32 * len)) (hS : Sh w) :
    Calls Tryz.prog 26 #[.slice a len cap] w fun e w' => e = .returned (.agg (vs .u8 32 (treeV f len (len : Nat)))) ∧ Below w.heap.size w w' := by
  have z := zero_root
  have hB0 : Below w.heap.size w (w.alloc (.cells (vs .u8 32 fun _ => 0) 25)) := (Below.refl _ _).alloc (Nat.le_refl _) _
  have r0 : (w.alloc (.cells (vs .u8 32 fun _ => 0) 25)).heap[w.heap.size]? = some (.cells (vs .u8 32 fun _ => 0) 25) := heap_new rfl
  have z0 : (w.alloc (.cells (vs .u8 32 fun _ => 0) 25)).heap.size = w.heap.size + 1 := by simp
  obtain ⟨W0, hW0⟩ : ∃ W, w.alloc (.cells (vs .u8 32 fun _ => 0) 25) = W := ⟨_, rfl⟩
  rw [hW0] at hB0 r0 z0
  have ht := tree_any a len cap f (len : Nat) W0 (hr.below hB0) hl hf (hS.below hB0) (by omega) (by omega)
  obtain ⟨C, eC⟩ : ∃ C, treeV f len (len : Nat) = C := ⟨_, rfl⟩
  obtain ⟨E, eE⟩ : ∃ E, treeE len (len : Nat) = E := ⟨_, rfl⟩
  rw [eC, eE] at ht
  rw [eC]
  have sv := fun W => sv24_newv W (fun _ => 0) C
  have HT := hid ht
  have R0 := hid r0
  have HB0 := hid hB0
  clear ht r0 hB0 hS hr hf eC eE
  go_enter Tryz.func26, Tryz.ntmps26
  go_upto_region 2 with (go_at_call 58; refine HT.out.mono ?_; rintro e w1 ⟨rfl, hb1⟩)
  obtain ⟨W2, hW2⟩ : ∃ W, w1.alloc (.cells (vs .u8 32 C) 25) = W := ⟨_, rfl⟩
  rw [hW2]
  have hz1 := hb1.size
  have r1 : W2.heap[w1.heap.size]? = some (.cells (vs .u8 32 C) 25) := by rw [← hW2]; exact heap_new rfl
  have r0' : W2.heap[w.heap.size]? = some (.cells (vs .u8 32 fun _ => 0) 25) := by rw [← hW2]; exact (heap_old (by omega)).trans ((hb1.block _ (by omega)).trans R0.out)
  have hB2 : Below w.heap.size w W2 := by rw [← hW2]; exact (HB0.out.trans (hb1.mono (by omega))).alloc (by omega) _
  have l1 := lv24_run r1
  have s1 := sv24_run r0' C
  have HR0 := hid r0'
  have HB2 := hid hB2
  clear r1 r0' hB2 hW2 hb1 sv HT
  go_wp2
  refine ret24 2 w.heap.size _ 25 rfl rfl rfl (setRow_at HR0.out) ⟨rfl, ?_⟩
  exact below_row HB2.out (Nat.le_refl _) _

end Go.Proofs.YtokbhcgooboocaaGreatDoor

namespace Go.Proofs.YtokbhcgooboocaaGreatDoor
open Go.RowKit
set_option linter.unusedVariables false
set_option linter.unusedSimpArgs false
set_option maxRecDepth 20000

attribute [local go_sem ↓] sv24_eq lv24_eq ix22_eq slr_eq bd27_eq bs22_eq

set_option maxRecDepth 20000 in
set_option maxHeartbeats 1000000 in
theorem obroot_any (a : Option Addr) (len cap : Nat) (f : Nat → Int) (w : World) (hb : Bys w a len cap f) (hl : len ≤ 1073741824) (hf : ∀ j, j < len → 0 ≤ f j ∧ f j < 256) (hS : Sh w) :
    Calls Tryz.prog 28 #[.slice a len cap] w fun e w' => e = .returned (.agg (vs .u8 32 (bR f len))) ∧ Below w.heap.size w w' := by
  have z := zero_root
  have hB0 : Below w.heap.size w (w.alloc (.cells (vs .u8 32 fun _ => 0) 25)) := (Below.refl _ _).alloc (Nat.le_refl _) _
  have r0 : (w.alloc (.cells (vs .u8 32 fun _ => 0) 25)).heap[w.heap.size]? = some (.cells (vs .u8 32 fun _ => 0) 25) := heap_new rfl
  have z0 : (w.alloc (.cells (vs .u8 32 fun _ => 0) 25)).heap.size = w.heap.size + 1 := by simp
  obtain ⟨W0, hW0⟩ : ∃ W, w.alloc (.cells (vs .u8 32 fun _ => 0) 25) = W := ⟨_, rfl⟩
  rw [hW0] at hB0 r0 z0
  have hp := pack_any a len cap f W0 (hb.below hB0) (by omega)
  obtain ⟨g0, eg⟩ : ∃ g, W0.heap.size = g := ⟨_, rfl⟩
  have hg0 : w.heap.size < g0 := by omega
  obtain ⟨N, eN⟩ : ∃ N, (len + 31) / 32 = N := ⟨_, rfl⟩
  have ev : bR f len = treeV (pk f len) N (N : Nat) := by unfold bR cks; rw [eN]
  rw [eN, eg] at hp
  have hN : N ≤ 1073741824 := by omega
  have hro : ∀ W : World, Below w.heap.size w W → W.heap[g0]? = some (.cells (vs .u8 (32 * N) (pk f len)) 25) → Calls Tryz.prog 26 #[.slice (some ⟨g0, 0, none⟩) N N] W fun e w' => e = .returned (.agg (vs .u8 32 (bR f len))) ∧ Below W.heap.size W w' := fun W h1 h2 => by
    rw [ev]
    exact orootof_any (some ⟨g0, 0, none⟩) N N (pk f len) W (rts_row h2) (by omega) (pk_bd hf _) (hS.below h1)
  obtain ⟨C, eC⟩ : ∃ C, bR f len = C := ⟨_, rfl⟩
  rw [eC] at hro
  rw [eC]
  have HP := hid hp
  have HRO := hid hro
  have R0 := hid r0
  have HB0 := hid hB0
  clear hp hro r0 hB0 hS hb hf eC ev eN eg z0
  go_enter Tryz.func28, Tryz.ntmps28
  go_wp2_with (first
    | (go_at_call 59; refine HP.out.mono ?_; rintro e w1 ⟨rfl, hb1, hz1, hr1⟩; have HR1 := hid (HRO.out w1 (HB0.out.trans (hb1.mono (by omega))) hr1); have HB1 := hid hb1; clear hb1 hr1)
    | (go_at_call 26; refine HR1.out.mono ?_; rintro e w2 ⟨rfl, hb2⟩; have s1 := sv24_run ((hb2.block w.heap.size (by omega)).trans ((HB1.out.block w.heap.size (by omega)).trans R0.out)) C))
  refine ret24 2 w.heap.size _ 25 rfl rfl rfl (setRow_at ((hb2.block w.heap.size (by omega)).trans ((HB1.out.block w.heap.size (by omega)).trans R0.out))) ⟨rfl, ?_⟩
  exact below_row (HB0.out.trans ((HB1.out.mono (by omega)).trans (hb2.mono (by omega)))) (Nat.le_refl _) _

/-- The root of a list that has these bytes in so many chunks, its length mixed in. -/
def lR (f : Nat → Int) (len c n : Nat) : Nat → Int := tw (treeV (pk f len) (cks len) (c : Nat)) (nmC (n : Int))

set_option maxHeartbeats 1000000 in
theorem lroot_any (a : Option Addr) (len cap : Nat) (f : Nat → Int) (c n : Nat) (w : World) (hb : Bys w a len cap f) (hl : len ≤ 65536) (hf : ∀ j, j < len → 0 ≤ f j ∧ f j < 256) (hc : c ≤ 65536) (hn : n ≤ 65536) (hS : Sh w) :
    Calls Tryz.prog 24 #[.slice a len cap, .int .i64 c, .int .i64 n] w fun e w' => e = .returned (.agg (vs .u8 32 (lR f len c n))) ∧ Below w.heap.size w w' := by
  have z := zero_root
  have hB0 : Below w.heap.size w (w.alloc (.cells (vs .u8 32 fun _ => 0) 25)) := (Below.refl _ _).alloc (Nat.le_refl _) _
  have r0 : (w.alloc (.cells (vs .u8 32 fun _ => 0) 25)).heap[w.heap.size]? = some (.cells (vs .u8 32 fun _ => 0) 25) := heap_new rfl
  have z0 : (w.alloc (.cells (vs .u8 32 fun _ => 0) 25)).heap.size = w.heap.size + 1 := by simp
  obtain ⟨W0, hW0⟩ : ∃ W, w.alloc (.cells (vs .u8 32 fun _ => 0) 25) = W := ⟨_, rfl⟩
  rw [hW0] at hB0 r0 z0
  have hp := pack_any a len cap f W0 (hb.below hB0) (by omega)
  obtain ⟨y, ey⟩ : ∃ y, w.heap.size = y := ⟨_, rfl⟩
  obtain ⟨g0, eg⟩ : ∃ g, W0.heap.size = g := ⟨_, rfl⟩
  rw [ey] at hB0 r0 z0
  have hg0 : y < g0 := by omega
  obtain ⟨N, eN⟩ : ∃ N, (len + 31) / 32 = N := ⟨_, rfl⟩
  rw [eN, eg] at hp
  have hN : N ≤ 65536 := by omega
  have htr : ∀ W : World, Below y w W → W.heap[g0]? = some (.cells (vs .u8 (32 * N) (pk f len)) 25) → Calls Tryz.prog 58 #[.slice (some ⟨g0, 0, none⟩) N N, .int .i64 c] W fun e w' => e = .returned (.tuple #[.agg (vs .u8 32 (treeV (pk f len) N (c : Nat))), .int .i64 (treeE N (c : Nat))]) ∧ Below W.heap.size W w' := fun W h1 h2 =>
    tree_any (some ⟨g0, 0, none⟩) N N (pk f len) (c : Nat) W (rts_row h2) (by omega) (pk_bd hf _) (hS.below (by rw [ey]; exact h1)) (by omega) (by omega)
  have hmx : ∀ W : World, Below y w W → Calls Tryz.prog 60 #[.agg (vs .u8 32 (treeV (pk f len) N (c : Nat))), .int .u64 n] W fun e w' => e = .returned (.agg (vs .u8 32 (lR f len c n))) ∧ Below W.heap.size W w' := fun W h1 => by
    have ev : lR f len c n = tw (treeV (pk f len) N (c : Nat)) (nmC (n : Int)) := by unfold lR cks; rw [eN]
    rw [ev]
    exact mix_any _ (n : Int) W (hS.below (by rw [ey]; exact h1)) (fun j hj => treeV_bd (pk_bd hf _) _ j hj) (by omega) (by omega)
  obtain ⟨C, eC⟩ : ∃ C, treeV (pk f len) N (c : Nat) = C := ⟨_, rfl⟩
  obtain ⟨E, eE⟩ : ∃ E, treeE N (c : Nat) = E := ⟨_, rfl⟩
  obtain ⟨D, eD⟩ : ∃ D, lR f len c n = D := ⟨_, rfl⟩
  rw [eC, eE] at htr
  rw [eC, eD] at hmx
  rw [eD]
  have wr : IntKind.u64.wrap (n : Int) = (n : Int) := by rw [IntKind.wrap_u64]; omega
  have sv := fun W => sv24_newv W (fun _ => 0) C
  have HP := hid hp
  have HTR := hid htr
  have HMX := hid hmx
  have R0 := hid r0
  have HB0 := hid hB0
  have EY := hid ey
  have EG := hid eg
  clear hp htr hmx r0 hB0 hS hb hf eC eE eD eN z0 hl hc
  go_enter Tryz.func24, Tryz.ntmps24
  go_upto_region 2 with (first
    | (go_at_call 59; refine HP.out.mono ?_; rintro e w1 ⟨rfl, hb1, hz1, hr1⟩; have HT1 := hid (HTR.out w1 (HB0.out.trans (hb1.mono (by have := EG.out; omega))) hr1); have HB1 := hid (HB0.out.trans (hb1.mono (by have := EG.out; omega))); have HR1 := hid ((hb1.block y (by have := EG.out; omega)).trans R0.out); have HZ1 := hid hz1; clear hb1 hr1 hz1)
    | (go_at_call 58; refine HT1.out.mono ?_; rintro e w2 ⟨rfl, hb2⟩))
  have hz2 := hb2.size
  have hz1 := HZ1.out
  obtain ⟨W2, hW2⟩ : ∃ W, w2.alloc (.cells (vs .u8 32 C) 25) = W := ⟨_, rfl⟩
  rw [hW2]
  have r1 : W2.heap[w2.heap.size]? = some (.cells (vs .u8 32 C) 25) := by rw [← hW2]; exact heap_new rfl
  have r0' : W2.heap[y]? = some (.cells (vs .u8 32 fun _ => 0) 25) := by rw [← hW2]; exact (heap_old (by omega)).trans ((hb2.block _ (by omega)).trans HR1.out)
  have hB2 : Below y w W2 := by rw [← hW2]; exact (HB1.out.trans (hb2.mono (by omega))).alloc (by omega) _
  have hy2 : y < W2.heap.size := by rw [← hW2]; simp; omega
  have l1 := lv24_run r1
  have HM2 := hid (HMX.out W2 hB2)
  have HR0 := hid r0'
  have HB2 := hid hB2
  have HY2 := hid hy2
  clear r1 r0' hB2 hW2 hb2 sv HT1 hz1 hz2 hy2 ey eg hW0 z
  go_wp2_with (go_at_call 60; refine HM2.out.mono ?_; rintro e w3 ⟨rfl, hb3⟩; have r3 := (hb3.block y HY2.out).trans HR0.out; have s1 := sv24_run r3 D; have R3 := hid r3; have HB3 := hid (HB2.out.trans (hb3.mono (by have := HY2.out; omega))); clear r3 hb3)
  refine ret24 _ y _ 25 rfl rfl rfl (setRow_at R3.out) ⟨rfl, ?_⟩
  rw [EY.out]
  exact below_row HB3.out (Nat.le_refl _) _

/-- The root of a value. -/
def hIndexed (x : VIndexed) : Nat → Int := treeV (fl7 [lR (nB x.zs) (8 * x.n) 16 x.n, hData x.f1, bR x.f2 96]) 3 (3 : Nat)
theorem lR_bd {f : Nat → Int} {len : Nat} (c n : Nat) (hf : ∀ j, j < len → 0 ≤ f j ∧ f j < 256) (j : Nat) (hj : j < 32) : 0 ≤ lR f len c n j ∧ lR f len c n j < 256 := tw_bd _ _ j

end Go.Proofs.YtokbhcgooboocaaGreatDoor
