/-
  oper.rootOf; what RootProposerSlashing answers.
-/
import Derived.Test.YtokbhcgooboocaaDoorOhAp
import Derived.Test.YtokbhcgooboocaaDoorCoAp
import Derived.Test.YtokbhcgooboocaaDoorCoBp
namespace Go.Proofs.YtokbhcgooboocaaDoor
open Go.RowKit
set_option linter.unusedVariables false
set_option linter.unusedSimpArgs false
set_option maxRecDepth 20000

attribute [local go_sem ↓] sv24_eq lv24_eq ix22_eq slr_eq bd27_eq bs22_eq

set_option maxRecDepth 20000 in
set_option maxHeartbeats 1000000 in
theorem orootof_any (a : Option Addr) (len cap : Nat) (f : Nat → Int) (w : World) (hr : Rts w a len cap f) (hl : 32 * len ≤ 140737488355328) (hf : ByB f (32 * len)) (hS : Sh w) :
    Calls Tryd.prog 30 #[.slice a len cap] w fun e w' => e = .returned (.agg (vs .u8 32 (treeV f len (len : Nat)))) ∧ Below w.heap.size w w' := by
  have z := zero_root
  have hB0 : Below w.heap.size w (w.alloc (.cells (vs .u8 32 fun _ => 0) 25)) := (Below.refl _ _).alloc (Nat.le_refl _) _
  have r0 : (w.alloc (.cells (vs .u8 32 fun _ => 0) 25)).heap[w.heap.size]? = some (.cells (vs .u8 32 fun _ => 0) 25) := heap_new rfl
  have z0 : (w.alloc (.cells (vs .u8 32 fun _ => 0) 25)).heap.size = w.heap.size + 1 := by simp
  obtain ⟨W0, hW0⟩ : ∃ W, w.alloc (.cells (vs .u8 32 fun _ => 0) 25) = W := ⟨_, rfl⟩
  rw [hW0] at hB0 r0 z0
  have ht := tree_any a len cap f (len : Nat) W0 (hr.below hB0) hl hf (hS.below hB0) (by omega) (by omega)
  obtain ⟨C, eC⟩ : ∃ C, treeV f len (len : Nat) = C := ⟨_, rfl⟩
  obtain ⟨E, eE⟩ : ∃ E, treeE len (len : Nat) = E := ⟨_, rfl⟩
  rw [eC, eE] at ht
  rw [eC]
  have sv := fun W => sv24_newv W (fun _ => 0) C
  have HT := hid ht
  have R0 := hid r0
  have HB0 := hid hB0
  clear ht r0 hB0 hS hr hf eC eE
  go_enter Tryd.func30, Tryd.ntmps30
  go_upto_region 2 with (go_at_call 72; refine HT.out.mono ?_; rintro e w1 ⟨rfl, hb1⟩)
  obtain ⟨W2, hW2⟩ : ∃ W, w1.alloc (.cells (vs .u8 32 C) 25) = W := ⟨_, rfl⟩
  rw [hW2]
  have hz1 := hb1.size
  have r1 : W2.heap[w1.heap.size]? = some (.cells (vs .u8 32 C) 25) := by rw [← hW2]; exact heap_new rfl
  have r0' : W2.heap[w.heap.size]? = some (.cells (vs .u8 32 fun _ => 0) 25) := by rw [← hW2]; exact (heap_old (by omega)).trans ((hb1.block _ (by omega)).trans R0.out)
  have hB2 : Below w.heap.size w W2 := by rw [← hW2]; exact (HB0.out.trans (hb1.mono (by omega))).alloc (by omega) _
  have l1 := lv24_run r1
  have s1 := sv24_run r0' C
  have HR0 := hid r0'
  have HB2 := hid hB2
  clear r1 r0' hB2 hW2 hb1 sv HT
  go_wp2
  refine ret24 2 w.heap.size _ 25 rfl rfl rfl (setRow_at HR0.out) ⟨rfl, ?_⟩
  exact below_row HB2.out (Nat.le_refl _) _

attribute [local go_sem ↓] lvSignedHeader_eq

end Go.Proofs.YtokbhcgooboocaaDoor
