/-
  What sha.Sum and sha.Two answer.
-/
import Derived.Test.YtgbmjlckaplocaaDoorShaI
namespace Go.Proofs.YtgbmjlckaplocaaDoor
open Go.RowKit
set_option linter.unusedVariables false

attribute [local go_sem ↓] sv24_eq lv24_eq

set_option maxRecDepth 20000 in
set_option maxHeartbeats 400000 in
theorem sum_any (K H m : Nat → Int) (len cap b0 off : Nat) (w : World) (hH : Tab w 0 8 H) (hK : Tab w 2 64 K) (hB : ∀ i, i < 8 → 0 ≤ H i ∧ H i < 4294967296)
    (hz : ∀ j, j < len → w.cell? ⟨b0, off + j, none⟩ = some (.int .u8 (m j))) (hr : ∀ j, j < len → 0 ≤ m j ∧ m j < 256) (hb : b0 < w.heap.size) (hL : len < 1152921504606846976) (hc : len ≤ cap) (hc' : cap ≤ 9223372036854775807) :
    Calls Tryd.prog 9 #[.slice (some ⟨b0, off, none⟩) len cap] w fun e w' => e = .returned (.agg (vs .u8 32 (shaV K H m len))) ∧ Below w.heap.size w w' := by
  have HHH := hid hH
  have HK := hid hK
  have HBD := hid hB
  have HZ := hid hz
  have HR := hid hr
  clear hH hK hB hz hr
  go_enter Tryd.func9, Tryd.ntmps9
  go_upto_region 1 with fail
  change Code.wp _ _ _ _ (w.alloc (.cells (vs .u8 32 fun _ => 0) 24))
  obtain ⟨W0, hW0⟩ : ∃ W, w.alloc (.cells (vs .u8 32 fun _ => 0) 24) = W := ⟨_, rfl⟩
  rw [hW0]
  have s0 : W0.heap.size = w.heap.size + 1 := by rw [← hW0]; simp
  have hB0 : Below w.heap.size w W0 := by rw [← hW0]; go_grown
  have r0 : W0.heap[w.heap.size]? = some (.cells (vs .u8 32 fun _ => 0) 24) := by rw [← hW0]; exact heap_new rfl
  obtain ⟨W1, hW1⟩ : ∃ W, W0.alloc (.cells (dg H (fun _ => 0) 0) 47) = W := ⟨_, rfl⟩
  have g1 : W1.heap[W0.heap.size]? = some (.cells (dg H (fun _ => 0) ((0 : Nat) : Int)) 47) := by rw [← hW1]; exact heap_new rfl
  have hB1 : Below W0.heap.size W0 W1 := by rw [← hW1]; exact (Below.refl _ _).alloc (Nat.le_refl _) _
  have hn := new_any H W0 (HHH.out.below hB0)
  rw [hW1] at hn
  have hBw : Below w.heap.size w W1 := hB0.trans (hB1.mono (by omega))
  have z1 : W0.heap.size < W1.heap.size := by rw [← hW1]; simp
  have hk0 := HK.out.1
  have hw := write_any K H m W0.heap.size H (fun _ => 0) 0 len cap b0 off W1 (dig_new K H m HBD.out) g1 (HK.out.below hBw) (by omega)
    (fun j hj => by rw [below_cell hBw hb, HZ.out j hj, Nat.zero_add]) (fun j hj => by rw [Nat.zero_add]; exact HR.out j hj) (by omega) (by omega) (by omega) hc hc'
  rw [Nat.zero_add] at hw
  have r1 := (hB1.block w.heap.size (by omega)).trans r0
  have HN := hid hn
  have HW := hid hw
  have HR1 := hid r1
  have HB1 := hid hBw
  have HK1 := hid (HK.out.below hBw)
  have HZ1 := hid (And.intro s0 z1)
  obtain ⟨q, hq⟩ : ∃ q, W0.heap.size = q := ⟨_, rfl⟩
  rw [hq] at HN HW HZ1
  clear hW0 s0 hB0 r0 hW1 g1 hB1 hn hw hBw r1 z1 hq
  go_upto_region 3 with (first
    | (go_at_call 13; refine HN.out.mono ?_; rintro e w1 ⟨rfl, rfl⟩)
    | (go_at_call 15; refine HW.out.mono ?_; rintro e w2 ⟨rfl, hkp, s', f', hd2, hg2⟩))
  have h1 := HZ1.out
  have hs := dsum_any K H m q s' f' len w2 hd2 hg2 (hkp.tab HK1.out (by omega)) hL
  have r2 := (hkp.block w.heap.size (by omega) (by omega)).trans HR1.out
  have hB2 : Below w.heap.size w w2 := HB1.out.trans (hkp.below (by omega) (by omega))
  have hz2 : w.heap.size < w2.heap.size := by have := hkp.size; omega
  have HS := hid hs
  have HR2 := hid r2
  have HB2 := hid hB2
  have HZ2 := hid hz2
  clear h1 hs r2 hB2 hz2 hg2 hd2 hkp
  go_wp2_with (go_at_call 14; refine HS.out.mono ?_; rintro e w3 ⟨rfl, hb3⟩; have v24 := sv24_run ((hb3.block _ HZ2.out).trans HR2.out) (shaV K H m len))
  refine ret24 2 w.heap.size _ 24 rfl rfl rfl (setRow_at ((hb3.block _ HZ2.out).trans HR2.out)) ⟨rfl, ?_⟩
  exact below_row (HB2.out.trans (hb3.mono (Nat.le_of_lt HZ2.out))) (Nat.le_refl _) _

set_option maxRecDepth 20000 in
set_option maxHeartbeats 400000 in
theorem sum_zero (K H m : Nat → Int) (a : Option Addr) (cap : Nat) (w : World) (hH : Tab w 0 8 H) (hK : Tab w 2 64 K) (hB : ∀ i, i < 8 → 0 ≤ H i ∧ H i < 4294967296) :
    Calls Tryd.prog 9 #[.slice a 0 cap] w fun e w' => e = .returned (.agg (vs .u8 32 (shaV K H m 0))) ∧ Below w.heap.size w w' := by
  have HHH := hid hH
  have HK := hid hK
  have HBD := hid hB
  clear hH hK hB
  go_enter Tryd.func9, Tryd.ntmps9
  go_upto_region 1 with fail
  change Code.wp _ _ _ _ (w.alloc (.cells (vs .u8 32 fun _ => 0) 24))
  obtain ⟨W0, hW0⟩ : ∃ W, w.alloc (.cells (vs .u8 32 fun _ => 0) 24) = W := ⟨_, rfl⟩
  rw [hW0]
  have s0 : W0.heap.size = w.heap.size + 1 := by rw [← hW0]; simp
  have hB0 : Below w.heap.size w W0 := by rw [← hW0]; go_grown
  have r0 : W0.heap[w.heap.size]? = some (.cells (vs .u8 32 fun _ => 0) 24) := by rw [← hW0]; exact heap_new rfl
  obtain ⟨W1, hW1⟩ : ∃ W, W0.alloc (.cells (dg H (fun _ => 0) 0) 47) = W := ⟨_, rfl⟩
  have g1 : W1.heap[W0.heap.size]? = some (.cells (dg H (fun _ => 0) ((0 : Nat) : Int)) 47) := by rw [← hW1]; exact heap_new rfl
  have hB1 : Below W0.heap.size W0 W1 := by rw [← hW1]; exact (Below.refl _ _).alloc (Nat.le_refl _) _
  have hn := new_any H W0 (HHH.out.below hB0)
  rw [hW1] at hn
  have hBw : Below w.heap.size w W1 := hB0.trans (hB1.mono (by omega))
  have z1 : W0.heap.size < W1.heap.size := by rw [← hW1]; simp
  have hs := dsum_any K H m W0.heap.size H (fun _ => 0) 0 W1 (dig_new K H m HBD.out) g1 (HK.out.below hBw) (by omega)
  have r1 := (hB1.block w.heap.size (by omega)).trans r0
  have HN := hid hn
  have HS := hid hs
  have HW := hid (write_zero W0.heap.size a cap W1)
  have HR1 := hid r1
  have HB1 := hid hBw
  have HZ : Hid (w.heap.size < W1.heap.size) := by show w.heap.size < W1.heap.size; omega
  obtain ⟨q, hq⟩ : ∃ q, W0.heap.size = q := ⟨_, rfl⟩
  rw [hq] at HN HW HS
  clear hW0 s0 hB0 r0 hW1 g1 hB1 hn hs hBw r1 z1 hq
  go_wp2_with (first
    | (go_at_call 13; refine HN.out.mono ?_; rintro e w1 ⟨rfl, rfl⟩)
    | (go_at_call 15; refine HW.out.mono ?_; rintro e w2 ⟨rfl, rfl⟩)
    | (go_at_call 14; refine HS.out.mono ?_; rintro e w3 ⟨rfl, hb3⟩; have v24 := sv24_run ((hb3.block _ HZ.out).trans HR1.out) (shaV K H m 0)))
  refine ret24 2 w.heap.size _ 24 rfl rfl rfl (setRow_at ((hb3.block _ HZ.out).trans HR1.out)) ⟨rfl, ?_⟩
  exact below_row (HB1.out.trans (hb3.mono (Nat.le_of_lt HZ.out))) (Nat.le_refl _) _

end Go.Proofs.YtgbmjlckaplocaaDoor
