/-
  What sha.Two answers.
-/
import Derived.Test.YtjimdkpppgjokaaDoorShaJ
namespace Go.Proofs.YtjimdkpppgjokaaDoor
open Go.RowKit
set_option linter.unusedVariables false

attribute [local go_sem ↓] sv24_eq lv24_eq

/-- Two hashes, one behind the other. -/
def cat (a b : Nat → Int) (i : Nat) : Int := if i < 32 then a i else b (i - 32)

set_option maxRecDepth 20000 in
set_option maxHeartbeats 400000 in
theorem two_any (K H a b : Nat → Int) (w : World) (hH : Tab w 0 8 H) (hK : Tab w 1 64 K) (hB : ∀ i, i < 8 → 0 ≤ H i ∧ H i < 4294967296) (ha : ∀ j, j < 32 → 0 ≤ a j ∧ a j < 256) (hb : ∀ j, j < 32 → 0 ≤ b j ∧ b j < 256) :
    Calls Tryd.prog 25 #[.agg (vs .u8 32 a), .agg (vs .u8 32 b)] w fun e w' => e = .returned (.agg (vs .u8 32 (shaV K H (cat a b) 64))) ∧ Below w.heap.size w w' := by
  have HHH := hid hH
  have HK := hid hK
  have HBD := hid hB
  have HA := hid ha
  have HBB := hid hb
  clear hH hK hB ha hb
  go_enter Tryd.func25, Tryd.ntmps25
  go_upto_region 1 with fail
  change Code.wp _ _ _ _ (((w.alloc (.cells (vs .u8 32 a) 33)).alloc (.cells (vs .u8 32 b) 33)).alloc (.cells (vs .u8 32 fun _ => 0) 33))
  obtain ⟨W0, hW0⟩ : ∃ W, ((w.alloc (.cells (vs .u8 32 a) 33)).alloc (.cells (vs .u8 32 b) 33)).alloc (.cells (vs .u8 32 fun _ => 0) 33) = W := ⟨_, rfl⟩
  rw [hW0]
  have s0 : W0.heap.size = w.heap.size + 1 + 1 + 1 := by rw [← hW0]; simp
  have hB0 : Below w.heap.size w W0 := by rw [← hW0]; go_grown
  have ra : W0.heap[w.heap.size]? = some (.cells (vs .u8 32 a) 33) := by rw [← hW0]; exact (heap_old (by simp; omega)).trans ((heap_old (by simp)).trans (heap_new rfl))
  have rb : W0.heap[w.heap.size + 1]? = some (.cells (vs .u8 32 b) 33) := by rw [← hW0]; exact (heap_old (by simp)).trans (heap_new (by simp))
  have r0 : W0.heap[w.heap.size + 1 + 1]? = some (.cells (vs .u8 32 fun _ => 0) 33) := by rw [← hW0]; exact heap_new (by simp)
  obtain ⟨W1, hW1⟩ : ∃ W, W0.alloc (.cells (dg H (fun _ => 0) 0) 83) = W := ⟨_, rfl⟩
  have g1 : W1.heap[W0.heap.size]? = some (.cells (dg H (fun _ => 0) ((0 : Nat) : Int)) 83) := by rw [← hW1]; exact heap_new rfl
  have hB1 : Below W0.heap.size W0 W1 := by rw [← hW1]; exact (Below.refl _ _).alloc (Nat.le_refl _) _
  have hn := new_any H W0 (HHH.out.below hB0)
  rw [hW1] at hn
  have hBw : Below w.heap.size w W1 := hB0.trans (hB1.mono (by omega))
  have z1 : W0.heap.size < W1.heap.size := by rw [← hW1]; simp
  have hk0 := HK.out.1
  have ra1 := (hB1.block w.heap.size (by omega)).trans ra
  have rb1 := (hB1.block (w.heap.size + 1) (by omega)).trans rb
  have r01 := (hB1.block (w.heap.size + 1 + 1) (by omega)).trans r0
  have hw := write_any K H (cat a b) W0.heap.size H (fun _ => 0) 0 32 32 w.heap.size 0 W1 (dig_new K H _ HBD.out) g1 (HK.out.below hBw) (by omega)
    (fun j hj => by rw [Nat.zero_add, row_int ra1 j hj]; unfold cat; rw [if_pos hj]) (fun j hj => by rw [Nat.zero_add]; unfold cat; rw [if_pos hj]; exact HA.out j hj) (by omega) (by omega) (by omega) (by omega) (by omega)
  have HN := hid hn
  have HW := hid hw
  have HR1 := hid (And.intro rb1 r01)
  have HB1 := hid hBw
  have HK1 := hid (HK.out.below hBw)
  have HZ1 := hid (And.intro s0 z1)
  obtain ⟨q, hq⟩ : ∃ q, W0.heap.size = q := ⟨_, rfl⟩
  rw [hq] at HN HW HZ1
  clear hW0 s0 hB0 r0 ra rb ra1 rb1 r01 hW1 g1 hB1 hn hw hBw z1 hq
  go_upto_region 3 with (first
    | (go_at_call 39; refine HN.out.mono ?_; rintro e w1 ⟨rfl, rfl⟩)
    | (go_at_call 40; refine HW.out.mono ?_; rintro e w2 ⟨rfl, hkp, s', f', hd2, hg2⟩))
  have h1 := HZ1.out
  have rb2 := (hkp.block (w.heap.size + 1) (by omega) (by omega)).trans HR1.out.1
  have r02 := (hkp.block (w.heap.size + 1 + 1) (by omega) (by omega)).trans HR1.out.2
  have hB2 : Below w.heap.size w w2 := HB1.out.trans (hkp.below (by omega) (by omega))
  have hz2 := hkp.size
  have hk2 := hkp.tab HK1.out (by omega)
  have hw := write_any K H (cat a b) q s' f' (0 + 32) 32 32 (w.heap.size + 1) 0 w2 hd2 hg2 hk2 (by omega)
    (fun j hj => by rw [Nat.zero_add, Nat.zero_add, row_int rb2 j hj]; unfold cat; rw [if_neg (by omega), show 32 + j - 32 = j by omega]) (fun j hj => by unfold cat; rw [if_neg (by omega), show 0 + 32 + j - 32 = j by omega]; exact HBB.out j hj) (by omega) (by omega) (by omega) (by omega) (by omega)
  have HW2 := hid hw
  have HK2 := hid hk2
  have HR2 := hid r02
  have HB2 := hid hB2
  have HZ2 : Hid (q = w.heap.size + 1 + 1 + 1 ∧ q < w2.heap.size) := by refine ⟨h1.1, ?_⟩; omega
  clear h1 hw rb2 r02 hB2 hz2 hk2 hg2 hd2 hkp
  go_upto_region 4 with (go_at_call 40; refine HW2.out.mono ?_; rintro e w3 ⟨rfl, hkp, s2, f2, hd2, hg2⟩)
  have h1 := HZ2.out
  have hz3 := hkp.size
  have hs := dsum_any K H (cat a b) q s2 f2 64 w3 hd2 hg2 (hkp.tab HK2.out (by omega)) (by omega)
  have r3 := (hkp.block (w.heap.size + 1 + 1) (by omega) (by omega)).trans HR2.out
  have hB3 : Below w.heap.size w w3 := HB2.out.trans (hkp.below (by omega) (by omega))
  have HS := hid hs
  have HR3 := hid r3
  have HB3 := hid hB3
  have HZ3 : Hid (w.heap.size + 1 + 1 < w3.heap.size) := by show w.heap.size + 1 + 1 < w3.heap.size; omega
  clear h1 hz3 hs r3 hB3 hg2 hd2 hkp
  go_wp2_with (go_at_call 41; refine HS.out.mono ?_; rintro e w4 ⟨rfl, hb4⟩; have v24 := sv24_run ((hb4.block _ HZ3.out).trans HR3.out) (shaV K H (cat a b) 64))
  refine ret24 4 (w.heap.size + 1 + 1) _ 33 rfl rfl rfl (setRow_at ((hb4.block _ HZ3.out).trans HR3.out)) ⟨rfl, ?_⟩
  have hz := HZ3.out
  exact below_row (HB3.out.trans (hb4.mono (by omega))) (by omega) _

end Go.Proofs.YtjimdkpppgjokaaDoor
