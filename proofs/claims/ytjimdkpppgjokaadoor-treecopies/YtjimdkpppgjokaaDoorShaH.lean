/-
  What New makes, and what pad writes.
-/
import Derived.Test.YtjimdkpppgjokaaDoorShaG
namespace Go.Proofs.YtjimdkpppgjokaaDoor
open Go.RowKit
set_option linter.unusedVariables false

theorem zero_dg : ∀ w : World, (zeroValue 83).run Tryd.prog w = .ok (.agg (dg (fun _ => 0) (fun _ => 0) 0)) w := (zero_of_info (n := 73) (by kernel_rfl)).1
theorem zero_72 : ∀ w : World, (zeroValue 93).run Tryd.prog w = .ok (.agg (vs .u8 72 fun _ => 0)) w := (zero_of_info (n := 72) (by kernel_rfl)).1

set_option maxRecDepth 20000 in
set_option maxHeartbeats 1000000 in
theorem new_any (H : Nat → Int) (w : World) (hH : Tab w 0 8 H) :
    Calls Tryd.prog 39 #[] w fun e w' => e = .returned (.pointer (some ⟨w.heap.size, 0, none⟩)) ∧ w' = w.alloc (.cells (dg H (fun _ => 0) 0) 83) := by
  have h0 := hH.2 0 (by omega)
  have h1 := hH.2 1 (by omega)
  have h2 := hH.2 2 (by omega)
  have h3 := hH.2 3 (by omega)
  have h4 := hH.2 4 (by omega)
  have h5 := hH.2 5 (by omega)
  have h6 := hH.2 6 (by omega)
  have h7 := hH.2 7 (by omega)
  have z := zero_dg
  have e := dg_set8 (fun _ => 0) (fun _ => 0) H 0 (H 0) (H 1) (H 2) (H 3) (H 4) (H 5) (H 6) (H 7) rfl rfl rfl rfl rfl rfl rfl rfl
  have sz := dg_size (fun _ => 0) (fun _ => 0) 0
  clear hH
  go_enter Tryd.func39, Tryd.ntmps39
  go_wp2
  go_ret
  exact ⟨rfl, rfl⟩

/-- How many bytes stand in the padding ahead of the length. -/
def padZ (L : Nat) : Nat := 1 + (119 - L % 64) % 64
/-- The byte number i of the length in bits. -/
def lenB (L i : Nat) : Int := 8 * (L : Int) / 2 ^ (8 * (7 - i)) % 256
def padB (L j : Nat) : Int := if j = 0 then 128 else if j < padZ L then 0 else lenB L (j - padZ L)
/-- The padded message, and its length. -/
def padM (m : Nat → Int) (L i : Nat) : Int := if i < L then m i else padB L (i - L)
def padL (L : Nat) : Nat := L + padZ L + 8

theorem padZ_bd (L : Nat) : 1 ≤ padZ L ∧ padZ L ≤ 64 ∧ (L + padZ L) % 64 = 56 := by unfold padZ; omega
theorem lenB_bd (L i : Nat) : 0 ≤ lenB L i ∧ lenB L i < 256 := by unfold lenB; omega
theorem padB_bd (L j : Nat) : 0 ≤ padB L j ∧ padB L j < 256 := by
  unfold padB
  by_cases h : j = 0
  · rw [if_pos h]; omega
  · rw [if_neg h]
    by_cases h2 : j < padZ L
    · rw [if_pos h2]; omega
    · rw [if_neg h2]; exact lenB_bd _ _

/-- The padding, k bytes of its length written. -/
def padU (L k j : Nat) : Int := if j = 0 then 128 else if j < padZ L then 0 else if j < padZ L + k then lenB L (j - padZ L) else 0
theorem padU_set (L k : Nat) (v : Int) (hv : v = lenB L k) : vs .u8 72 (fun j => if j = padZ L + k then v else padU L k j) = vs .u8 72 (padU L (k + 1)) := by
  have hz := padZ_bd L
  refine vs_congr fun j _ => ?_
  unfold padU
  by_cases h : j = padZ L + k
  · rw [if_pos h, if_neg (by omega), if_neg (by omega), if_pos (by omega), h, hv]
    congr 1
    omega
  · rw [if_neg h]
    by_cases h0 : j = 0
    · rw [if_pos h0, if_pos h0]
    · rw [if_neg h0, if_neg h0]
      by_cases h1 : j < padZ L
      · rw [if_pos h1, if_pos h1]
      · rw [if_neg h1, if_neg h1]
        by_cases h2 : j < padZ L + k
        · rw [if_pos h2, if_pos (by omega)]
        · rw [if_neg h2, if_neg (by omega)]

theorem padM_at (m : Nat → Int) (L j : Nat) : padM m L (L + j) = padB L j := by
  unfold padM
  rw [if_neg (by omega), show L + j - L = j by omega]
theorem padU_B (L j : Nat) (hj : j < padZ L + 8) : padU L 8 j = padB L j := by
  unfold padU padB
  by_cases h0 : j = 0
  · rw [if_pos h0, if_pos h0]
  · rw [if_neg h0, if_neg h0]
    by_cases h1 : j < padZ L
    · rw [if_pos h1, if_pos h1]
    · rw [if_neg h1, if_neg h1, if_pos hj]

set_option maxRecDepth 20000 in
set_option maxHeartbeats 2000000 in
theorem pad_any (K H m : Nat → Int) (g : Nat) (s f : Nat → Int) (L : Nat) (w : World) (hd : Dig K H m L s f) (hg : w.heap[g]? = some (.cells (dg s f L) 83)) (hK : Tab w 1 64 K) (hg2 : (1 : Nat) ≠ g) (hL : L < 1152921504606846976) :
    Calls Tryd.prog 47 #[.pointer (some ⟨g, 0, none⟩)] w fun e w' => e = .returned (.tuple #[]) ∧ Kept g w w' ∧ ∃ s' f', Dig K H (padM m L) (padL L) s' f' ∧ w'.heap[g]? = some (.cells (dg s' f' (padL L : Nat)) 83) := by
  have c72 := row_cell hg 72
  rw [dg_len] at c72
  obtain ⟨p, ep⟩ : ∃ p, p = L % 64 := ⟨_, rfl⟩
  have r1 : (L : Int) % 64 = (p : Int) := by omega
  obtain ⟨z, ez⟩ : ∃ z, z = padZ L := ⟨_, rfl⟩
  have hz := padZ_bd L
  rw [← ez] at hz
  have r2 : (1 : Int) + (119 - (p : Int)) % 64 = (z : Int) := by rw [ez]; unfold padZ; omega
  have hgl : g < w.heap.size := (Array.getElem?_eq_some_iff.1 hg).1
  have p1 : (p : Int) < 64 := by omega
  have p2 : (0 : Int) ≤ (p : Int) := by omega
  have HD := hid hd
  have HG := hid hg
  have HK := hid hK
  have HE := hid (And.intro ep ez)
  have zv := zero_72
  clear hd hg hK ep ez
  go_enter Tryd.func47, Tryd.ntmps47
  go_wp2
  go_loopw [20] (fun i wr => ∃ k : Nat, k ≤ 8 ∧ i = .int .u64 k ∧ Below w.heap.size w wr ∧ wr.heap.size = w.heap.size + 1 ∧ wr.heap[w.heap.size]? = some (.cells (vs .u8 72 (padU L k)) 93)) (fun i _ => 8 - (intOf i).toNat)
  case atStart =>
    refine ⟨0, by omega, rfl, ?_, by simp, ?_⟩
    · go_grown
    · refine (heap_new rfl).trans ?_
      rw [vs_set]
      refine congrArg (fun c => some (Obj.cells c 93)) (vs_congr fun j _ => ?_)
      unfold padU
      by_cases h0 : j = 0
      · rw [if_pos h0, if_pos h0]
      · rw [if_neg h0, if_neg h0]
        by_cases h1 : j < padZ L
        · rw [if_pos h1]
        · rw [if_neg h1, if_neg (by omega)]
  case round =>
    obtain ⟨k, hk, rfl, hB, hsz, r⟩ := hrel
    by_cases hlt : k < 8
    · have cs := row_int r (z + k) (by omega)
      have fs := row_frozen r (z + k)
      have R := hid r
      have HB := hid hB
      have HSZ := hid hsz
      clear r hB hsz
      have k1 : (0 : Int) ≤ (k : Int) := by omega
      have k2 : (k : Int) < 8 := by omega
      have k3 : (z : Int) + (k : Int) < 72 := by omega
      have k4 : ((z : Int) + (k : Int)).toNat = z + k := by omega
      go_wp2
      go_roundw
      case rel =>
        refine ⟨k + 1, by omega, by go_num, HB.out.setCell (by simp) _, (size_s _ _ _).trans HSZ.out, ?_⟩
        refine (row_set R.out (z + k) _).trans ?_
        rw [vs_set, HE.out.2]
        exact congrArg (fun c => some (Obj.cells c 93)) (padU_set L k _ rfl)
      case measure => simp [intOf]; omega
    · have ek : k = 8 := by omega
      subst ek
      have ez := HE.out.2
      have hd' : Dig K H (padM m L) L s f := HD.out.congr fun i hi => by unfold padM; rw [if_pos hi]
      have hw := write_any K H (padM m L) g s f L (z + 8) 72 w.heap.size 0 wr hd' ((hB.block g hgl).trans HG.out) (HK.out.below hB) hg2
        (fun j hj => by rw [Nat.zero_add, row_int r j (by omega), padM_at, padU_B L j (by omega)])
        (fun j hj => by rw [padM_at]; exact padB_bd _ _) (by omega) (by omega) (by omega) (by omega) (by omega)
      have HW := hid hw
      have HB := hid hB
      have z1 : (0 : Int) ≤ (z : Int) + 8 := by omega
      have z2 : (z : Int) + 8 ≤ 72 := by omega
      have z3 : ((z : Int) + 8).toNat = z + 8 := by omega
      have z4 : z + 8 ≤ 72 := by omega
      clear hw hB r hsz hk hlt hd' ez
      rw [show ((8 : Nat) : Int) = 8 from rfl]
      go_wp2_with (go_at_call 40; refine HW.out.mono ?_; rintro e w' ⟨rfl, hkp, s', f', hd2, hg3⟩)
      have e : L + (z + 8) = padL L := by rw [HE.out.2]; unfold padL; omega
      rw [e] at hd2 hg3
      refine bodyPost_end (results_none rfl _ _ _) rfl ?_
      exact ⟨rfl, (Kept.ofBelow HB.out).trans hkp, s', f', hd2, hg3⟩

end Go.Proofs.YtjimdkpppgjokaaDoor
