/-
  What ssz.Many answers where it cuts.
-/
import Derived.Test.YtfhplpcbaoefeaaSzI
namespace Go.Proofs.Ytfhplpcbaoefeaa
open Go.RowKit
set_option linter.unusedVariables false
set_option linter.unusedSimpArgs false

theorem sl_upto (ao : Option Addr) (len cap hi : Nat) (m : Nat → Int) (h2 : hi ≤ len) (h3 : len ≤ cap) :
    ∃ A, (∀ W, (sl22 (.slice ao len cap) none (some (.int .u64 hi))).run Try.prog W = .ok (.slice A hi cap) W) ∧ ∀ W, Bys W ao len cap m → Bys W A hi cap m := by
  refine ⟨if cap = 0 then ao else ao.map (·.add 0), fun W => ?_, fun W hb => ?_⟩
  · obtain ⟨i, hi8, _, hz, _⟩ := info_parts info8
    have b1 : ∀ (k n : Nat) (c : BoundsCode), k ≤ n → (Instr.sliceBound (.int .u64 (k : Int)) n c).run Try.prog W = .ok k W := by
      intro k n c hk
      have h0 : (k : Int) ≤ (n : Int) := by omega
      simp [Instr.sliceBound, asIntOf, h0]
    have c2 := fun c => b1 hi cap c (by omega)
    unfold sl22 Instr.sliceAt
    simp [run_underlying Try.underlying22, Instr.slice, Instr.sliceBounds, c2, sizeOf, typeInfo, hi8, hz]
  · have := bys_part hb 0 hi (by omega) h2
    simp only [Nat.sub_zero, Nat.zero_add] at this
    exact this

attribute [local go_sem ↓] sl22_eq

set_option maxRecDepth 20000 in
set_option maxHeartbeats 1000000 in
theorem many_ok (m : Nat → Int) (ao : Option Addr) (len cap n : Nat) (most : Int) (w : World) (hb : Bys w ao len cap m) (hm : ∀ j, j < len → 0 ≤ m j ∧ m j < 256) (hlen : len ≤ 140737488351232) (hlc : len ≤ cap) (hcap : cap ≤ 9223372036854775807)
    (hn1 : 1 ≤ n) (hfi : o4 m 0 = ((4 * n : Nat) : Int)) (hfl : 4 * n ≤ len) (hmo0 : (n : Int) ≤ most) (hmo1 : most ≤ 9223372036854775807) (os : Nat → Nat) (hos : ∀ i, i < n → o4 m (4 * i) = (os i : Int))
    (hle : ∀ i, i < n → os i ≤ len) (hmo : ∀ i, i + 1 < n → os i ≤ os (i + 1)) :
    Calls Try.prog 8 #[.slice ao len cap, .int .i64 most] w fun e w' => ∃ g C gp, e = .returned (.tuple #[.slice (some ⟨gp, 0, none⟩) n n, .int .i64 0]) ∧ w.heap.size ≤ g ∧ w.heap.size ≤ gp ∧ (∀ j, j < len → w'.cell? ⟨g, j, none⟩ = some (.int .u8 (m j))) ∧ g < w'.heap.size ∧ len ≤ C ∧ w'.heap[gp]? = some (.cells (vals n (prts (some ⟨g, 0, none⟩) os len n)) 22) ∧ g ≠ gp ∧ Below w.heap.size w w' := by
  have ho4 := o4_bd m 0 (fun j _ h => hm j (by omega))
  have hnb : n ≤ 1000000000000 := by omega
  obtain ⟨b1, o1, hA1, hq1, hq2, hq3, hq4⟩ := bys_pos hb (by omega)
  have hro := readoff_any m b1 o1 len cap w (fun j hj => hq4 j (by omega)) (fun j hj => hm _ (by omega)) (by omega) hq3
  rw [hfi] at hro
  obtain ⟨F, eF⟩ : ∃ F, 4 * n = F := ⟨_, rfl⟩
  rw [eF] at hro
  obtain ⟨A2, hA2, hp2⟩ := sl_upto ao len cap F m (by omega) hlc
  have f1 : ¬ (F : Int) = 0 := by omega
  have f2 : (F : Int) % 4 = 0 := by omega
  have f3 : ¬ (len : Int) < (F : Int) := by omega
  have f3n : ¬ len < F := by omega
  have f3m : F ≤ len := by omega
  have f4 : (F : Int) / 4 = (n : Int) := by omega
  have f5 : ¬ most < (n : Int) := by omega
  have f6 : ¬ most < 0 := by omega
  have f7 : (0 : Int) ≤ most := by omega
  have f8 : (4 : Int) ≤ (len : Int) := by omega
  have f9 : (len : Int) ≤ 140737488351232 := by omega
  have f10 : (F : Int).tmod 4 = 0 := by rw [Int.tmod_eq_emod_of_nonneg (by omega)]; exact f2
  have f11 : (F : Int).tdiv 4 = (n : Int) := by rw [Int.tdiv_eq_ediv_of_nonneg (by omega)]; exact f4
  have HRO := hid hro
  have HA : Hid (Bys w ao len cap m ∧ (∀ j, j < len → 0 ≤ m j ∧ m j < 256) ∧ 4 * n = F ∧ (∀ W, Bys W ao len cap m → Bys W A2 F cap m)) := ⟨hb, hm, eF, hp2⟩
  have HOS := hid hos
  have HLE := hid hle
  have HMO := hid hmo
  have HFL := hid hfl
  subst hA1
  clear hb hm hq1 hq2 hq3 hq4 hro hp2 eF hos hle hmo hfi ho4 hfl
  go_enter Try.func8, Try.ntmps8
  go_wp2
  refine wp_scope_jumps 0 (fun _ _ => False) (fun _ _ => 0) rfl ?_ (fun _ _ h => h.elim)
  go_upto_region 15 with (go_at_call 14; refine HRO.out.mono ?_; rintro e w1 ⟨rfl, hb1⟩)
  obtain ⟨hb, hm, eF, hp2⟩ := HA.out
  have hfl := HFL.out
  have hrs := readoffs_any m A2 F cap n w1 (hp2 w1 (hb.below hb1)) (fun j hj => hm j (by omega)) (by omega) eF.symm hnb
  obtain ⟨go, ego⟩ : ∃ x, w1.heap.size = x := ⟨_, rfl⟩
  rw [ego] at hrs
  have HRS := hid hrs
  have HB1 := hid hb1
  have HGO := hid ego
  clear hb hm eF hp2 hrs hb1 ego hfl
  go_upto_region 16 with (go_at_call 15; refine HRS.out.mono ?_; rintro e w2 ⟨rfl, hr2, hb2⟩)
  obtain ⟨hb, hm, eF, hp2⟩ := HA.out
  have hb1 := HB1.out
  have ego := HGO.out
  have hfl := HFL.out
  have hz1 := hb1.size
  have hB2 : Below w.heap.size w w2 := hb1.trans (hb2.mono (by omega))
  have hgo := (Array.getElem?_eq_some_iff.1 hr2).1
  have hnm : Nms .u64 w2 (some ⟨go, 0, none⟩) n (fun i => (os i : Int)) := .inr ⟨go, 0, rfl, hgo, fun j hj => by rw [Nat.zero_add, vals_cell hr2 j hj, HOS.out j hj]⟩
  have hord := ordB_true (os := fun i => (os i : Int)) (L := (len : Int)) (n := n) (fun i hi => by
    unfold ordAt
    dsimp only
    have h1 := HLE.out i hi
    by_cases h0 : i = 0
    · rw [if_pos h0]; omega
    · rw [if_neg h0]
      have h2 := HMO.out (i - 1) (by omega)
      rw [show i - 1 + 1 = i by omega] at h2
      omega)
  have hio := inorder_any (fun i => (os i : Int)) (some ⟨go, 0, none⟩) n n len w2 hnm (by omega) (fun i hi => by have := HLE.out i hi; omega) (by omega)
  rw [hord] at hio
  have hcl := clone_any m (some ⟨b1, o1, none⟩) len cap w2 (hb.below hB2) hlen
  have HIO := hid hio
  have HCL := hid hcl
  have H2 : Hid (Below w.heap.size w w2 ∧ Nms .u64 w2 (some ⟨go, 0, none⟩) n (fun i => (os i : Int)) ∧ 0 < len) := ⟨hB2, hnm, by omega⟩
  clear hb hm eF hp2 hb1 ego hz1 hB2 hgo hnm hord hio hcl hr2 hb2 hfl
  go_wp2_with (first
    | (go_at_call 16; refine HIO.out.mono ?_; rintro e w3 ⟨rfl, rfl⟩)
    | (go_at_call 18; refine HCL.out.mono ?_; rintro e w4 ⟨v, rfl, ho4, hb4⟩; obtain ⟨g, C, hv⟩ := owns_pos ho4 (H2.out).2.2; subst hv; have hlo := hid (loose_any (some ⟨g, 0, none⟩) len C os (some ⟨go, 0, none⟩) n n w4 ((H2.out).2.1.below hb4) hnb (own_cells ho4).2.2.1 (by omega) HLE.out HMO.out); have HO4 := hid ho4; have HB4 := hid hb4; clear ho4 hb4)
    | (go_at_call 17; refine hlo.out.mono ?_; rintro e w5 ⟨rfl, hr5, hb5⟩))
  simp only [Exit.jump]
  go_ret2
  obtain ⟨c1, c2, c3, c4, c5⟩ := own_cells HO4.out
  have hz2 := (H2.out).1.size
  have hz4 := (HB4.out).size
  have hz5 := hb5.size
  exact ⟨g, C, _, rfl, by omega, by omega, fun j hj => (below_cell hb5 c2).trans (c5 j hj), by omega, c3, hr5, by omega, ((H2.out).1.trans ((HB4.out).mono hz2)).trans (hb5.mono (by omega))⟩

end Go.Proofs.Ytfhplpcbaoefeaa
