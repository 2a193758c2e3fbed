/-
  Deposit: what the reference's Read answers.
-/
import Derived.Test.YtokbhcgooboocaaDoorOdCp
import Derived.Test.YtokbhcgooboocaaDoorTrDepositDatap
import Derived.Test.YtokbhcgooboocaaDoorTyDepositDatap
namespace Go.Proofs.YtokbhcgooboocaaDoor
open Go.RowKit
set_option linter.unusedVariables false
set_option linter.unusedSimpArgs false
set_option maxRecDepth 20000

attribute [local go_sem ↓] sv24_eq lv24_eq ix22_eq slr_eq bd27_eq bs22_eq mkI_eq ixI_eq ixP_eq bsP_eq bsI_eq lvDepositData_eq svDepositData_eq bdDepositData_eq lvDeposit_eq svDeposit_eq bdDeposit_eq

set_option maxRecDepth 20000 in
set_option maxHeartbeats 2000000 in
theorem rreadDeposit_no (m : Nat → Int) (ao : Option Addr) (len cap : Nat) (w : World) (hb : Bys w ao len cap m) (hm : ∀ j, 0 ≤ m j ∧ m j < 256) (hlc : len ≤ cap) (hcap : cap ≤ 9223372036854775807) (hlen : len ≤ 140737488351232) (hN : ¬ len = 408) :
    Calls Tryd.prog 24 #[.slice ao len cap] w fun e w' => e = .returned (.tuple #[.agg (cel (sDeposit oDeposit)), .int .i64 4]) ∧ Below w.heap.size w w' := by
  have z := zeroDeposit
  obtain ⟨y, ey⟩ : ∃ y, w.heap.size = y := ⟨_, rfl⟩
  obtain ⟨W1, hW1⟩ : ∃ W, w.alloc (.cells (cel (sDeposit oDeposit)) 61) = W := ⟨_, rfl⟩
  obtain ⟨W2, hW2⟩ : ∃ W, W1.alloc (.cells (cel (sDeposit oDeposit)) 61) = W := ⟨_, rfl⟩
  obtain ⟨W3, hW3⟩ : ∃ W, W2.alloc (.cells (vs .i64 2 zDeposit) 3) = W := ⟨_, rfl⟩
  have z1 : W1.heap.size = y + 1 := by rw [← hW1, ← ey]; simp
  have z2 : W2.heap.size = y + 2 := by rw [← hW2]; simp [z1]
  have z3 : W3.heap.size = y + 3 := by rw [← hW3]; simp [z2]
  have hB3 : Below w.heap.size w W3 := by rw [← hW3, ← hW2, ← hW1]; exact (((Below.refl _ _).alloc (Nat.le_refl _) _).alloc (by simp) _).alloc (by simp; omega) _
  have r1 : W3.heap[y]? = some (.cells (cel (sDeposit oDeposit)) 61) := by rw [← hW3]; refine (heap_old (by omega)).trans ?_; rw [← hW2]; refine (heap_old (by omega)).trans ?_; rw [← hW1]; exact heap_new ey.symm
  have r2 : W3.heap[y + 1]? = some (.cells (cel (sDeposit oDeposit)) 61) := by rw [← hW3]; refine (heap_old (by omega)).trans ?_; rw [← hW2]; exact heap_new z1.symm
  have g3 : W3.heap[y + 2]? = some (.cells (vs .i64 2 zDeposit) 3) := by rw [← hW3]; exact heap_new z2.symm
  have bsi := bsI_Deposit W2
  rw [hW3, z2] at bsi
  have hcut := rcut7_no fixDeposit ao len cap (y + 2) W3 hlen g3 hN
  obtain ⟨g, eg⟩ : ∃ g, y + 1 = g := ⟨_, rfl⟩
  obtain ⟨u, eu⟩ : ∃ u, y + 2 = u := ⟨_, rfl⟩
  rw [eu] at bsi hcut
  rw [eg] at r2
  have HCUT := hid hcut
  have R1 := hid r1
  have R2 := hid r2
  have HB3 := hid hB3
  have EY := hid ey
  have EG := hid eg
  have Z3 := hid z3
  clear hcut r1 r2 hB3 g3 z3 hlc hcap hb hlen hN
  go_enter Tryd.func24, Tryd.ntmps24
  go_upto_region 3 with (go_at_call 43; refine HCUT.out.mono ?_; rintro e w1 ⟨a1, c1, rfl, hb1⟩)
  clear hW1 hW2 hW3 ey eg eu bsi z1 z2 z
  have z3 := Z3.out
  have e0 := EG.out
  have rr := (hb1.block y (by omega)).trans R1.out
  have rx := (hb1.block g (by omega)).trans R2.out
  have sv := svDeposit_run rr oDeposit
  have lv := lvDeposit_mid (x := oDeposit) rx 0 (take_all _) rfl
  have RR := hid rr
  have HB1 := hid hb1
  clear rr hb1 rx z3 e0
  go_wp2
  refine retDeposit _ _ y oDeposit 61 _ rfl rfl rfl rfl (setRow_at RR.out) ⟨rfl, ?_⟩
  have e0 := EY.out
  have e1 := HB3.out.size
  exact below_row (HB3.out.trans (HB1.out.mono (by omega))) (by omega) _

set_option maxRecDepth 20000 in
set_option maxHeartbeats 2000000 in
theorem rreadDeposit_ok (m : Nat → Int) (ao : Option Addr) (cap : Nat) (w : World) (hb : Bys w ao 408 cap m) (hm : ∀ j, 0 ≤ m j ∧ m j < 256) (hlc : 408 ≤ cap) (hcap : cap ≤ 9223372036854775807) :
    Calls Tryd.prog 24 #[.slice ao 408 cap] w fun e w' => e = .returned (.tuple #[.agg (cel (sDeposit (pDeposit m))), .int .i64 0]) ∧ Below w.heap.size w w' := by
  have z := zeroDeposit
  obtain ⟨y, ey⟩ : ∃ y, w.heap.size = y := ⟨_, rfl⟩
  obtain ⟨W1, hW1⟩ : ∃ W, w.alloc (.cells (cel (sDeposit oDeposit)) 61) = W := ⟨_, rfl⟩
  obtain ⟨W2, hW2⟩ : ∃ W, W1.alloc (.cells (cel (sDeposit oDeposit)) 61) = W := ⟨_, rfl⟩
  obtain ⟨W3, hW3⟩ : ∃ W, W2.alloc (.cells (vs .i64 2 zDeposit) 3) = W := ⟨_, rfl⟩
  have z1 : W1.heap.size = y + 1 := by rw [← hW1, ← ey]; simp
  have z2 : W2.heap.size = y + 2 := by rw [← hW2]; simp [z1]
  have z3 : W3.heap.size = y + 3 := by rw [← hW3]; simp [z2]
  have hB3 : Below w.heap.size w W3 := by rw [← hW3, ← hW2, ← hW1]; exact (((Below.refl _ _).alloc (Nat.le_refl _) _).alloc (by simp) _).alloc (by simp; omega) _
  have r1 : W3.heap[y]? = some (.cells (cel (sDeposit oDeposit)) 61) := by rw [← hW3]; refine (heap_old (by omega)).trans ?_; rw [← hW2]; refine (heap_old (by omega)).trans ?_; rw [← hW1]; exact heap_new ey.symm
  have r2 : W3.heap[y + 1]? = some (.cells (cel (sDeposit oDeposit)) 61) := by rw [← hW3]; refine (heap_old (by omega)).trans ?_; rw [← hW2]; exact heap_new z1.symm
  have g3 : W3.heap[y + 2]? = some (.cells (vs .i64 2 zDeposit) 3) := by rw [← hW3]; exact heap_new z2.symm
  have bsi := bsI_Deposit W2
  rw [hW3, z2] at bsi
  have hcut := rcut7_ok fixDeposit m ao cap (y + 2) W3 (hb.below hB3) hm (by omega) hlc hcap g3 (by omega) zposDeposit (by omega)
  obtain ⟨g, eg⟩ : ∃ g, y + 1 = g := ⟨_, rfl⟩
  obtain ⟨u, eu⟩ : ∃ u, y + 2 = u := ⟨_, rfl⟩
  rw [eu] at bsi hcut
  rw [eg] at r2
  have HCUT := hid hcut
  have R1 := hid r1
  have R2 := hid r2
  have HB3 := hid hB3
  have EY := hid ey
  have EG := hid eg
  have Z3 := hid z3
  clear hcut r1 r2 hB3 g3 z3 hlc hcap hb
  go_enter Tryd.func24, Tryd.ntmps24
  go_upto_region 3 with (go_at_call 43; refine HCUT.out.mono ?_; rintro e w1 ⟨gp, o, cp, rfl, hgp, hcu, hb1⟩)
  clear hW1 hW2 hW3 ey eg eu bsi z1 z2 z
  have z3 := Z3.out
  have e0 := EG.out
  have hgw : g < w1.heap.size := by have := hb1.size; omega
  have rx : w1.heap[g]? = some (.cells (cel (sDeposit oDeposit)) 61) := (hb1.block g (by omega)).trans R2.out
  obtain ⟨b0, o0, c0, l0, q0, f0⟩ := hcu 0 (by omega)
  replace l0 : w1.cell? ⟨gp, o + 0, none⟩ = some (.slice (some ⟨b0, o0, none⟩) 224 c0) := l0
  replace q0 : Bys w1 (some ⟨b0, o0, none⟩) 224 c0 (fun q => m (0 + q)) := q0
  obtain ⟨P0, eP0⟩ : ∃ P, o + 0 = P := ⟨_, rfl⟩
  rw [eP0] at l0
  have ix0 : ∀ X : World, (ixP (.slice (some ⟨gp, o, none⟩) 2 cp) (.int .i64 0)).run Tryd.prog X = .ok (.pointer (some ⟨gp, P0, none⟩)) X := fun X => by rw [← eP0]; exact ixP_run X gp o 2 cp 0 (by omega)
  obtain ⟨b1, o1, c1, l1, q1, f1⟩ := hcu 1 (by omega)
  replace l1 : w1.cell? ⟨gp, o + 1, none⟩ = some (.slice (some ⟨b1, o1, none⟩) 184 c1) := l1
  replace q1 : Bys w1 (some ⟨b1, o1, none⟩) 184 c1 (fun q => m (224 + q)) := q1
  obtain ⟨P1, eP1⟩ : ∃ P, o + 1 = P := ⟨_, rfl⟩
  rw [eP1] at l1
  have ix1 : ∀ X : World, (ixP (.slice (some ⟨gp, o, none⟩) 2 cp) (.int .i64 1)).run Tryd.prog X = .ok (.pointer (some ⟨gp, P1, none⟩)) X := fun X => by rw [← eP1]; exact ixP_run X gp o 2 cp 1 (by omega)
  have hne : gp ≠ g := cel_no rx l0
  have nb0 : b0 ≠ g := by omega
  have nb1 : b1 ≠ g := by omega
  have HQ0 : Hid (∀ X, Kept g w1 X → ∀ j, j < 224 → X.cell? ⟨b0, o0 + j, none⟩ = some (.int .u8 (m (0 + j)))) := fun X h j hj => by
    obtain ⟨b', o', e', h1, h2, h3⟩ := bys_at q0 (by omega)
    cases e'
    exact (h.cell h1 nb0).trans (h3 j hj)
  have HL0 : Hid (∀ X, Kept g w1 X → X.cell? ⟨gp, P0, none⟩ = some (.slice (some ⟨b0, o0, none⟩) 224 c0)) := fun X h => (h.cell hgp hne).trans l0
  have HQ1 : Hid (∀ X, Kept g w1 X → Bys X (some ⟨b1, o1, none⟩) 184 c1 (fun q => m (224 + q))) := fun X h => by
    obtain ⟨b', o', e', h1, h2, h3⟩ := bys_at q1 (by omega)
    cases e'
    exact .inr (.inr ⟨_, _, rfl, h2, bys_cap q1 (by omega), Nat.lt_of_lt_of_le h1 h.size, fun j hj => (h.cell h1 nb1).trans (h3 j hj)⟩)
  have HL1 : Hid (∀ X, Kept g w1 X → X.cell? ⟨gp, P1, none⟩ = some (.slice (some ⟨b1, o1, none⟩) 184 c1)) := fun X h => (h.cell hgp hne).trans l1
  obtain ⟨N1, eN1⟩ : ∃ N, pDepositData (fun q => m (224 + q)) = N := ⟨_, rfl⟩
  have HN1 : Hid (∀ X, Kept g w1 X → Calls Tryd.prog 63 #[.slice (some ⟨b1, o1, none⟩) 184 c1] X fun e w' => e = .returned (.tuple #[.agg (cel (sDepositData N1)), .int .i64 0]) ∧ Below X.heap.size X w') := fun X h => by
    rw [← eN1]
    exact rreadDepositData_ok _ _ c1 X (HQ1.out X h) (fun j => hm _) (bys_le (HQ1.out X h) (by omega)) (bys_cap (HQ1.out X h) (by omega))
  have EN1 := hid eN1
  have RV0 : Hid (w1.heap[g]? = some (.cells (cel (sDeposit ⟨⟨fun q => if q < 32 * 0 then m q else 0⟩, oDepositData⟩)) 61)) := rx.trans (congrArg (fun c => some (Obj.cells c 61)) (by kernel_rfl))
  have HB1 := hid hb1
  clear rx hb1 hgw hgp hcu z3 e0 l0 l1 q0 q1 f0 f1 eP0 eP1 nb0 nb1 eN1 hne
  go_upto_region 6 with fail
  go_loopw [7] (fun i wr => ∃ k : Nat, k ≤ 7 ∧ i = .int .i64 k ∧ Kept g w1 wr ∧ wr.heap[g]? = some (.cells (cel (sDeposit ⟨⟨fun q => if q < 32 * k then m q else 0⟩, oDepositData⟩)) 61)) (fun i _ => 7 - (intOf i).toNat)
  case atStart => exact ⟨0, by omega, rfl, Kept.refl _ _, RV0.out⟩
  case round =>
    obtain ⟨i, hi, rfl, hkp0, rn0⟩ := hrel
    by_cases hlti : i < 7
    · have bqi : decide (i < 7) = true := by simp; omega
      have i1 : (i : Int) < 7 := by omega
      have i2 : (0 : Int) ≤ (i : Int) := by omega
      have KV0 := hid hkp0
      have RW0 := hid rn0
      obtain ⟨p, ep⟩ : ∃ p : Nat, p = 32 * i := ⟨_, rfl⟩
      have EPP := hid ep
      clear hkp0 rn0 ep
      go_upto_region 9 with fail
      go_loopw [8] (fun j wr => ∃ k : Nat, k ≤ 32 ∧ j = .int .i64 k ∧ Kept g w1 wr ∧ wr.heap[g]? = some (.cells (cel (sDeposit ⟨⟨fun q => if q < 32 * i + k then m q else 0⟩, oDepositData⟩)) 61)) (fun j _ => 32 - (intOf j).toNat)
      case atStart => exact ⟨0, by omega, rfl, KV0.out, RW0.out⟩
      case round =>
        obtain ⟨k, hk, rfl, hkp, rn⟩ := hrel
        by_cases hlt : k < 32
        · have bq : decide (k < 32) = true := by simp; omega
          have k1 : (k : Int) < 32 := by omega
          have k2 : (0 : Int) ≤ (k : Int) := by omega
          have ep := EPP.out
          obtain ⟨n, en⟩ : ∃ n : Nat, n = 32 * i + k := ⟨_, rfl⟩
          have t1 : (32 : Int) * (i : Int) = (p : Int) := by omega
          have t2 : IntKind.i64.wrap (p : Int) = (p : Int) := by rw [IntKind.wrap_i64]; omega
          have t3 : (p : Int) + (k : Int) = (n : Int) := by omega
          have t4 : IntKind.i64.wrap (n : Int) = (n : Int) := by rw [IntKind.wrap_i64]; omega
          have n1 : (n : Int) < 224 := by omega
          have n0 : (0 : Int) ≤ (n : Int) := by omega
          obtain ⟨M, eM⟩ : ∃ M, m n = M := ⟨_, rfl⟩
          have HC : Hid (∀ X, Kept g w1 X → X.cell? ⟨b0, o0 + n, none⟩ = some (.int .u8 M)) := fun X h => by
            have := HQ0.out X h n (by omega)
            rw [Nat.zero_add, eM] at this
            exact this
          have cs : (wr.drew).cell? ⟨g, i * 32 + k, none⟩ = some (.int .u8 (if 32 * i + k < 32 * i + k then m (32 * i + k) else 0)) := (row_cell (w := wr.drew) rn _).trans ((congrArg (fun j => (cel (sDeposit ⟨⟨fun q => if q < 32 * i + k then m q else 0⟩, oDepositData⟩))[j]?) (show i * 32 + k = 0 + (32 * i + k) by omega)).trans (cel_at (sDeposit ⟨⟨fun q => if q < 32 * i + k then m q else 0⟩, oDepositData⟩) 0 (32 * i + k) (Seg.by 224 (fun q => if q < 32 * i + k then m q else 0)) rfl (by show 32 * i + k < 224; omega)))
          have fs := row_frozen (w := wr.drew) rn (i * 32 + k)
          have RN := hid rn
          have HK := hid hkp
          have EM := hid (And.intro eM en)
          clear rn hkp eM en ep
          go_upto_region 11 with fail
          refine wp_region_noPanic ?_
          refine wp_region_held_drew (S := fun X => Kept g w1 X) (by kernel_rfl) (HK.out.drew) (fun hHeld => ?_)
          refine wpAnyH_take (i := 0) (v := ?v295) rfl (by kernel_rfl) (by kernel_rfl) (by kernel_rfl) (fun _ _ _ h => h) (Or.inl ⟨by rfl, ?hy295⟩) hHeld ?rest295
          case hy295 =>
            intro w hSw
            go_simp
            try with_reducible rfl
          try simp only [Act.put, List.setIfInBounds_toArray, List.set_cons_zero, List.set_cons_succ, Array.toArray_toList, List.getElem_toArray, List.getElem_cons_zero, List.getElem_cons_succ]
          refine wpAnyH_take (i := 1) (v := ?v296) rfl (by kernel_rfl) (by kernel_rfl) (by kernel_rfl) (fun _ _ _ h => h) (Or.inl ⟨by rfl, ?hy296⟩) hHeld ?rest296
          case hy296 =>
            intro w hSw
            go_simp
            try with_reducible rfl
          try simp only [Act.put, List.setIfInBounds_toArray, List.set_cons_zero, List.set_cons_succ, Array.toArray_toList, List.getElem_toArray, List.getElem_cons_zero, List.getElem_cons_succ]
          refine wpAnyH_take (i := 2) (v := ?v297) rfl (by kernel_rfl) (by kernel_rfl) (by kernel_rfl) (fun _ _ _ h => h) (Or.inl ⟨by rfl, ?hy297⟩) hHeld ?rest297
          case hy297 =>
            intro w hSw
            go_simp
            try with_reducible rfl
          try simp only [Act.put, List.setIfInBounds_toArray, List.set_cons_zero, List.set_cons_succ, Array.toArray_toList, List.getElem_toArray, List.getElem_cons_zero, List.getElem_cons_succ]
          refine wpAnyH_take (i := 3) (v := ?v298) rfl (by kernel_rfl) (by kernel_rfl) (by kernel_rfl) (fun _ _ _ h => h) (Or.inl ⟨by rfl, ?hy298⟩) hHeld ?rest298
          case hy298 =>
            intro w hSw
            go_simp
            try with_reducible rfl
          try simp only [Act.put, List.setIfInBounds_toArray, List.set_cons_zero, List.set_cons_succ, Array.toArray_toList, List.getElem_toArray, List.getElem_cons_zero, List.getElem_cons_succ]
          refine wpAnyH_take (i := 4) (v := ?v299) rfl (by kernel_rfl) (by kernel_rfl) (by kernel_rfl) (fun _ _ _ h => h) (Or.inl ⟨by rfl, ?hy299⟩) hHeld ?rest299
          case hy299 =>
            intro w hSw
            have ld := HL0.out _ hSw
            go_simp
            try with_reducible rfl
          try simp only [Act.put, List.setIfInBounds_toArray, List.set_cons_zero, List.set_cons_succ, Array.toArray_toList, List.getElem_toArray, List.getElem_cons_zero, List.getElem_cons_succ]
          refine wpAnyH_take (i := 5) (v := ?v300) rfl (by kernel_rfl) (by kernel_rfl) (by kernel_rfl) (fun _ _ _ h => h) (Or.inl ⟨by rfl, ?hy300⟩) hHeld ?rest300
          case hy300 =>
            intro w hSw
            go_simp
            try with_reducible rfl
          try simp only [Act.put, List.setIfInBounds_toArray, List.set_cons_zero, List.set_cons_succ, Array.toArray_toList, List.getElem_toArray, List.getElem_cons_zero, List.getElem_cons_succ]
          refine wpAnyH_take (i := 6) (v := ?v301) rfl (by kernel_rfl) (by kernel_rfl) (by kernel_rfl) (fun _ _ _ h => h) (Or.inl ⟨by rfl, ?hy301⟩) hHeld ?rest301
          case hy301 =>
            intro w hSw
            go_simp
            try with_reducible rfl
          try simp only [Act.put, List.setIfInBounds_toArray, List.set_cons_zero, List.set_cons_succ, Array.toArray_toList, List.getElem_toArray, List.getElem_cons_zero, List.getElem_cons_succ]
          refine wpAnyH_take (i := 7) (v := ?v302) rfl (by kernel_rfl) (by kernel_rfl) (by kernel_rfl) (fun _ _ _ h => h) (Or.inl ⟨by rfl, ?hy302⟩) hHeld ?rest302
          case hy302 =>
            intro w hSw
            go_simp
            try with_reducible rfl
          try simp only [Act.put, List.setIfInBounds_toArray, List.set_cons_zero, List.set_cons_succ, Array.toArray_toList, List.getElem_toArray, List.getElem_cons_zero, List.getElem_cons_succ]
          refine wpAnyH_take (i := 8) (v := ?v303) rfl (by kernel_rfl) (by kernel_rfl) (by kernel_rfl) (fun _ _ _ h => h) (Or.inl ⟨by rfl, ?hy303⟩) hHeld ?rest303
          case hy303 =>
            intro w hSw
            go_simp
            try with_reducible rfl
          try simp only [Act.put, List.setIfInBounds_toArray, List.set_cons_zero, List.set_cons_succ, Array.toArray_toList, List.getElem_toArray, List.getElem_cons_zero, List.getElem_cons_succ]
          refine wpAnyH_take (i := 9) (v := ?v304) rfl (by kernel_rfl) (by kernel_rfl) (by kernel_rfl) (fun _ _ _ h => h) (Or.inl ⟨by rfl, ?hy304⟩) hHeld ?rest304
          case hy304 =>
            intro w hSw
            go_simp
            try with_reducible rfl
          try simp only [Act.put, List.setIfInBounds_toArray, List.set_cons_zero, List.set_cons_succ, Array.toArray_toList, List.getElem_toArray, List.getElem_cons_zero, List.getElem_cons_succ]
          refine wpAnyH_take (i := 10) (v := ?v305) rfl (by kernel_rfl) (by kernel_rfl) (by kernel_rfl) (fun _ _ _ h => h) (Or.inl ⟨by rfl, ?hy305⟩) hHeld ?rest305
          case hy305 =>
            intro w hSw
            have ld := HC.out _ hSw
            go_simp
            try with_reducible rfl
          try simp only [Act.put, List.setIfInBounds_toArray, List.set_cons_zero, List.set_cons_succ, Array.toArray_toList, List.getElem_toArray, List.getElem_cons_zero, List.getElem_cons_succ]
          refine wpAnyH_take (i := 11) (v := ?v306) rfl (by kernel_rfl) (by kernel_rfl) (by kernel_rfl) (fun _ _ _ h => h) (Or.inl ⟨by rfl, ?hy306⟩) hHeld ?rest306
          case hy306 =>
            intro w hSw
            go_simp
            try with_reducible rfl
          try simp only [Act.put, List.setIfInBounds_toArray, List.set_cons_zero, List.set_cons_succ, Array.toArray_toList, List.getElem_toArray, List.getElem_cons_zero, List.getElem_cons_succ]
          refine wpAnyH_take (i := 12) (v := ?v307) rfl (by kernel_rfl) (by kernel_rfl) (by kernel_rfl) (fun _ _ _ h => h) (Or.inl ⟨by rfl, ?hy307⟩) hHeld ?rest307
          case hy307 =>
            intro w hSw
            go_simp
            try with_reducible rfl
          try simp only [Act.put, List.setIfInBounds_toArray, List.set_cons_zero, List.set_cons_succ, Array.toArray_toList, List.getElem_toArray, List.getElem_cons_zero, List.getElem_cons_succ]
          refine wpAnyH_take (i := 13) (v := ?v308) rfl (by kernel_rfl) (by kernel_rfl) (by kernel_rfl) (fun _ _ _ h => h) (Or.inl ⟨by rfl, ?hy308⟩) hHeld ?rest308
          case hy308 =>
            intro w hSw
            go_simp
            try with_reducible rfl
          try simp only [Act.put, List.setIfInBounds_toArray, List.set_cons_zero, List.set_cons_succ, Array.toArray_toList, List.getElem_toArray, List.getElem_cons_zero, List.getElem_cons_succ]
          refine wpAnyH_ready (rs := [14]) (by kernel_rfl) (by simp) ?_
          refine AllReadyH.cons rfl (fun K hK => ?_) AllReadyH.nil
          go_simp
          refine hK.out _ _ (HK.out.drew.setCell _ _) (fun hHeld => ?_)
          clear hK K
          try simp only [Act.put, List.setIfInBounds_toArray, List.set_cons_zero, List.set_cons_succ, Array.toArray_toList, List.getElem_toArray, List.getElem_cons_zero, List.getElem_cons_succ]
          refine wpAnyH_done (by kernel_rfl) ?_ _
          refine NoPanic.normal ?_
          go_wp2
          go_roundw
          case rel =>
            refine ⟨k + 1, by omega, by go_num, HK.out.drew.setCell _ _, (row_set (w := wr.drew) RN.out _ _).trans (congrArg (fun c => some (Obj.cells c 61)) ?_)⟩
            refine Eq.trans ?_ ((cel_set (l := sDeposit ⟨⟨fun q => if q < 32 * i + k then m q else 0⟩, oDepositData⟩) 0 224 (32 * i + k) (fun q => if q < 32 * i + k then m q else 0) M rfl (by omega)).trans ?_)
            · exact congrArg (fun j => (cel (sDeposit ⟨⟨fun q => if q < 32 * i + k then m q else 0⟩, oDepositData⟩)).setIfInBounds j (Value.int .u8 M)) (show i * 32 + k = 0 + (32 * i + k) by omega)
            · have h := EM.out
              rw [← h.1, h.2]
              have hu := up_step m 0 (32 * i + k)
              simp only [Nat.zero_add] at hu
              rw [hu]
              rfl
          case measure => simp [intOf]; omega
        · obtain rfl : k = 32 := by omega
          have bq : decide (32 < 32) = false := by decide
          have RN := hid rn
          have HK := hid hkp
          clear rn hkp
          go_wp2
          go_roundw
          case rel => exact ⟨i + 1, by omega, by go_num, HK.out, RN.out⟩
          case measure => simp [intOf]; omega
    · obtain rfl : i = 7 := by omega
      have bqi : decide (7 < 7) = false := by decide
      obtain ⟨N0, eN0⟩ : ∃ N : VProof, pProof (fun q => m (0 + q)) = N := ⟨_, rfl⟩
      have RW : Hid (wr.heap[g]? = some (.cells (cel (sDeposit ⟨N0, oDepositData⟩)) 61)) := rn0.trans (congrArg (fun c => some (Obj.cells c 61)) (by rw [← eN0]; show _ = cel (sDeposit ⟨⟨fun q => m (0 + q)⟩, oDepositData⟩); rw [show (fun q => m (0 + q)) = m from funext fun q => by rw [Nat.zero_add]]; kernel_rfl))
      have KV := hid hkp0
      have EN0 := hid eN0
      have HB7 := hid bqi
      clear rn0 hkp0 hi hlti RV0 eN0
      have ld := HL1.out _ KV.out
      go_upto_region 15 with (go_at_call 63; refine (HN1.out _ KV.out).mono ?_; rintro e w2 ⟨rfl, hbc⟩; have rg := (hbc.block g (Array.getElem?_eq_some_iff.1 RW.out).1).trans RW.out; have sv := svDepositData_mid rg 224 N1 (by rw [cel_size, slDeposit]; omega); have RG := hid rg; have HBC := hid hbc; clear rg hbc)
      obtain ⟨V2, hV⟩ : ∃ V, w2.setCells g 224 (celL (sDepositData N1)) = V := ⟨_, rfl⟩
      have RV2 : Hid (V2.heap[g]? = some (.cells (cel (sDeposit ⟨N0, N1⟩)) 61)) := by rw [← hV]; exact (setCells_row _ _ RG.out).trans (congrArg (fun c => some (Obj.cells c 61)) (by kernel_rfl))
      have KV2 : Hid (Kept g w1 V2) := by rw [← hV]; exact setCells_kept _ _ (KV.out.trans (Kept.ofBelow HBC.out))
      rw [hV]
      clear hV ld sv RG HBC bqi
      obtain ⟨vv, ev⟩ : ∃ v : VDeposit, ⟨N0, N1⟩ = v := ⟨_, rfl⟩
      have rv := RV2.out
      rw [ev] at rv
      have z3 := Z3.out
      have e0 := EG.out
      have e2 := HB1.out.size
      have rr : V2.heap[y]? = some (.cells (cel (sDeposit oDeposit)) 61) := (KV2.out.block y (by omega) (by omega)).trans ((HB1.out.block y (by omega)).trans R1.out)
      have sv := svDeposit_run rr vv
      have lv := lvDeposit_mid (x := vv) rv 0 (take_all _) rfl
      have RR := hid rr
      have EV := hid ev
      clear rr rv ev z3 e0 e2
      go_wp2
      refine retDeposit _ _ y vv 61 _ rfl rfl rfl rfl (setRow_at RR.out) ⟨?_, ?_⟩
      · rw [← EV.out, ← EN0.out, ← EN1.out]
        rfl
      have e0 := EY.out
      have e1 := HB3.out.size
      have e2 := HB1.out.size
      have e3 := EG.out
      have z3 := Z3.out
      exact below_row (HB3.out.trans ((HB1.out.mono (by omega)).trans (KV2.out.below (by omega) (by omega)))) (by omega) _

end Go.Proofs.YtokbhcgooboocaaDoor

namespace Go.Proofs.YtokbhcgooboocaaDoor
open Go.RowKit
set_option linter.unusedVariables false
set_option linter.unusedSimpArgs false
set_option maxRecDepth 20000

theorem okpProof (m : Nat → Int) (hm : ∀ j, 0 ≤ m j ∧ m j < 256) : OkProof (pProof m) := fun j _ => hm j
theorem epProof (m : Nat → Int) (hm : ∀ j, 0 ≤ m j ∧ m j < 256) (q : Nat) (hq : q < 224) : ct7 (eProof (pProof m)) q = m q := if_pos hq
theorem okoProof : OkProof oProof := fun j hj => bd_zero j _ hj
theorem ebdProof (x : VProof) (hx : OkProof x) (q : Nat) : 0 ≤ ct7 (eProof x) q ∧ ct7 (eProof x) q < 256 := by
  show 0 ≤ (if q < 224 then x.f0 q else 0) ∧ (if q < 224 then x.f0 q else 0) < 256
  by_cases c0 : q < 224
  · rw [if_pos c0]; exact hx _ c0
  rw [if_neg c0]
  exact ⟨Int.le_refl _, by decide⟩

-- type 61
theorem okpDeposit (m : Nat → Int) (hm : ∀ j, 0 ≤ m j ∧ m j < 256) : OkDeposit (pDeposit m) := ⟨okpProof (fun q => m (0 + q)) (fun j => hm (0 + j)), okpDepositData (fun q => m (224 + q)) (fun j => hm (224 + j))⟩
theorem epDeposit (m : Nat → Int) (hm : ∀ j, 0 ≤ m j ∧ m j < 256) (q : Nat) (hq : q < 408) : ct7 (eDeposit (pDeposit m)) q = m q := by
  unfold eDeposit pDeposit
  rw [show ∀ (p : Nat × (Nat → Int)) r q, ct7 (p :: r) q = if q < p.1 then p.2 q else ct7 r (q - p.1) from fun _ _ _ => rfl]
  by_cases h0 : q < 224
  · rw [if_pos h0]; exact (epProof (fun q => m (0 + q)) (fun j => hm (0 + j)) _ h0).trans (congrArg m (by omega))
  rw [if_neg h0]
  rw [show ∀ (p : Nat × (Nat → Int)) r q, ct7 (p :: r) q = if q < p.1 then p.2 q else ct7 r (q - p.1) from fun _ _ _ => rfl]
  by_cases h1 : q - 224 < 184
  · rw [if_pos h1]; exact (epDepositData (fun q => m (224 + q)) (fun j => hm (224 + j)) _ h1).trans (congrArg m (by omega))
  rw [if_neg h1]
  omega
theorem okoDeposit : OkDeposit oDeposit := ⟨okoProof, okoDepositData⟩
theorem ebdDeposit (x : VDeposit) (hx : OkDeposit x) (q : Nat) : 0 ≤ ct7 (eDeposit x) q ∧ ct7 (eDeposit x) q < 256 := by
  obtain ⟨h0, h1⟩ := hx
  unfold eDeposit
  rw [show ∀ (p : Nat × (Nat → Int)) r q, ct7 (p :: r) q = if q < p.1 then p.2 q else ct7 r (q - p.1) from fun _ _ _ => rfl]
  by_cases c0 : q < 224
  · rw [if_pos c0]; exact ebdProof _ h0 _
  rw [if_neg c0]
  rw [show ∀ (p : Nat × (Nat → Int)) r q, ct7 (p :: r) q = if q < p.1 then p.2 q else ct7 r (q - p.1) from fun _ _ _ => rfl]
  by_cases c1 : q - 224 < 184
  · rw [if_pos c1]; exact ebdDepositData _ h1 _
  rw [if_neg c1]
  exact ⟨Int.le_refl _, by show (0 : Int) < 256; decide⟩
theorem rdDeposit (m : Nat → Int) (hm : ∀ j, 0 ≤ m j ∧ m j < 256) (len : Nat) (hlen : len ≤ 140737488351232) : ∃ (V : VDeposit) (E : Int), OkDeposit V ∧ (E = 0 → len = 408 ∧ ∀ q, q < 408 → ct7 (eDeposit V) q = m q) ∧ (len = 408 → E = 0) ∧
    (∀ (w : World) ao cap, Bys w ao len cap m → len ≤ cap → cap ≤ 9223372036854775807 → Calls Tryd.prog 23 #[.slice ao len cap] w fun e w' => e = .returned (.tuple #[.agg (cel (sDeposit V)), .int .i64 E]) ∧ Below w.heap.size w w') ∧
    (∀ (w : World) ao cap, Bys w ao len cap m → len ≤ cap → cap ≤ 9223372036854775807 → Calls Tryd.prog 24 #[.slice ao len cap] w fun e w' => e = .returned (.tuple #[.agg (cel (sDeposit V)), .int .i64 E]) ∧ Below w.heap.size w w') := by
  by_cases h : len = 408
  · subst h
    exact ⟨pDeposit m, 0, okpDeposit m hm, fun _ => ⟨rfl, fun q hq => epDeposit m hm q hq⟩, fun _ => rfl, fun w ao cap h1 h2 h3 => readDeposit_ok m ao cap w h1 hm h2 h3, fun w ao cap h1 h2 h3 => rreadDeposit_ok m ao cap w h1 hm h2 h3⟩
  · exact ⟨oDeposit, 4, okoDeposit, fun h0 => absurd h0 (by decide), fun h0 => absurd h0 h, fun w ao cap h1 h2 h3 => readDeposit_no m ao len cap w h1 hm h2 h3 hlen h, fun w ao cap h1 h2 h3 => rreadDeposit_no m ao len cap w h1 hm h2 h3 hlen h⟩

end Go.Proofs.YtokbhcgooboocaaDoor
