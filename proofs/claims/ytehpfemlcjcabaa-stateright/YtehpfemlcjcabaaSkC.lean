/-
  Committee: what Read answers.
-/

import Derived.Test.YtehpfemlcjcabaaSkB
namespace Go.Proofs.Ytehpfemlcjcabaa

open Go.RowKit

set_option linter.unusedVariables false

set_option linter.unusedSimpArgs false

def svKeys (a : Addr) (v : Value) : Sem Unit := storeVar 45 a v

theorem svKeys_eq (a : Addr) (v : Value) : storeVar 45 a v = svKeys a v := rfl

theorem svKeys_run {w : World} {b : Nat} {o : Nat → Int} {t : TypeId} (h : w.heap[b]? = some (.cells (vs .u8 384 o) t)) (c : Nat → Int) : (svKeys ⟨b, 0, none⟩ (.agg (vs .u8 384 c))).run Try.prog w = .ok () (w.setRow b (vs .u8 384 c)) :=
  run_storeVar_row w b t 45 _ _ h (by rw [vs_size]; kernel_rfl) (by rw [vs_size, vs_size]) (vs_one _ _ _)

theorem lvKeys_run {w : World} {b : Nat} {c : Nat → Int} {t : TypeId} (h : w.heap[b]? = some (.cells (vs .u8 384 c) t)) : (lvKeys ⟨b, 0, none⟩).run Try.prog w = .ok (.agg (vs .u8 384 c)) w :=
  loadAt_var (load_row h 45 _ Try.underlying45 rfl (by rw [vs_size]; kernel_rfl))

theorem retKeys {fn : Func} {R : Ending → World → Prop} {a : Act} {w' : World} (t : Tmp) (b : Nat) (c : Nat → Int) (ty : TypeId) (h : fn.results = #[.cell t 45]) (hd : a.defers = []) (ht : a.tmps.getD t undef = .pointer (some ⟨b, 0, none⟩)) (hr : w'.heap[b]? = some (.cells (vs .u8 384 c) ty))
    (hR : R (.returned (.agg (vs .u8 384 c))) w') : bodyPost Try.prog fn R .ret a w' :=
  bodyPost_ret (results_cell h a.tmps _ b _ ht (load_row hr 45 _ Try.underlying45 rfl (by rw [vs_size]; kernel_rfl))) hd hR

theorem zero_keys : ∀ w : World, (zeroValue 45).run Try.prog w = .ok (.agg (vs .u8 384 fun _ => 0)) w := (zero_of_info (n := 384) (by kernel_rfl)).1

attribute [local go_sem ↓] lvKeys_eq svKeys_eq sl22_eq

set_option maxRecDepth 20000 in
set_option maxHeartbeats 1000000 in
theorem rkeys_any (m : Nat → Int) (b0 o0 c0 : Nat) (w : World) (hb : Bys w (some ⟨b0, o0, none⟩) 384 c0 m) :
    Calls Try.prog 79 #[.slice (some ⟨b0, o0, none⟩) 384 c0] w fun e w' => e = .returned (.agg (vs .u8 384 m)) ∧ Below w.heap.size w w' := by
  obtain ⟨b', o', e', hbl, hcp, hcs⟩ := bys_at hb (by omega)
  cases e'
  have z := zero_keys
  obtain ⟨y, ey⟩ : ∃ y, w.heap.size = y := ⟨_, rfl⟩
  obtain ⟨W1, hW1⟩ : ∃ W, w.alloc (.cells (vs .u8 384 fun _ => 0) 45) = W := ⟨_, rfl⟩
  obtain ⟨W2, hW2⟩ : ∃ W, W1.alloc (.cells (vs .u8 384 fun _ => 0) 45) = W := ⟨_, rfl⟩
  have z1 : W1.heap.size = y + 1 := by rw [← hW1, ← ey]; simp
  have z2 : W2.heap.size = y + 2 := by rw [← hW2]; simp [z1]
  have hB2 : Below w.heap.size w W2 := by rw [← hW2, ← hW1]; exact ((Below.refl _ _).alloc (Nat.le_refl _) _).alloc (by simp) _
  have r1 : W2.heap[y]? = some (.cells (vs .u8 384 fun _ => 0) 45) := by rw [← hW2]; refine (heap_old (by omega)).trans ?_; rw [← hW1]; exact heap_new ey.symm
  have r2 : W2.heap[y + 1]? = some (.cells (vs .u8 384 fun q => if q < 48 * 0 then m q else 0) 45) := by rw [← hW2]; exact (heap_new z1.symm).trans (congrArg (fun c => some (Obj.cells c 45)) (vs_congr fun q _ => by rw [if_neg (by omega)]))
  have HSRC : Hid (∀ X, Kept (y + 1) W2 X → ∀ j, j < 384 → X.cell? ⟨b0, o0 + j, none⟩ = some (.int .u8 (m j))) := fun X h j hj => (h.cell (by omega) (by omega)).trans ((below_cell hB2 (by omega)).trans (hcs j hj))
  obtain ⟨g, eg⟩ : ∃ g, y + 1 = g := ⟨_, rfl⟩
  rw [eg] at r2 HSRC
  have HB2 := hid hB2
  have R1 := hid r1
  have R2 := hid r2
  have EY := hid ey
  have EG := hid eg
  have Z2 := hid z2
  clear hb hbl hcs hB2 r1 r2
  go_enter Try.func79, Try.ntmps79
  go_upto_region 3 with fail
  clear hW1 hW2 z1 z2 ey eg z
  go_loopw [5] (fun i wr => ∃ k : Nat, k ≤ 8 ∧ i = .int .i64 k ∧ Kept g W2 wr ∧ wr.heap[g]? = some (.cells (vs .u8 384 fun q => if q < 48 * k then m q else 0) 45)) (fun i _ => 8 - (intOf i).toNat)
  case atStart => exact ⟨0, by omega, rfl, Kept.refl _ _, R2.out⟩
  case round =>
    obtain ⟨k, hk, rfl, hkp, rn⟩ := hrel
    by_cases hlt : k < 8
    · have bq : decide (k < 8) = true := by simp; omega
      have k1 : (k : Int) < 8 := by omega
      have k2 : (0 : Int) ≤ (k : Int) := by omega
      obtain ⟨p, ep⟩ : ∃ p : Nat, p = 48 * k := ⟨_, rfl⟩
      have q1 : (k : Int) * 48 = (p : Int) := by omega
      have q2 : IntKind.i64.wrap (p : Int) = (p : Int) := by rw [IntKind.wrap_i64]; omega
      have sr := fun W => sl22_run W (some ⟨b0, o0, none⟩) 384 c0 p 384 (some (.int .i64 p)) none (.inl rfl) (.inr ⟨rfl, rfl⟩) (by omega) (Nat.le_refl _) hcp
      rw [if_neg (by omega), Option.map_some, Addr.add_mid] at sr
      obtain ⟨L, eL⟩ : ∃ L, 384 - p = L := ⟨_, rfl⟩
      obtain ⟨CC, eC⟩ : ∃ L, c0 - p = L := ⟨_, rfl⟩
      rw [eL, eC] at sr
      have hcopy := copy_to wr.drew g 384 (fun q => if q < 48 * k then m q else 0) (fun j => m (p + j)) (k * 48) 48 ⟨b0, o0 + p, none⟩ L CC 48 48 45 rn (by omega) (Nat.min_eq_right (show 48 ≤ L by omega)).symm
        (fun j hj => by
          rw [Addr.add_mid, Nat.add_assoc]
          exact HSRC.out wr.drew hkp.drew (p + j) (by omega))
      have HCP := hid hcopy
      have HK := hid hkp
      have RN := hid rn
      have EP := hid ep
      clear hcopy hkp rn ep eL eC
      go_upto_region 5 with fail
      refine wp_region_noPanic ?_
      refine wp_region_held_drew (S := fun _ => True) (by kernel_rfl) (trivial) (fun hHeld => ?_)
      refine tk 0 (v := ?v374) ?y374 hHeld ?r374
      case y374 => intro w hSw; go_simp; try with_reducible rfl
      refine tk 1 (v := ?v375) ?y375 hHeld ?r375
      case y375 => intro w hSw; go_simp; try with_reducible rfl
      refine tk 2 (v := ?v376) ?y376 hHeld ?r376
      case y376 => intro w hSw; go_simp; try with_reducible rfl
      refine tk 3 (v := ?v377) ?y377 hHeld ?r377
      case y377 => intro w hSw; go_simp; try with_reducible rfl
      refine tk 4 (v := ?v378) ?y378 hHeld ?r378
      case y378 => intro w hSw; go_simp; try with_reducible rfl
      refine tk 5 (v := ?v379) ?y379 hHeld ?r379
      case y379 => intro w hSw; go_simp; try with_reducible rfl
      refine tk 6 (v := ?v380) ?y380 hHeld ?r380
      case y380 => intro w hSw; go_simp; try with_reducible rfl
      try simp only [Act.put, List.setIfInBounds_toArray, List.set_cons_zero, List.set_cons_succ, Array.toArray_toList, List.getElem_toArray, List.getElem_cons_zero, List.getElem_cons_succ]
      refine wpAnyH_ready (rs := [7]) (by kernel_rfl) (by simp) ?_
      refine AllReadyH.cons rfl (fun K hK => ?_) AllReadyH.nil
      refine step_copy_is (by rfl) _ _ 39 39 (by rfl) _ _ _ _ (by rfl) (by rfl) HCP.out ?_
      refine hK.out _ _ trivial (fun hHeld => ?_)
      clear hK K
      try simp only [Act.put, List.setIfInBounds_toArray, List.set_cons_zero, List.set_cons_succ, Array.toArray_toList, List.getElem_toArray, List.getElem_cons_zero, List.getElem_cons_succ]
      refine wpAnyH_done (by kernel_rfl) ?_ _
      refine NoPanic.normal ?_
      go_wp2
      go_roundw
      case rel =>
        refine ⟨k + 1, by omega, by go_num, HK.out.drew.setRow _, (setRow_at (w := wr.drew) RN.out).trans (congrArg (fun c => some (Obj.cells c 45)) (vs_congr fun q _ => ?_))⟩
        have e0 := EP.out
        unfold over
        by_cases h : k * 48 ≤ q ∧ q < k * 48 + 48
        · rw [if_pos h, if_pos (by omega)]
          exact congrArg m (by omega)
        · rw [if_neg h]
          show (if q < 48 * k then m q else 0) = _
          by_cases h2 : q < 48 * k
          · rw [if_pos h2, if_pos (by omega)]
          · rw [if_neg h2, if_neg (by omega)]
      case measure => simp [intOf]; omega
    · obtain rfl : k = 8 := by omega
      have bq : decide (8 < 8) = false := by decide
      have e0 := EG.out
      have e1 := Z2.out
      have rv : wr.heap[g]? = some (.cells (vs .u8 384 m) 45) := rn.trans (congrArg (fun c => some (Obj.cells c 45)) (vs_congr fun q hq => if_pos (by omega)))
      have rr := (hkp.block y (by omega) (by omega)).trans R1.out
      have lv := lvKeys_run rv
      have sv := svKeys_run rr m
      have RR := hid rr
      have HK := hid hkp
      clear rn rv rr hkp e0 e1
      go_wp2
      refine retKeys _ y m 45 rfl rfl rfl (setRow_at RR.out) ⟨rfl, ?_⟩
      have e0 := EG.out
      have e1 := Z2.out
      have e2 := EY.out
      exact below_row (HB2.out.trans (HK.out.below (by omega) (by omega))) (by omega) _

attribute [local go_sem ↓] sv24_eq lv24_eq ix22_eq slr_eq bd27_eq bs22_eq sv8_eq mkI_eq ixI_eq ixP_eq bsP_eq bsI_eq lvCommittee_eq svCommittee_eq bdCommittee_eq

set_option maxRecDepth 20000 in
set_option maxHeartbeats 2000000 in
theorem readCommittee_ok (m : Nat → Int) (ao : Option Addr) (cap : Nat) (w : World) (hb : Bys w ao 432 cap m) (hm : ∀ j, 0 ≤ m j ∧ m j < 256) (hlc : 432 ≤ cap) (hcap : cap ≤ 9223372036854775807) :
    Calls Try.prog 45 #[.slice ao 432 cap] w fun e w' => e = .returned (.tuple #[.agg (cel (sCommittee (pCommittee m))), .int .i64 0]) ∧ Below w.heap.size w w' := by
  have z := zeroCommittee
  obtain ⟨W1, hW1⟩ : ∃ W, w.alloc (.cells (cel (sCommittee oCommittee)) 47) = W := ⟨_, rfl⟩
  obtain ⟨W2, hW2⟩ : ∃ W, W1.alloc (.cells (vs .i64 2 zCommittee) 3) = W := ⟨_, rfl⟩
  have hB1 : Below w.heap.size w W1 := by rw [← hW1]; exact (Below.refl _ _).alloc (Nat.le_refl _) _
  have z1 : W1.heap.size = w.heap.size + 1 := by rw [← hW1]; simp
  have z2 : W2.heap.size = w.heap.size + 2 := by rw [← hW2]; simp [z1]
  have hB2 : Below w.heap.size w W2 := by rw [← hW2]; exact hB1.alloc (by omega) _
  have r1 : W1.heap[w.heap.size]? = some (.cells (cel (sCommittee oCommittee)) 47) := by rw [← hW1]; exact heap_new rfl
  have r2 : W2.heap[w.heap.size]? = some (.cells (cel (sCommittee oCommittee)) 47) := by rw [← hW2]; exact (heap_old (by omega)).trans r1
  have g2 : W2.heap[W1.heap.size]? = some (.cells (vs .i64 2 zCommittee) 3) := by rw [← hW2]; exact heap_new rfl
  have bsi := bsI_Committee W1
  rw [hW2] at bsi
  have hcut := cut7_ok fixCommittee m ao cap W1.heap.size W2 (hb.below hB2) hm (by omega) hlc hcap g2 (by omega) zposCommittee (by omega)
  obtain ⟨y, ey⟩ : ∃ y, w.heap.size = y := ⟨_, rfl⟩
  obtain ⟨y1, ey1⟩ : ∃ y, W1.heap.size = y := ⟨_, rfl⟩
  rw [ey1] at bsi hcut
  have hy : y < W2.heap.size := by omega
  rw [ey] at r2
  have HCUT := hid hcut
  have R2 := hid r2
  have HB2 := hid hB2
  have HY := hid hy
  have EY := hid ey
  clear hcut r2 hB2 hy r1 g2 hB1 z1 z2 hlc hcap hb
  go_enter Try.func45, Try.ntmps45
  go_upto_region 2 with (go_at_call 36; refine HCUT.out.mono ?_; rintro e wc ⟨gp, o, rfl, hgp, hcu, hbc⟩)
  clear hW1 hW2 ey ey1 bsi
  obtain ⟨b0, o0, c0, l0, q0⟩ := hcu 0 (by omega)
  replace l0 : wc.cell? ⟨gp, o + 0, none⟩ = some (.slice (some ⟨b0, o0, none⟩) 384 c0) := l0
  replace q0 : Bys wc (some ⟨b0, o0, none⟩) 384 c0 (fun q => m (0 + q)) := q0
  obtain ⟨P0, eP0⟩ : ∃ P, o + 0 = P := ⟨_, rfl⟩
  rw [eP0] at l0
  have ix0 : ∀ X : World, (ixP (.slice (some ⟨gp, o, none⟩) 2 2) (.int .i64 0)).run Try.prog X = .ok (.pointer (some ⟨gp, P0, none⟩)) X := fun X => by rw [← eP0]; exact ixP_run X gp o 2 2 0 (by omega)
  obtain ⟨b1, o1, c1, l1, q1⟩ := hcu 1 (by omega)
  replace l1 : wc.cell? ⟨gp, o + 1, none⟩ = some (.slice (some ⟨b1, o1, none⟩) 48 c1) := l1
  replace q1 : Bys wc (some ⟨b1, o1, none⟩) 48 c1 (fun q => m (384 + q)) := q1
  obtain ⟨P1, eP1⟩ : ∃ P, o + 1 = P := ⟨_, rfl⟩
  rw [eP1] at l1
  have ix1 : ∀ X : World, (ixP (.slice (some ⟨gp, o, none⟩) 2 2) (.int .i64 1)).run Try.prog X = .ok (.pointer (some ⟨gp, P1, none⟩)) X := fun X => by rw [← eP1]; exact ixP_run X gp o 2 2 1 (by omega)
  have q0' : Bys wc (some ⟨b0, o0, none⟩) 384 c0 m := by
    rw [show m = fun q => m (0 + q) from funext fun q => by rw [Nat.zero_add]]
    exact q0
  have hv := rkeys_any m b0 o0 c0 wc q0'
  have HV := hid hv
  have HQ1 := hid q1
  have HL1 := hid l1
  have HL0 := hid l0
  have HBC := hid hbc
  have HGPC := hid hgp
  clear hv q0 q0' q1 hbc hgp hcu eP0 eP1
  go_upto_region 4 with fail
  have ld := HL0.out
  obtain ⟨N0, eN0⟩ : ∃ N : VKeys, (⟨m⟩ : VKeys) = N := ⟨_, rfl⟩
  have bd : ∀ X : World, (bdCommittee #[(0, .agg (vs .u8 384 m))]).run Try.prog X = .ok (.agg (cel (sCommittee ⟨N0, fun _ => 0⟩))) X := fun X => by rw [← eN0]; kernel_rfl
  have EN0 := hid eN0
  clear eN0
  have svv := fun W => svCommittee_newv W oCommittee ⟨N0, fun _ => 0⟩
  go_upto_region 5 with (go_at_call 79; refine HV.out.mono ?_; rintro e w1 ⟨rfl, hbv⟩)
  have q1 : Bys w1 (some ⟨b1, o1, none⟩) 48 c1 (fun q => m (384 + q)) := HQ1.out.below hbv
  have l1 : w1.cell? ⟨gp, P1, none⟩ = some (.slice (some ⟨b1, o1, none⟩) 48 c1) := (below_cell hbv HGPC.out).trans HL1.out
  have Q1 := hid q1
  have L1 := hid l1
  have HB1 := hid (HBC.out.trans (hbv.mono HBC.out.size))
  have HGP := hid (Nat.lt_of_lt_of_le HGPC.out hbv.size)
  obtain ⟨V0, hV0⟩ : ∃ V, w1.alloc (.cells (cel (sCommittee ⟨N0, fun _ => 0⟩)) 47) = V := ⟨_, rfl⟩
  rw [hV0]
  have rV0 : V0.heap[w1.heap.size]? = some (.cells (cel (sCommittee ⟨N0, fun _ => 0⟩)) 47) := by rw [← hV0]; exact heap_new rfl
  have hBV : Below w1.heap.size w1 V0 := by rw [← hV0]; exact (Below.refl _ _).alloc (Nat.le_refl _) _
  obtain ⟨g, eg⟩ : ∃ g, w1.heap.size = g := ⟨_, rfl⟩
  rw [eg] at rV0 hBV ⊢
  have EG := hid eg
  have RV0 := hid rV0
  have HV0 := hid hBV
  clear rV0 hBV q1 l1 hbv hV0 eg z bd svv ld
  have hsrc1 : ∀ j, j < 48 → (V0.drew).cell? (Addr.add ⟨b1, o1, none⟩ j) = some (.int .u8 (m (384 + j))) := fun j hj => by
    obtain ⟨b', o', e', _, _, h'⟩ := bys_at (Q1.out.below (w' := V0.drew) (by rw [EG.out]; exact HV0.out.drew)) (by omega)
    cases e'
    rw [Addr.add_mid]
    exact h' j hj
  have HCP0 := hid (copy_seg V0.drew g 384 48 (sCommittee ⟨N0, fun _ => 0⟩) (sCommittee ⟨N0, fun q => m (384 + q)⟩) (fun q => m (384 + q)) ⟨b1, o1, none⟩ c1 48 47 RV0.out (by rw [slCommittee]; omega) hsrc1 (by kernel_rfl))
  clear hsrc1
  refine wp_region_noPanic ?_
  refine wp_region_held_drew (S := fun X => Below g w1 X) (by kernel_rfl) (HV0.out.drew) (fun hHeld => ?_)
  refine tk 0 (v := ?v381) ?y381 hHeld ?r381
  case y381 => intro w hSw; go_simp; try with_reducible rfl
  refine tk 1 (v := ?v382) ?y382 hHeld ?r382
  case y382 => intro w hSw; go_simp; try with_reducible rfl
  refine tk 2 (v := ?v383) ?y383 hHeld ?r383
  case y383 => intro w hSw; go_simp; try with_reducible rfl
  refine tk 3 (v := ?v384) ?y384 hHeld ?r384
  case y384 => intro w hSw; go_simp; try with_reducible rfl
  refine tk 4 (v := ?v385) ?y385 hHeld ?r385
  case y385 => intro w hSw; have ld := (below_cell hSw (by rw [← EG.out]; exact HGP.out)).trans L1.out; go_simp; try with_reducible rfl
  try simp only [Act.put, List.setIfInBounds_toArray, List.set_cons_zero, List.set_cons_succ, Array.toArray_toList, List.getElem_toArray, List.getElem_cons_zero, List.getElem_cons_succ]
  refine wpAnyH_ready (rs := [5]) (by kernel_rfl) (by simp) ?_
  refine AllReadyH.cons rfl (fun K hK => ?_) AllReadyH.nil
  refine step_copy_is (by rfl) _ _ 39 39 (by rfl) _ _ _ _ (by rfl) (by rfl) HCP0.out ?_
  refine hK.out _ _ (below_row HV0.out.drew (Nat.le_refl _) _) (fun hHeld => ?_)
  clear hK K
  try simp only [Act.put, List.setIfInBounds_toArray, List.set_cons_zero, List.set_cons_succ, Array.toArray_toList, List.getElem_toArray, List.getElem_cons_zero, List.getElem_cons_succ]
  refine wpAnyH_done (by kernel_rfl) ?_ _
  refine NoPanic.normal ?_
  obtain ⟨V1, hV1⟩ : ∃ V, (V0.drew).setRow g (cel (sCommittee ⟨N0, fun q => m (384 + q)⟩)) = V := ⟨_, rfl⟩
  have RV1 : Hid (V1.heap[g]? = some (.cells (cel (sCommittee ⟨N0, fun q => m (384 + q)⟩)) 47)) := by rw [← hV1]; exact setRow_at (w := V0.drew) RV0.out
  have HV1 : Hid (Below g w1 V1) := by rw [← hV1]; exact below_row HV0.out.drew (Nat.le_refl _) _
  rw [hV1]
  clear hV1
  obtain ⟨vv, ev⟩ : ∃ v : VCommittee, ⟨N0, fun q => m (384 + q)⟩ = v := ⟨_, rfl⟩
  have rv := RV1.out
  rw [ev] at rv
  have rr : V1.heap[y]? = some (.cells (cel (sCommittee oCommittee)) 47) := (HV1.out.block _ (by rw [← EG.out]; exact Nat.lt_of_lt_of_le HY.out HB1.out.size)).trans ((HB1.out.block _ HY.out).trans R2.out)
  have sv := svCommittee_run rr vv
  have lv := lvCommittee_mid (x := vv) rv 0 (take_all _) rfl
  have RR := hid rr
  have EV := hid ev
  clear rr rv ev
  go_wp2
  refine retCommittee _ _ y vv 47 _ rfl rfl rfl rfl (setRow_at RR.out) ⟨?_, ?_⟩
  · rw [← EV.out, ← EN0.out]
    rfl
  have e0 := EY.out
  have e1 := HB2.out.size
  have e2 := HB1.out.size
  have e3 := EG.out
  exact below_row (HB2.out.trans ((HB1.out.mono (by omega)).trans (HV1.out.mono (by omega)))) (by omega) _

end Go.Proofs.Ytehpfemlcjcabaa
