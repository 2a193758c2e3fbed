/-
  What the statements' own Rooted and awake answer.
-/

import Derived.Test.YtmapeodhcllimaaDoorJnF
import Derived.Test.YtmapeodhcllimaaDoorJnH
import Derived.Test.YtmapeodhcllimaaDoorQO
import Derived.Test.YtmapeodhcllimaaDoorMaD
import Derived.Test.YtmapeodhcllimaaDoorQF
import Derived.Test.YtmapeodhcllimaaDoorQL
import Derived.Test.YtmapeodhcllimaaDoorQC
namespace Go.Proofs.YtmapeodhcllimaaDoor

open Go.RowKit

set_option linter.unusedVariables false

set_option linter.unusedSimpArgs false

set_option maxRecDepth 20000

/-- The state with another root of the deposits. -/
def rtR (x : VState) (r : Nat → Int) : VState := { x with f8 := { x.f8 with f0 := r } }

def rtS (x : VState) (d : VDeposit) : VState := rtR x (upV (hDepositData d.f1) d.f0.f0 x.f10.toNat 7)

theorem rtR_10 (x : VState) (r : Nat → Int) : (rtR x r).f10 = x.f10 := rfl

theorem st_8r (x : VState) (r : Nat → Int) : putL (cel (sState x)) 654 (bl r 32) = cel (sState (rtR x r)) := by
  have h := put_seg ((sState x).take 14) [.by 32 x.f8.f0] [.by 32 r] ((sState x).drop 15) rfl
  rw [show slen ((sState x).take 14) = 654 by kernel_rfl, show (sState x).take 14 ++ [Seg.by 32 x.f8.f0] ++ (sState x).drop 15 = sState x by kernel_rfl, show (sState x).take 14 ++ [Seg.by 32 r] ++ (sState x).drop 15 = sState (rtR x r) by kernel_rfl, celL_by] at h
  exact h

theorem ok_rt {x : VState} (h : OkState x) {r : Nat → Int} (hr : ∀ j, j < 32 → 0 ≤ r j ∧ r j < 256) : OkState (rtR x r) := ⟨h.o0, h.o1, h.o2, h.o3, h.o4, h.o5, h.o6, h.o7, ⟨hr, h.o8.2⟩, h.o9, h.o10, h.o11, h.o12, h.o13, h.o14, h.o15, h.o16, h.o18, h.o19, h.o20, h.o21, h.o22, h.o23⟩

theorem inw_rt {w : World} {x : VState} (h : InW w x) (r : Nat → Int) : InW w (rtR x r) := ⟨h.i7, h.i9, h.i11, h.i12, h.i15, h.i16, h.i21⟩

theorem nil_rt {x : VState} (h : NilW x) (r : Nat → Int) : NilW (rtR x r) := ⟨h.n9, h.n11, h.n12, h.n21⟩

theorem lns_rt {x : VState} (h : Lns x) (r : Nat → Int) : Lns (rtR x r) := h

theorem right_rt (x : VState) (r : Nat → Int) : rightB (rtR x r) = rightB x := rfl

theorem jn_bd {x : VState} {d : VDeposit} (hd : OkDeposit d) (j : Nat) (hj : j < 32) : 0 ≤ upV (hDepositData d.f1) d.f0.f0 x.f10.toNat 7 j ∧ upV (hDepositData d.f1) d.f0.f0 x.f10.toNat 7 j < 256 := upV_bd (fun j hj => hDepositData_bd hd.2 j hj) _ _ j hj

theorem rt_holds (x : VState) (d : VDeposit) : holdsV (hDepositData d.f1) d.f0.f0 7 (rtS x d).f10.toNat (rtS x d).f8.f0 = true := by
  unfold holdsV
  rw [Bool.and_eq_true]
  exact ⟨by decide, eqR_self _⟩

attribute [local go_sem ↓] lvState_eq svState_eq bdState_eq lvDd_eq lv24_eq sv24_eq

set_option maxHeartbeats 8000000 in
theorem rooted_any (x : VState) (d : VDeposit) (w : World) (hx : OkState x) (hd : OkDeposit d) (hC : Rc w) :
    Calls Tryd.prog 6 #[.agg (cel (sState x)), .agg (cel (sDeposit d))] w fun e' w' => e' = .returned (.agg (cel (sState (rtS x d)))) ∧ Below w.heap.size w w' := by
  obtain ⟨W0, hW0⟩ : ∃ W, ((w.alloc (.cells (cel (sState x)) 49)).alloc (.cells (cel (sDeposit d)) 56)).alloc (.cells (cel (sState oState)) 49) = W := ⟨_, rfl⟩
  have r0 : W0.heap[w.heap.size]? = some (.cells (cel (sState (rtR x x.f8.f0))) 49) := by rw [← hW0]; exact (heap_old (by simp <;> omega)).trans ((heap_old (by simp)).trans (heap_new rfl))
  have r1 : W0.heap[w.heap.size + 1]? = some (.cells (cel (sDeposit d)) 56) := by rw [← hW0]; exact (heap_old (by simp)).trans (heap_new (by simp))
  have r2 : W0.heap[w.heap.size + 2]? = some (.cells (cel (sState oState)) 49) := by rw [← hW0]; exact heap_new (by simp)
  have hB0 : Up w W0 := by rw [← hW0]; exact (((Below.refl _ _).alloc (Nat.le_refl _) _).alloc (by simp) _).alloc (by simp <;> omega) _
  have hf10 : x.f10 = ((x.f10.toNat : Nat) : Int) := (Int.toNat_of_nonneg hx.o10.1).symm
  have hrd := rrootDepositData_any d.f1 W0 hd.2 (hC.below hB0)
  have hup : ∀ W, Up W0 W → Calls Tryd.prog 12 #[.agg (vs .u8 32 (hDepositData d.f1)), .slice (some ⟨w.heap.size + 1, 0, none⟩) 7 7, .int .u64 x.f10] W fun e w' => e = .returned (.agg (vs .u8 32 (upV (hDepositData d.f1) d.f0.f0 x.f10.toNat 7))) ∧ Below W.heap.size W w' := fun W h => by
    have := rup_any (hDepositData d.f1) d.f0.f0 (some ⟨w.heap.size + 1, 0, none⟩) 7 7 x.f10.toNat W (hC.below (upT hB0 h)) (fun j hj => hDepositData_bd hd.2 j hj) (dp_prf (upR h r1)) (fun j hj => hd.1 j (by omega)) (by have := hx.o10.2; omega) (by omega)
    rw [← hf10] at this
    exact this
  have ld0 := dp_dat r1
  have erS : rtS x d = rtR x (upV (hDepositData d.f1) d.f0.f0 x.f10.toNat 7) := rfl
  rw [erS]
  obtain ⟨UV, eUV⟩ : ∃ u, upV (hDepositData d.f1) d.f0.f0 x.f10.toNat 7 = u := ⟨_, rfl⟩
  obtain ⟨HR, eHR⟩ : ∃ u, hDepositData d.f1 = u := ⟨_, rfl⟩
  rw [eUV]
  simp only [eUV] at hup
  simp only [eHR] at hup
  rw [eHR] at hrd
  have z := zeroState
  have zr := zero_root
  have HB := hid hB0
  have HW := hid hW0
  have HRD := hid hrd
  have HUP0 := hid hup
  have R0 := hid r0
  have R2 := hid r2
  have z0 : w.heap.size + 2 < W0.heap.size := some_ltK r2
  clear hB0 hW0 hrd hup r0 r1 r2 hf10 erS eUV eHR hx hd hC
  go_enter Tryd.func6, Tryd.ntmps6
  go_upto_region 1 with fail
  rw [HW.out]
  clear HW z
  go_upto_region 2 with (go_at_call 11; refine HRD.out.mono ?_; rintro e' w1 ⟨rfl, hb1⟩; have sv := sv24_newv w1 (fun _ => 0) HR)
  obtain ⟨V3, y5, hV3, ey5, r5, hd5, b5⟩ := upN2 hb1 (.cells (vs .u8 32 HR) 24)
  rw [hV3, ey5]
  have hu3 := upT hb1 hd5
  have RX := hid (upR hu3 R0.out)
  have R5 := hid r5
  have NE5 : Hid (y5 ≠ w.heap.size) := by show y5 ≠ w.heap.size; omega
  have HUP := hid (fun W (h : Up V3 W) => HUP0.out W (upT hu3 h))
  have HU3 := hid hu3
  clear hV3 ey5 r5 hd5 b5 hb1 hu3 sv zr HUP0 HRD ld0
  refine wp_region_noPanic ?_
  refine wp_region_held_drew (S := fun W => Kept w.heap.size V3 W ∧ ∃ r, W.heap[w.heap.size]? = some (.cells (cel (sState (rtR x r))) 49)) (by kernel_rfl) (⟨(Kept.refl _ V3).thenBelow (Below.refl _ _).drew, x.f8.f0, drew_row RX.out⟩) (fun hHeld => ?_)
  generalize eWD : V3.drew = wd at hHeld ⊢
  have hUd : Up V3 wd := by rw [← eWD]; exact (Below.refl _ _).drew
  clear eWD
  refine tk 0 (v := ?v501) ?y501 hHeld ?r501
  case y501 => intro w hSw; obtain ⟨hk, r, hr⟩ := hSw; have ld0 := lv24_run ((hk.block _ (some_ltK R5.out) NE5.out).trans R5.out); go_simp; try with_reducible rfl
  refine tk 1 (v := ?v502) ?y502 hHeld ?r502
  case y502 => intro w hSw; go_simp; try with_reducible rfl
  refine tk 2 (v := ?v503) ?y503 hHeld ?r503
  case y503 => intro w hSw; go_simp; try with_reducible rfl
  refine tk 3 (v := ?v504) ?y504 hHeld ?r504
  case y504 => intro w hSw; go_simp; try with_reducible rfl
  refine tk 4 (v := ?v505) ?y505 hHeld ?r505
  case y505 => intro w hSw; obtain ⟨hk, r, hr⟩ := hSw; have ld0 := cS10 hr; rw [rtR_10] at ld0; go_simp; try with_reducible rfl
  try simp only [Act.put, List.setIfInBounds_toArray, List.set_cons_zero, List.set_cons_succ, Array.toArray_toList, List.getElem_toArray, List.getElem_cons_zero, List.getElem_cons_succ]
  refine rd1 5 (fun K hK => ?_)
  go_simp
  refine (HUP.out _ hUd).mono ?_
  rintro e' x5 ⟨rfl, hd5⟩
  dsimp only
  have hc5 := upT hUd hd5
  refine hK.out _ _ ⟨Kept.ofBelow hc5, x.f8.f0, upR hc5 RX.out⟩ (fun hHeld => ?_)
  clear hK K
  try simp only [Act.put, List.setIfInBounds_toArray, List.set_cons_zero, List.set_cons_succ, Array.toArray_toList, List.getElem_toArray, List.getElem_cons_zero, List.getElem_cons_succ]
  refine tk 6 (v := ?v506) ?y506 hHeld ?r506
  case y506 => intro w hSw; go_simp; try with_reducible rfl
  refine tk 7 (v := ?v507) ?y507 hHeld ?r507
  case y507 => intro w hSw; go_simp; try with_reducible rfl
  try simp only [Act.put, List.setIfInBounds_toArray, List.set_cons_zero, List.set_cons_succ, Array.toArray_toList, List.getElem_toArray, List.getElem_cons_zero, List.getElem_cons_succ]
  refine rd1 8 (fun K hK => ?_)
  have rx5 := upR hc5 RX.out
  have sv := sv24_mid rx5 654 UV (by rw [cel_size, slState]; omega)
  go_simp
  obtain ⟨x6, hx6⟩ : ∃ W, x5.setCells w.heap.size 654 (bl UV 32) = W := ⟨_, rfl⟩
  have rx6 : x6.heap[w.heap.size]? = some (.cells (cel (sState (rtR x UV))) 49) := by
    have e8 := st_8r (rtR x x.f8.f0) UV
    rw [show rtR (rtR x x.f8.f0) UV = rtR x UV from rfl] at e8
    rw [← hx6, ← e8]
    exact setCells_row _ _ rx5
  have hk6 : Kept w.heap.size V3 x6 := by rw [← hx6]; exact setCells_kept _ _ (Kept.ofBelow hc5)
  rw [hx6]
  refine hK.out _ _ ⟨hk6, UV, rx6⟩ (fun hHeld => ?_)
  clear hK K
  try simp only [Act.put, List.setIfInBounds_toArray, List.set_cons_zero, List.set_cons_succ, Array.toArray_toList, List.getElem_toArray, List.getElem_cons_zero, List.getElem_cons_succ]
  refine wpAnyH_done (by kernel_rfl) ?_ _
  refine NoPanic.normal ?_
  clear hHeld sv hx6 rx5 hc5 hd5 hUd
  have lx := lvState_run rx6
  have q2 := (hk6.block _ (Nat.lt_of_lt_of_le z0 HU3.out.size) (by omega)).trans (upR HU3.out R2.out)
  have s2 := svState_run q2 (rtR x UV)
  have HU6 := hid ((upT HB.out HU3.out).trans (hk6.below (B := w.heap.size) (Nat.le_refl _) (upT HB.out HU3.out).size))
  have Q2 := hid q2
  clear hk6 rx6 q2 HUP R0 R2 R5 RX
  go_wp2
  exact retState1 4 (w.heap.size + 2) (rtR x UV) 49 rfl rfl rfl (setRow_at Q2.out) ⟨rfl, below_row HU6.out (by omega) _⟩

/-- The deposit and the state that awake looks at. -/
def dA : VDeposit := ⟨⟨fun _ => 0⟩, ⟨fun _ => 0, fun _ => 0, 33000000000, fun _ => 0⟩⟩

theorem ok_dA : OkDeposit dA := ⟨fun _ _ => by show (0 : Int) ≤ 0 ∧ (0 : Int) < 256; omega, fun _ _ => by show (0 : Int) ≤ 0 ∧ (0 : Int) < 256; omega, fun _ _ => by show (0 : Int) ≤ 0 ∧ (0 : Int) < 256; omega, by show (0 : Int) ≤ 33000000000 ∧ (33000000000 : Int) < 18446744073709551616; omega, fun _ _ => by show (0 : Int) ≤ 0 ∧ (0 : Int) < 256; omega⟩

def xA (r : Nat → Int) : VState := rtR oState r

theorem right_xj (r : Nat → Int) : rightB (xA r) = true := by rw [xA, right_rt]; exact right_z

theorem right_eA (r : Nat → Int) : rightB (enS (upS (xA r)) dA.f1) = true := by kernel_rfl

theorem tk_xA (r f : Nat → Int) : tkK (xA r) dA.f1 = 1 ∧ tkE (xA r) dA.f1 f 0 = 0 ∧ tkS (upS (xA r)) dA.f1 f 0 = enS (upS (xA r)) dA.f1 := by
  have h0 : ¬ dpO (xA r) dA.f1 < (xA r).f11.n := Nat.not_lt_zero _
  have h1 : ¬ dpO (upS (xA r)) dA.f1 < (upS (xA r)).f11.n := Nat.not_lt_zero _
  refine ⟨?_, ?_, ?_⟩
  · unfold tkK; rw [if_neg h0]
  · unfold tkE; rw [if_neg h0, if_pos (gdB_zero _ _), if_neg (show ¬ 65536 ≤ (xA r).f11.n from by show ¬ 65536 ≤ 0; omega), if_neg (show ¬ 144115188075855872 < dA.f1.f2 from by show ¬ (144115188075855872 : Int) < 33000000000; omega)]
  · unfold tkS; rw [if_neg h1, if_pos (gdB_zero _ _)]

theorem jd_xA (f : Nat → Int) : jdK (rtS oState dA) dA = 1 ∧ jdE (rtS oState dA) dA f 0 = 0 ∧ ∃ r, jdS (rtS oState dA) dA f 0 = enS (upS (xA r)) dA.f1 := by
  have hp : jdP (rtS oState dA) dA = 0 := by
    unfold jdP
    rw [rt_holds, show rightB (rtS oState dA) = true from right_xj _]
    rfl
  obtain ⟨r, er⟩ : ∃ r, rtS oState dA = xA r := ⟨_, rfl⟩
  rw [er] at hp ⊢
  obtain ⟨h1, h2, h3⟩ := tk_xA r f
  have hE : jdE (xA r) dA f 0 = 0 := by unfold jdE; rw [if_pos hp, if_pos h2, h3, right_eA]; rfl
  refine ⟨by unfold jdK; rw [if_pos hp]; exact h1, hE, r, ?_⟩
  unfold jdS
  rw [if_pos hE]
  exact h3

theorem ex_xA (r f : Nat → Int) : exK (xA r) oSignedExit = 0 ∧ exE (xA r) oSignedExit f 0 = 27 := by
  have hP : exP (xA r) oSignedExit.f0 = 27 := by
    unfold exP exC
    rw [right_xj, if_pos rfl, if_neg (show ¬ oSignedExit.f0.f1 < ((xA r).f11.n : Int) from by show ¬ (0 : Int) < ((0 : Nat) : Int); omega)]
  exact ⟨by unfold exK; rw [hP]; rfl, by unfold exE; rw [hP]; rfl⟩

theorem val_e2 {w : World} {b o : Nat} {v : VValidator} (h : w.rangeAt b o (celL (sValidator v))) : w.cell? ⟨b, o + 80, none⟩ = some (.int .u64 v.f2) := h 80 _ rfl

end Go.Proofs.YtmapeodhcllimaaDoor
