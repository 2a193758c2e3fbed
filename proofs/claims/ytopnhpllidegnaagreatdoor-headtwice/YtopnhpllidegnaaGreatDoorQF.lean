/- A part. -/
import Derived.Test.YtopnhpllidegnaaGreatDoorQC
import Derived.Test.YtopnhpllidegnaaGreatDoorQD
import Derived.Test.YtopnhpllidegnaaGreatDoorQE
namespace Go.Proofs.YtopnhpllidegnaaGreatDoor
open Go.RowKit
set_option linter.unusedVariables false
set_option linter.unusedSimpArgs false
section
open Go.RowKit
set_option linter.unusedVariables false
set_option linter.unusedSimpArgs false
set_option maxRecDepth 20000
attribute [local go_sem ↓] sv24_eq lv24_eq ix22_eq sv8_eq
def eB (K : Nat) (g : Nat → Nat → Int) (q : Nat) : Int := g (q / K) (q % K)
theorem bl_two (f : Nat → Int) (n k : Nat) : bl f n ++ bl (fun q => f (n + q)) k = bl f (n + k) := by
 unfold bl
 rw [List.range_add, List.map_append, List.map_map]
 rfl
theorem bl_each (K : Nat) (hK : 0 < K) (g : Nat → Nat → Int) (k : Nat) : bl (eB K g) (K * k) ++ bl (g k) K = bl (eB K g) (K * (k + 1)) := by
 have h : bl (g k) K = bl (fun q => eB K g (K * k + q)) K := bl_congr fun i hi => by
  show g k i = g ((K * k + i) / K) ((K * k + i) % K)
  rw [Nat.mul_add_div hK, Nat.div_eq_of_lt hi, Nat.add_zero, Nat.mul_add_mod, Nat.mod_eq_of_lt hi]
 rw [h, bl_two, Nat.mul_add, Nat.mul_one]
def ixEth1 (x i : Value) : Sem Value := Instr.indexAt 35 x i
theorem ixEth1_eq (x i : Value) : Instr.indexAt 35 x i = ixEth1 x i := rfl
theorem sizeEth1 (w : World) : (sizeOf 34).run Tryz.prog w = .ok 65 w := by
 have hi : (Tryz.prog.info? 34).map (·.size) = some 65 := by kernel_rfl
 cases hq : Tryz.prog.info? 34 with
 | none => simp [hq] at hi
 | some i => simp [hq] at hi; simp [sizeOf, typeInfo, hq, hi]
theorem ixEth1_run (w : World) (b off len cap i : Nat) (h : i < len) : (ixEth1 (.slice (some ⟨b, off, none⟩) len cap) (.int .i64 i)).run Tryz.prog w = .ok (.pointer (some ⟨b, off + 65 * i, none⟩)) w := by
 unfold ixEth1 Instr.indexAt
 have h1 : (0 : Int) ≤ (i : Int) ∧ (i : Int) < (len : Int) := by omega
 simp only [asIntOf, Sem.run_bind, Sem.run_pure, Result.andThen_ok, run_underlying Tryz.underlying35, if_pos h1, sizeEth1, Addr.add_mid, Int.toNat_natCast]
 rw [Nat.mul_comm]
theorem lvEth1_at {w : World} {g o : Nat} {x : VEth1} (h : w.rangeAt g o (celL (sEth1 x))) : (lvEth1 ⟨g, o, none⟩).run Tryz.prog w = .ok (.agg (cel (sEth1 x))) w :=
 loadAt_var (run_loadAt_mid w g o 34 _ _ h Tryz.underlying34 rfl (by rw [celL_len, show slen (sEth1 x) = 65 from rfl]; kernel_rfl))
attribute [local go_sem ↓] lvEth1_eq svEth1_eq ixEth1_eq
def ixValidator (x i : Value) : Sem Value := Instr.indexAt 36 x i
theorem ixValidator_eq (x i : Value) : Instr.indexAt 36 x i = ixValidator x i := rfl
theorem sizeValidator (w : World) : (sizeOf 87).run Tryz.prog w = .ok 86 w := by
 have hi : (Tryz.prog.info? 87).map (·.size) = some 86 := by kernel_rfl
 cases hq : Tryz.prog.info? 87 with
 | none => simp [hq] at hi
 | some i => simp [hq] at hi; simp [sizeOf, typeInfo, hq, hi]
theorem ixValidator_run (w : World) (b off len cap i : Nat) (h : i < len) : (ixValidator (.slice (some ⟨b, off, none⟩) len cap) (.int .i64 i)).run Tryz.prog w = .ok (.pointer (some ⟨b, off + 86 * i, none⟩)) w := by
 unfold ixValidator Instr.indexAt
 have h1 : (0 : Int) ≤ (i : Int) ∧ (i : Int) < (len : Int) := by omega
 simp only [asIntOf, Sem.run_bind, Sem.run_pure, Result.andThen_ok, run_underlying Tryz.underlying36, if_pos h1, sizeValidator, Addr.add_mid, Int.toNat_natCast]
 rw [Nat.mul_comm]
theorem lvValidator_at {w : World} {g o : Nat} {x : VValidator} (h : w.rangeAt g o (celL (sValidator x))) : (lvValidator ⟨g, o, none⟩).run Tryz.prog w = .ok (.agg (cel (sValidator x))) w :=
 loadAt_var (run_loadAt_mid w g o 87 _ _ h Tryz.underlying87 rfl (by rw [celL_len, show slen (sValidator x) = 86 from rfl]; kernel_rfl))
attribute [local go_sem ↓] lvValidator_eq svValidator_eq ixValidator_eq
end
section
open Go.RowKit
set_option linter.unusedVariables false
set_option linter.unusedSimpArgs false
set_option maxRecDepth 20000
def zS (r : Nat) : Int := [8, 32, 8, 16, 112, 256, 256, 0, 72, 0, 8, 0, 0, 256, 64, 0, 0, 1, 40, 40, 40, 0, 432, 432].getD r 0
def qS (x : VState) : List (Nat × (Nat → Int)) := [(8, nmB x.f0), (32, x.f1), (8, nmB x.f2), (16, ct7 (eFork x.f3)), (112, ct7 (eHeader x.f4)), (256, x.f5), (256, x.f6), (32 * x.f7.n, x.f7.z), (72, ct7 (eEth1 x.f8)), (72 * x.f9.n, eB 72 fun i => ct7 (eEth1 (x.f9.z i))), (8, nmB x.f10), (121 * x.f11.n, eB 121 fun i => ct7 (eValidator (x.f11.z i))), (8 * x.f12.n, eB 8 fun i => nmB (x.f12.z i)), (256, x.f13), (64, eB 8 fun i => nmB (x.f14 i)), (x.f15.n, x.f15.z), (x.f16.n, x.f16.z), (1, fun q => (Z.byt x.f17 4 q : Int)), (40, ct7 (eCheckpoint x.f18)), (40, ct7 (eCheckpoint x.f19)), (40, ct7 (eCheckpoint x.f20)), (8 * x.f21.n, eB 8 fun i => nmB (x.f21.z i)), (432, ct7 (eCommittee x.f22)), (432, ct7 (eCommittee x.f23))]
def nilQ : Nat × (Nat → Int) := (0, fun _ => 0)
def pL (x : VState) (r : Nat) : Nat := ((qS x).getD r nilQ).1
def pF (x : VState) (r : Nat) : Nat → Int := ((qS x).getD r nilQ).2
def tL (x : VState) : Nat := Z.hdL zS 24 + Z.loL zS (pL x) 24
theorem tL_is (x : VState) : tL x = 2101 + 32 * x.f7.n + 72 * x.f9.n + 121 * x.f11.n + 8 * x.f12.n + x.f15.n + x.f16.n + 8 * x.f21.n := by
 show 2101 + (0 + 0 + 0 + 0 + 0 + 0 + 0 + 0 + 32 * x.f7.n + 0 + 72 * x.f9.n + 0 + 121 * x.f11.n + 8 * x.f12.n + 0 + 0 + x.f15.n + x.f16.n + 0 + 0 + 0 + 0 + 8 * x.f21.n + 0 + 0) = _
 omega
theorem bsP_24 (W : World) (p0 p1 p2 p3 p4 p5 p6 p7 p8 p9 p10 p11 p12 p13 p14 p15 p16 p17 p18 p19 p20 p21 p22 p23 : Pt) : (bsP 24 #[(0, ptv p0), (1, ptv p1), (2, ptv p2), (3, ptv p3), (4, ptv p4), (5, ptv p5), (6, ptv p6), (7, ptv p7), (8, ptv p8), (9, ptv p9), (10, ptv p10), (11, ptv p11), (12, ptv p12), (13, ptv p13), (14, ptv p14), (15, ptv p15), (16, ptv p16), (17, ptv p17), (18, ptv p18), (19, ptv p19), (20, ptv p20), (21, ptv p21), (22, ptv p22), (23, ptv p23)]).run Tryz.prog W = .ok (.slice (some ⟨W.heap.size, 0, none⟩) 24 24) (W.alloc (.cells ([p0, p1, p2, p3, p4, p5, p6, p7, p8, p9, p10, p11, p12, p13, p14, p15, p16, p17, p18, p19, p20, p21, p22, p23].map ptv).toArray 39)) := by kernel_rfl
attribute [local go_sem ↓] bsP_eq bsI_eq
theorem getD_ptb (ps : List Pt) (r : Nat) : (ps.map ptb).getD r nilQ = ptb (ps.getD r nilP) := by
 rw [List.getD_eq_getElem?_getD, List.getD_eq_getElem?_getD, List.getElem?_map]
 cases ps[r]? <;> rfl
theorem seg_na {w : World} {g : Nat} {t : TypeId} {x : VState} (h : w.heap[g]? = some (.cells (cel (sState x)) t)) : Z.Nms .u64 w (some ⟨g, 979, none⟩) 8 x.f14 :=
 .inr ⟨g, 979, rfl, (Array.getElem?_eq_some_iff.1 h).1, fun j hj => by
  rcases (by omega : j = 0 ∨ j = 1 ∨ j = 2 ∨ j = 3 ∨ j = 4 ∨ j = 5 ∨ j = 6 ∨ j = 7) with rfl | rfl | rfl | rfl | rfl | rfl | rfl | rfl
  ·exact cS14_0 h
  ·exact cS14_1 h
  ·exact cS14_2 h
  ·exact cS14_3 h
  ·exact cS14_4 h
  ·exact cS14_5 h
  ·exact cS14_6 h
  ·exact cS14_7 h⟩
theorem seg_bits {w : World} {g : Nat} {t : TypeId} {x : VState} (h : w.heap[g]? = some (.cells (cel (sState x)) t)) : Z.Bls w (some ⟨g, 989, none⟩) 4 4 x.f17 :=
 .inr (.inr ⟨g, 989, rfl, Nat.le_refl _, by omega, (Array.getElem?_eq_some_iff.1 h).1, fun j hj => by
  rcases (by omega : j = 0 ∨ j = 1 ∨ j = 2 ∨ j = 3) with rfl | rfl | rfl | rfl
  ·exact cS17_0 h
  ·exact cS17_1 h
  ·exact cS17_2 h
  ·exact cS17_3 h⟩)
attribute [local go_sem ↓] bsP_eq bsI_eq lvState_eq svState_eq lvFork_eq lvHeader_eq lvEth1_eq lvCheckpoint_eq lvCommittee_eq
end
section
open Go.RowKit
set_option linter.unusedVariables false
set_option linter.unusedSimpArgs false
set_option maxRecDepth 20000
attribute [local go_sem ↓] lvState_eq svState_eq bdState_eq lvValidator_eq svValidator_eq ixValidator_eq
def vldB (v : VValidator) : Bool := decide (v.f2 % 1000000000 = 0) && (decide (v.f2 ≤ 32000000000) && (epB v.f4 && (epB v.f5 && (epB v.f6 && epB v.f7))))
def valsB (z : Nat → VValidator) (n : Nat) : Bool := (List.range n).all fun i => vldB (z i)
theorem valsB_true {z : Nat → VValidator} {n : Nat} (h : ∀ i, i < n → vldB (z i) = true) : valsB z n = true := by
 unfold valsB
 rw [List.all_eq_true]
 intro i hi
 exact h i (List.mem_range.1 hi)
theorem valsB_false {z : Nat → VValidator} {n i : Nat} (hi : i < n) (h : vldB (z i) = false) : valsB z n = false := by
 unfold valsB
 rw [List.all_eq_false]
 exact ⟨i, List.mem_range.2 hi, by simp [h]⟩
set_option maxHeartbeats 2000000 in
theorem vals_any (z : Nat → VValidator) (a : Option Addr) (n c : Nat) (w : World) (hn : Els w a n 86 (fun i => celL (sValidator (z i)))) (hz : ∀ j, j < n → OkValidator (z j)) (hnb : n ≤ 9223372036854775807) :
    Calls Tryz.prog 39 #[.slice a n c] w fun e w' => e = .returned (.bool (valsB z n)) ∧ Below w.heap.size w w' := by
 have HN := hid hn
 have HZ := hid hz
 have zv := zeroValidator
 clear hn hz
 go_enter Tryz.func39, Tryz.ntmps39
 go_wp2
 go_loopw [7] (fun i wr => ∃ (k : Nat), k ≤ n ∧ i = .int .i64 k ∧ Below w.heap.size w wr ∧ ∀ j, j < k → vldB (z j) = true) (fun i _ => n - (intOf i).toNat)
 case atStart => exact ⟨0, by omega, rfl, Below.refl _ _, fun j hj => by omega⟩
 case round =>
  obtain ⟨k, hk, rfl, hB, hL⟩ := hrel
  have HL := hid hL
  have HB := hid hB
  by_cases hlt : k < n
  ·have b1 : decide (k < n) = true := by simp; omega
   have k1 : (k : Int) < (n : Int) := by omega
   have k2 : (0 : Int) ≤ (k : Int) := by omega
   rcases HN.out.below hB with h | ⟨b, off, rfl, hb1, hc⟩
   ·omega
   have lv := lvValidator_at (hc k hlt)
   have ix := fun W => ixValidator_run W b off n c k hlt
   obtain ⟨P, eP⟩ : ∃ P, off + 86 * k = P := ⟨_, rfl⟩
   rw [eP] at lv
   simp only [eP] at ix
   have HV := hid (HZ.out k hlt)
   have HF := hid (fun h => valsB_false (z := z) hlt h)
   have HT := hid (show vldB (z k) = true → ∀ j, j < k + 1 → vldB (z j) = true from fun h j hj => by
    by_cases e : j = k
    ·rw [e]; exact h
    ·exact HL.out j (by omega))
   obtain ⟨v, ev⟩ : ∃ v, z k = v := ⟨_, rfl⟩
   rw [ev] at lv HV HF HT
   have sv := svValidator_newv wr oValidator v
   obtain ⟨W1, hW1⟩ : ∃ W, wr.alloc (.cells (cel (sValidator v)) 87) = W := ⟨_, rfl⟩
   rw [hW1] at sv
   have r1 : W1.heap[wr.heap.size]? = some (.cells (cel (sValidator v)) 87) := by rw [← hW1]; exact heap_new rfl
   have hB1 : Below w.heap.size w W1 := by rw [← hW1]; exact hB.alloc hB.size _
   have HB1 := hid hB1
   obtain ⟨y, ey⟩ : ∃ y, wr.heap.size = y := ⟨_, rfl⟩
   rw [ey] at sv r1
   have l2 := seg_nu r1 2 v.f2 rfl 80 rfl
   have l4 := seg_nu r1 4 v.f4 rfl 82 rfl
   have l5 := seg_nu r1 5 v.f5 rfl 83 rfl
   have l6 := seg_nu r1 6 v.f6 rfl 84 rfl
   have l7 := seg_nu r1 7 v.f7 rfl 85 rfl
   have hv2 := HV.out.2.2.1
   obtain ⟨hv0, hv1⟩ := hv2
   clear hL hB hc hb1 eP ev hB1 r1
   by_cases d1 : v.f2 % 1000000000 = 0
   ·have e1 : (v.f2 % 1000000000 != 0) = false := by simp; exact d1
    by_cases d2 : v.f2 ≤ 32000000000
    ·have n2 : ¬ 32000000000 < v.f2 := by omega
     obtain ⟨g4, eg4⟩ : ∃ g, v.f4 = g := ⟨_, rfl⟩
     obtain ⟨g5, eg5⟩ : ∃ g, v.f5 = g := ⟨_, rfl⟩
     obtain ⟨g6, eg6⟩ : ∃ g, v.f6 = g := ⟨_, rfl⟩
     obtain ⟨g7, eg7⟩ : ∃ g, v.f7 = g := ⟨_, rfl⟩
     have EV := hid (show vldB v = (epB g4 && (epB g5 && (epB g6 && epB g7))) from by
      unfold vldB
      rw [eg4, eg5, eg6, eg7, decide_eq_true d1, decide_eq_true d2]
      rfl)
     rw [eg4] at l4
     rw [eg5] at l5
     rw [eg6] at l6
     rw [eg7] at l7
     clear eg4 eg5 eg6 eg7 d1 d2
     go_upto_region 6 with fail
     clear hW1
     cases pE4 : epB g4
     ·have F := hid (HF.out (by rw [EV.out, pE4]; rfl))
      go_wp2_with (go_at_call 93; refine (ep_any _ _).mono ?_; rintro e w9 ⟨rfl, hw9⟩; obtain rfl := hw9.symm)
      go_ret
      exact ⟨by rw [F.out]; rfl, HB1.out⟩
     cases pE5 : epB g5
     ·have F := hid (HF.out (by rw [EV.out, pE4, pE5]; rfl))
      go_wp2_with (go_at_call 93; refine (ep_any _ _).mono ?_; rintro e w9 ⟨rfl, hw9⟩; obtain rfl := hw9.symm)
      go_ret
      exact ⟨by rw [F.out]; rfl, HB1.out⟩
     cases pE6 : epB g6
     ·have F := hid (HF.out (by rw [EV.out, pE4, pE5, pE6]; rfl))
      go_wp2_with (go_at_call 93; refine (ep_any _ _).mono ?_; rintro e w9 ⟨rfl, hw9⟩; obtain rfl := hw9.symm)
      go_ret
      exact ⟨by rw [F.out]; rfl, HB1.out⟩
     cases pE7 : epB g7
     ·have F := hid (HF.out (by rw [EV.out, pE4, pE5, pE6, pE7]; rfl))
      go_wp2_with (go_at_call 93; refine (ep_any _ _).mono ?_; rintro e w9 ⟨rfl, hw9⟩; obtain rfl := hw9.symm)
      go_ret
      exact ⟨by rw [F.out]; rfl, HB1.out⟩
     have F := hid (HT.out (by rw [EV.out, pE4, pE5, pE6, pE7]; rfl))
     go_wp2_with (go_at_call 93; refine (ep_any _ _).mono ?_; rintro e w9 ⟨rfl, hw9⟩; obtain rfl := hw9.symm)
     go_roundw
     case rel => exact ⟨k + 1, by omega, by go_num, HB1.out, F.out⟩
     case measure => simp [intOf]; omega
    ·have n2 : 32000000000 < v.f2 := by omega
     have F := hid (HF.out (by unfold vldB; simp [d2]))
     clear d2
     go_wp2
     go_ret
     exact ⟨by rw [F.out]; rfl, HB1.out⟩
   ·have e1 : (v.f2 % 1000000000 != 0) = true := by simp; exact d1
    have F := hid (HF.out (by unfold vldB; simp [d1]))
    clear d1
    go_wp2
    go_ret
    exact ⟨by rw [F.out]; rfl, HB1.out⟩
  ·have b1 : decide (k < n) = false := by simp; omega
   have k1 : ¬ (k : Int) < (n : Int) := by omega
   have F : Hid (valsB z n = true) := valsB_true fun i hi => HL.out i (by omega)
   go_wp2
   go_ret
   exact ⟨by rw [F.out]; rfl, HB.out⟩
structure OkR (x : VState) : Prop where
 o2 : 0 ≤ x.f2 ∧ x.f2 < 18446744073709551616
 o11 : ∀ j, j < x.f11.n → OkValidator (x.f11.z j)
 o12 : ∀ j, j < x.f12.n → 0 ≤ x.f12.z j ∧ x.f12.z j < 18446744073709551616
 o14 : ∀ j, j < 8 → 0 ≤ x.f14 j ∧ x.f14 j < 18446744073709551616
 o21 : ∀ j, j < x.f21.n → 0 ≤ x.f21.z j ∧ x.f21.z j < 18446744073709551616
structure InR (w : World) (x : VState) : Prop where
 i11 : Els w x.f11.a x.f11.n 86 (fun i => celL (sValidator (x.f11.z i)))
 i12 : Z.Nms .u64 w x.f12.a x.f12.n x.f12.z
 i21 : Z.Nms .u64 w x.f21.a x.f21.n x.f21.z
theorem InR.below {w w' : World} {x : VState} (h : InR w x) (hb : Below w.heap.size w w') : InR w' x := ⟨h.i11.below hb, h.i12.below hb, h.i21.below hb⟩
theorem InW.r {w : World} {x : VState} (h : InW w x) : InR w x := ⟨h.i11, h.i12, h.i21⟩
theorem OkState.r {x : VState} (h : OkState x) : OkR x := ⟨h.o2, h.o11, h.o12, h.o14, h.o21⟩
def rightB (x : VState) : Bool := fitB x && (lensB x && (timB x && (decide (x.f10 < 1099511627776) && (valsB x.f11.z x.f11.n && (scoB x.f21.z x.f21.n && (togB x.f12.z x.f12.n 144115188075855872 && togB x.f14 8 144115188075855872))))))
set_option maxHeartbeats 4000000 in
theorem right_any (x : VState) (w : World) (hx : OkR x) (hw : InR w x) (hl : x.f11.n ≤ 9223372036854775807 ∧ x.f21.n ≤ 9223372036854775807 ∧ x.f12.n ≤ 9223372036854775807) :
    Calls Tryz.prog 15 #[.agg (cel (sState x))] w fun e w' => e = .returned (.bool (rightB x)) ∧ Below w.heap.size w w' := by
 obtain ⟨W0, hW0⟩ : ∃ W, w.alloc (.cells (cel (sState x)) 49) = W := ⟨_, rfl⟩
 have hB0 : Below w.heap.size w W0 := by rw [← hW0]; exact (Below.refl _ _).alloc (Nat.le_refl _) _
 have r0 : W0.heap[w.heap.size]? = some (.cells (cel (sState x)) 49) := by rw [← hW0]; exact heap_new rfl
 have z0 : w.heap.size < W0.heap.size := by rw [← hW0]; simp
 obtain ⟨y, ey⟩ : ∃ y, w.heap.size = y := ⟨_, rfl⟩
 have hry : ∀ X, Below W0.heap.size W0 X → X.heap[y]? = some (.cells (cel (sState x)) 49) := fun X h => by rw [← ey]; exact (h.block _ z0).trans r0
 have HRY := hid hry
 have HIN : Hid (∀ X, Below W0.heap.size W0 X → InR X x) := fun X h => hw.below (hB0.trans (h.mono hB0.size))
 have HB0w := hid hB0
 have HX := hid hx
 have HL := hid hl
 obtain ⟨B1, e1⟩ : ∃ B, fitB x = B := ⟨_, rfl⟩
 obtain ⟨B2, e2⟩ : ∃ B, lensB x = B := ⟨_, rfl⟩
 obtain ⟨B3, e3⟩ : ∃ B, timB x = B := ⟨_, rfl⟩
 obtain ⟨B5, e5⟩ : ∃ B, valsB x.f11.z x.f11.n = B := ⟨_, rfl⟩
 obtain ⟨B6, e6⟩ : ∃ B, scoB x.f21.z x.f21.n = B := ⟨_, rfl⟩
 obtain ⟨B7, e7⟩ : ∃ B, togB x.f12.z x.f12.n 144115188075855872 = B := ⟨_, rfl⟩
 obtain ⟨B8, e8⟩ : ∃ B, togB x.f14 8 144115188075855872 = B := ⟨_, rfl⟩
 obtain ⟨B4, e4⟩ : ∃ B, decide (x.f10 < 1099511627776) = B := ⟨_, rfl⟩
 have ER := hid (show rightB x = (B1 && (B2 && (B3 && (B4 && (B5 && (B6 && (B7 && B8))))))) from by unfold rightB; rw [e1, e2, e3, e4, e5, e6, e7, e8])
 have C1 : Hid (∀ X, Calls Tryz.prog 36 #[.agg (cel (sState x))] X fun e w' => e = .returned (.bool B1) ∧ Below X.heap.size X w') := fun X => by rw [← e1]; exact fit_any x X
 have C2 : Hid (∀ X, Calls Tryz.prog 37 #[.agg (cel (sState x))] X fun e w' => e = .returned (.bool B2) ∧ Below X.heap.size X w') := fun X => by rw [← e2]; exact lens_any x X
 have C3 : Hid (∀ X, Calls Tryz.prog 38 #[.agg (cel (sState x))] X fun e w' => e = .returned (.bool B3) ∧ Below X.heap.size X w') := fun X => by rw [← e3]; exact tim_any x X HX.out.o2
 have C5 : Hid (∀ X, Below W0.heap.size W0 X → Calls Tryz.prog 39 #[.slice x.f11.a x.f11.n x.f11.c] X fun e w' => e = .returned (.bool B5) ∧ Below X.heap.size X w') := fun X h => by rw [← e5]; exact vals_any x.f11.z x.f11.a x.f11.n x.f11.c X (HIN.out X h).i11 HX.out.o11 HL.out.1
 have C6 : Hid (∀ X, Below W0.heap.size W0 X → Calls Tryz.prog 40 #[.slice x.f21.a x.f21.n x.f21.c] X fun e w' => e = .returned (.bool B6) ∧ w' = X) := fun X h => by rw [← e6]; exact sco_any x.f21.z x.f21.a x.f21.n x.f21.c X (HIN.out X h).i21 HX.out.o21 HL.out.2.1
 have C7 : Hid (∀ X, Below W0.heap.size W0 X → Calls Tryz.prog 41 #[.slice x.f12.a x.f12.n x.f12.c, .int .u64 144115188075855872] X fun e w' => e = .returned (.bool B7) ∧ w' = X) := fun X h => by rw [← e7]; exact tog_any x.f12.z x.f12.a x.f12.n x.f12.c 144115188075855872 X (HIN.out X h).i12 HX.out.o12 (by omega) (by omega) HL.out.2.2
 have C8 : Hid (∀ X, Below W0.heap.size W0 X → Calls Tryz.prog 41 #[.slice (some ⟨y, 979, none⟩) 8 8, .int .u64 144115188075855872] X fun e w' => e = .returned (.bool B8) ∧ w' = X) := fun X h => by rw [← e8]; exact tog_any x.f14 (some ⟨y, 979, none⟩) 8 8 144115188075855872 X (seg_na (HRY.out X h)) HX.out.o14 (by omega) (by omega) (by omega)
 have lvw := lvState_run (HRY.out _ (Below.refl _ _))
 have S0 := hid (Below.refl W0.heap.size W0)
 rw [ER.out]
 clear hB0 r0 hry hx hw hl e1 e2 e3 e5 e6 e7 e8
 go_enter Tryz.func15, Tryz.ntmps15
 go_upto_region 1 with fail
 clear hW0 ey z0
 have HLV : Hid (∀ X, Below W0.heap.size W0 X → (lvState ⟨y, 0, none⟩).run Tryz.prog X = .ok (.agg (cel (sState x))) X) := fun X h => lvState_run (HRY.out X h)
 have HD : Hid (∀ X, Below W0.heap.size W0 X → X.cell? ⟨y, 720, none⟩ = some (.int .u64 x.f10)) := fun X h => cS10 (HRY.out X h)
 have HV : Hid (∀ X, Below W0.heap.size W0 X → X.cell? ⟨y, 721, none⟩ = some (.slice x.f11.a x.f11.n x.f11.c)) := fun X h => cS11 (HRY.out X h)
 have HSC : Hid (∀ X, Below W0.heap.size W0 X → X.cell? ⟨y, 1092, none⟩ = some (.slice x.f21.a x.f21.n x.f21.c)) := fun X h => cS21 (HRY.out X h)
 have HBA : Hid (∀ X, Below W0.heap.size W0 X → X.cell? ⟨y, 722, none⟩ = some (.slice x.f12.a x.f12.n x.f12.c)) := fun X h => cS12 (HRY.out X h)
 cases B1
 ·skip
  go_wp2_with (first
   | (go_at_call 36; refine (C1.out _).mono ?_; rintro e w1 ⟨rfl, hb⟩; have S1 := hid (S0.out.trans (hb.mono S0.out.size)); have lv1 := HLV.out _ S1.out; clear hb))
  go_ret
  exact ⟨rfl, HB0w.out.trans (S1.out.mono HB0w.out.size)⟩
 cases B2
 ·skip
  go_wp2_with (first
   | (go_at_call 36; refine (C1.out _).mono ?_; rintro e w1 ⟨rfl, hb⟩; have S1 := hid (S0.out.trans (hb.mono S0.out.size)); have lv1 := HLV.out _ S1.out; clear hb)
   | (go_at_call 37; refine (C2.out _).mono ?_; rintro e w2 ⟨rfl, hb⟩; have S2 := hid (S1.out.trans (hb.mono S1.out.size)); have lv2 := HLV.out _ S2.out; clear hb))
  go_ret
  exact ⟨rfl, HB0w.out.trans (S2.out.mono HB0w.out.size)⟩
 cases B3
 ·skip
  go_wp2_with (first
   | (go_at_call 36; refine (C1.out _).mono ?_; rintro e w1 ⟨rfl, hb⟩; have S1 := hid (S0.out.trans (hb.mono S0.out.size)); have lv1 := HLV.out _ S1.out; clear hb)
   | (go_at_call 37; refine (C2.out _).mono ?_; rintro e w2 ⟨rfl, hb⟩; have S2 := hid (S1.out.trans (hb.mono S1.out.size)); have lv2 := HLV.out _ S2.out; clear hb)
   | (go_at_call 38; refine (C3.out _).mono ?_; rintro e w3 ⟨rfl, hb⟩; have S3 := hid (S2.out.trans (hb.mono S2.out.size)); have ld := HD.out _ S3.out; have lv := HV.out _ S3.out; clear hb))
  go_ret
  exact ⟨rfl, HB0w.out.trans (S3.out.mono HB0w.out.size)⟩
 cases B4
 ·have nd := of_decide_eq_false e4
  clear e4
  go_wp2_with (first
   | (go_at_call 36; refine (C1.out _).mono ?_; rintro e w1 ⟨rfl, hb⟩; have S1 := hid (S0.out.trans (hb.mono S0.out.size)); have lv1 := HLV.out _ S1.out; clear hb)
   | (go_at_call 37; refine (C2.out _).mono ?_; rintro e w2 ⟨rfl, hb⟩; have S2 := hid (S1.out.trans (hb.mono S1.out.size)); have lv2 := HLV.out _ S2.out; clear hb)
   | (go_at_call 38; refine (C3.out _).mono ?_; rintro e w3 ⟨rfl, hb⟩; have S3 := hid (S2.out.trans (hb.mono S2.out.size)); have ld := HD.out _ S3.out; have lv := HV.out _ S3.out; clear hb))
  go_ret
  exact ⟨rfl, HB0w.out.trans (S3.out.mono HB0w.out.size)⟩
 have nd := of_decide_eq_true e4
 clear e4
 cases B5
 ·skip
  go_wp2_with (first
   | (go_at_call 36; refine (C1.out _).mono ?_; rintro e w1 ⟨rfl, hb⟩; have S1 := hid (S0.out.trans (hb.mono S0.out.size)); have lv1 := HLV.out _ S1.out; clear hb)
   | (go_at_call 37; refine (C2.out _).mono ?_; rintro e w2 ⟨rfl, hb⟩; have S2 := hid (S1.out.trans (hb.mono S1.out.size)); have lv2 := HLV.out _ S2.out; clear hb)
   | (go_at_call 38; refine (C3.out _).mono ?_; rintro e w3 ⟨rfl, hb⟩; have S3 := hid (S2.out.trans (hb.mono S2.out.size)); have ld := HD.out _ S3.out; have lv := HV.out _ S3.out; clear hb)
   | (go_at_call 39; refine (C5.out _ S3.out).mono ?_; rintro e w4 ⟨rfl, hb⟩; have S4 := hid (S3.out.trans (hb.mono S3.out.size)); have ls := HSC.out _ S4.out; have lb := HBA.out _ S4.out; clear hb))
  go_ret
  exact ⟨rfl, HB0w.out.trans (S4.out.mono HB0w.out.size)⟩
 cases B6
 ·skip
  go_wp2_with (first
   | (go_at_call 36; refine (C1.out _).mono ?_; rintro e w1 ⟨rfl, hb⟩; have S1 := hid (S0.out.trans (hb.mono S0.out.size)); have lv1 := HLV.out _ S1.out; clear hb)
   | (go_at_call 37; refine (C2.out _).mono ?_; rintro e w2 ⟨rfl, hb⟩; have S2 := hid (S1.out.trans (hb.mono S1.out.size)); have lv2 := HLV.out _ S2.out; clear hb)
   | (go_at_call 38; refine (C3.out _).mono ?_; rintro e w3 ⟨rfl, hb⟩; have S3 := hid (S2.out.trans (hb.mono S2.out.size)); have ld := HD.out _ S3.out; have lv := HV.out _ S3.out; clear hb)
   | (go_at_call 39; refine (C5.out _ S3.out).mono ?_; rintro e w4 ⟨rfl, hb⟩; have S4 := hid (S3.out.trans (hb.mono S3.out.size)); have ls := HSC.out _ S4.out; have lb := HBA.out _ S4.out; clear hb)
   | (go_at_call 40; refine (C6.out _ S4.out).mono ?_; rintro e w5 ⟨rfl, hw⟩; obtain rfl := hw.symm))
  go_ret
  exact ⟨rfl, HB0w.out.trans (S4.out.mono HB0w.out.size)⟩
 cases B7
 ·skip
  go_wp2_with (first
   | (go_at_call 36; refine (C1.out _).mono ?_; rintro e w1 ⟨rfl, hb⟩; have S1 := hid (S0.out.trans (hb.mono S0.out.size)); have lv1 := HLV.out _ S1.out; clear hb)
   | (go_at_call 37; refine (C2.out _).mono ?_; rintro e w2 ⟨rfl, hb⟩; have S2 := hid (S1.out.trans (hb.mono S1.out.size)); have lv2 := HLV.out _ S2.out; clear hb)
   | (go_at_call 38; refine (C3.out _).mono ?_; rintro e w3 ⟨rfl, hb⟩; have S3 := hid (S2.out.trans (hb.mono S2.out.size)); have ld := HD.out _ S3.out; have lv := HV.out _ S3.out; clear hb)
   | (go_at_call 39; refine (C5.out _ S3.out).mono ?_; rintro e w4 ⟨rfl, hb⟩; have S4 := hid (S3.out.trans (hb.mono S3.out.size)); have ls := HSC.out _ S4.out; have lb := HBA.out _ S4.out; clear hb)
   | (go_at_call 40; refine (C6.out _ S4.out).mono ?_; rintro e w5 ⟨rfl, hw⟩; obtain rfl := hw.symm)
   | (go_at_call 41; have k8 := K7; refine (C8.out _ S4.out).mono ?_; rintro e w7 ⟨rfl, hw⟩; obtain rfl := hw.symm)
   | (go_at_call 41; refine (C7.out _ S4.out).mono ?_; rintro e w6 ⟨rfl, hw⟩; obtain rfl := hw.symm; have K7 := True.intro))
  go_ret
  exact ⟨rfl, HB0w.out.trans (S4.out.mono HB0w.out.size)⟩
 cases B8
 ·skip
  go_wp2_with (first
   | (go_at_call 36; refine (C1.out _).mono ?_; rintro e w1 ⟨rfl, hb⟩; have S1 := hid (S0.out.trans (hb.mono S0.out.size)); have lv1 := HLV.out _ S1.out; clear hb)
   | (go_at_call 37; refine (C2.out _).mono ?_; rintro e w2 ⟨rfl, hb⟩; have S2 := hid (S1.out.trans (hb.mono S1.out.size)); have lv2 := HLV.out _ S2.out; clear hb)
   | (go_at_call 38; refine (C3.out _).mono ?_; rintro e w3 ⟨rfl, hb⟩; have S3 := hid (S2.out.trans (hb.mono S2.out.size)); have ld := HD.out _ S3.out; have lv := HV.out _ S3.out; clear hb)
   | (go_at_call 39; refine (C5.out _ S3.out).mono ?_; rintro e w4 ⟨rfl, hb⟩; have S4 := hid (S3.out.trans (hb.mono S3.out.size)); have ls := HSC.out _ S4.out; have lb := HBA.out _ S4.out; clear hb)
   | (go_at_call 40; refine (C6.out _ S4.out).mono ?_; rintro e w5 ⟨rfl, hw⟩; obtain rfl := hw.symm)
   | (go_at_call 41; have k8 := K7; refine (C8.out _ S4.out).mono ?_; rintro e w7 ⟨rfl, hw⟩; obtain rfl := hw.symm)
   | (go_at_call 41; refine (C7.out _ S4.out).mono ?_; rintro e w6 ⟨rfl, hw⟩; obtain rfl := hw.symm; have K7 := True.intro))
  go_ret
  exact ⟨rfl, HB0w.out.trans (S4.out.mono HB0w.out.size)⟩
 go_wp2_with (first
     | (go_at_call 36; refine (C1.out _).mono ?_; rintro e w1 ⟨rfl, hb⟩; have S1 := hid (S0.out.trans (hb.mono S0.out.size)); have lv1 := HLV.out _ S1.out; clear hb)
     | (go_at_call 37; refine (C2.out _).mono ?_; rintro e w2 ⟨rfl, hb⟩; have S2 := hid (S1.out.trans (hb.mono S1.out.size)); have lv2 := HLV.out _ S2.out; clear hb)
     | (go_at_call 38; refine (C3.out _).mono ?_; rintro e w3 ⟨rfl, hb⟩; have S3 := hid (S2.out.trans (hb.mono S2.out.size)); have ld := HD.out _ S3.out; have lv := HV.out _ S3.out; clear hb)
     | (go_at_call 39; refine (C5.out _ S3.out).mono ?_; rintro e w4 ⟨rfl, hb⟩; have S4 := hid (S3.out.trans (hb.mono S3.out.size)); have ls := HSC.out _ S4.out; have lb := HBA.out _ S4.out; clear hb)
     | (go_at_call 40; refine (C6.out _ S4.out).mono ?_; rintro e w5 ⟨rfl, hw⟩; obtain rfl := hw.symm)
     | (go_at_call 41; have k8 := K7; refine (C8.out _ S4.out).mono ?_; rintro e w7 ⟨rfl, hw⟩; obtain rfl := hw.symm)
     | (go_at_call 41; refine (C7.out _ S4.out).mono ?_; rintro e w6 ⟨rfl, hw⟩; obtain rfl := hw.symm; have K7 := True.intro))
 go_ret
 exact ⟨rfl, HB0w.out.trans (S4.out.mono HB0w.out.size)⟩
end
section
open Go.RowKit
set_option linter.unusedVariables false
set_option linter.unusedSimpArgs false
set_option maxRecDepth 20000
theorem info_out {P : Program} {t : TypeId} {z : Value} {s b : Nat} (h : (P.info? t).map (fun i => (i.zero, i.size, i.bytes)) = some (some z, s, b)) : ∃ i, P.info? t = some i ∧ i.zero = some z ∧ i.size = s ∧ i.bytes = b := by
 cases hq : P.info? t with
 | none => simp [hq] at h
 | some i => simp [hq] at h; exact ⟨i, rfl, h.1, h.2.1, h.2.2⟩
attribute [local go_sem ↓] ix22_eq sl22_eq
def ixU (x i : Value) : Sem Value := Instr.indexAt 37 x i
theorem ixU_eq (x i : Value) : Instr.indexAt 37 x i = ixU x i := rfl
theorem size_u64 (w : World) : (sizeOf 22).run Tryz.prog w = .ok 1 w := by
 obtain ⟨i, hi, _, hs, _⟩ := info_out (P := Tryz.prog) (t := 22) (z := .int .u64 0) (s := 1) (b := 8) (by kernel_rfl)
 simp [sizeOf, typeInfo, hi, hs]
theorem ixU_run (w : World) (b off len cap i : Nat) (h : i < len) : (ixU (.slice (some ⟨b, off, none⟩) len cap) (.int .i64 i)).run Tryz.prog w = .ok (.pointer (some ⟨b, off + i, none⟩)) w := by
 unfold ixU Instr.indexAt
 have h1 : (0 : Int) ≤ (i : Int) ∧ (i : Int) < (len : Int) := by omega
 simp only [asIntOf, Sem.run_bind, Sem.run_pure, Result.andThen_ok, run_underlying Tryz.underlying37, if_pos h1, size_u64, Addr.add_mid, Int.toNat_natCast, Nat.mul_one]
attribute [local go_sem ↓] ixU_eq
end
section
open Go.RowKit
set_option linter.unusedVariables false
set_option linter.unusedSimpArgs false
set_option maxRecDepth 20000
def oState : VState := ⟨0, fun _ => 0, 0, oFork, oHeader, fun _ => 0, fun _ => 0, ⟨none, 0, 0, fun _ => 0⟩, oEth1, ⟨none, 0, 0, fun _ => oEth1⟩, 0, ⟨none, 0, 0, fun _ => oValidator⟩, ⟨none, 0, 0, fun _ => 0⟩, fun _ => 0, fun _ => 0, ⟨none, 0, 0, fun _ => 0⟩, ⟨none, 0, 0, fun _ => 0⟩, fun _ => false, oCheckpoint, oCheckpoint, oCheckpoint, ⟨none, 0, 0, fun _ => 0⟩, oCommittee, oCommittee⟩
theorem zeroState (W : World) : (zeroValue 49).run Tryz.prog W = .ok (.agg (cel (sState oState))) W := by kernel_rfl
theorem bdState_0 (W : World) : (bdState #[]).run Tryz.prog W = .ok (.agg (cel (sState oState))) W := by kernel_rfl
def RI (w : World) (r y : Nat) (x : VState) (X : World) : Prop := Below w.heap.size w X ∧ X.heap[r]? = some (.cells (cel (sState oState)) 49) ∧ X.heap[y]? = some (.cells (cel (sState x)) 49)
theorem some_lt {X : World} {r : Nat} {o : Obj} (h : X.heap[r]? = some o) : r < X.heap.size := (Array.getElem?_eq_some_iff.1 h).1
theorem some_cell {X : World} {y i : Nat} {x : VState} (h : X.heap[y]? = some (.cells (cel (sState x)) 49)) (hi : i < 1957) : ∃ v, X.cell? ⟨y, i, none⟩ = some v := ⟨_, (row_cell h i).trans (Array.getElem?_eq_getElem (by rw [cel_size, slState]; exact hi))⟩
theorem RI.below {w X X' : World} {r y : Nat} {x : VState} (h : RI w r y x X) (hb : Below X.heap.size X X') : RI w r y x X' :=
 ⟨h.1.trans (hb.mono h.1.size), (hb.block r (some_lt h.2.1)).trans h.2.1, (hb.block y (some_lt h.2.2)).trans h.2.2⟩
theorem RI.kept {w X X' : World} {r y : Nat} {x x' : VState} (h : RI w r y x X) (hr : r ≠ y) (hy : w.heap.size ≤ y) (hk : Kept y X X') (hn : X'.heap[y]? = some (.cells (cel (sState x')) 49)) : RI w r y x' X' :=
 ⟨h.1.trans (hk.below hy h.1.size), (hk.block r (some_lt h.2.1) hr).trans h.2.1, hn⟩
theorem RI.set {w X : World} {r y : Nat} {x x' : VState} (h : RI w r y x X) (hr : r ≠ y) (hy : w.heap.size ≤ y) (i : Nat) (v : Value) (he : (cel (sState x)).setIfInBounds i v = cel (sState x')) : RI w r y x' (X.setCell ⟨y, i, none⟩ v) :=
 h.kept hr hy ((Kept.refl y X).setCell i v) ((row_set h.2.2 i v).trans (congrArg (fun c => some (Obj.cells c 49)) he))
theorem RI.row {w X : World} {r y : Nat} {x x' : VState} (h : RI w r y x X) (hr : r ≠ y) (hy : w.heap.size ≤ y) : RI w r y x' (X.setRow y (cel (sState x'))) :=
 h.kept hr hy ((Kept.refl y X).setRow _) (setRow_at h.2.2)
attribute [local go_sem ↓] lvState_eq svState_eq bdState_eq ixP_eq
structure P0 (L : Nat → Nat) (f : Nat → Nat → Int) : Prop where
 l0 : L 0 = 8
 l1 : L 1 = 32
 l2 : L 2 = 8
 l3 : L 3 = 16
 l4 : L 4 = 112
 l5 : L 5 = 256
 l6 : L 6 = 256
 l7 : L 7 = 0
 l8 : L 8 = 72
 l9 : L 9 = 0
 l10 : L 10 = 8
 l11 : L 11 = 0
 l12 : L 12 = 0
 l13 : L 13 = 256
 l14 : L 14 = 64
 l15 : L 15 = 0
 l16 : L 16 = 0
 l17 : L 17 = 1
 l18 : L 18 = 40
 l19 : L 19 = 40
 l20 : L 20 = 40
 l21 : L 21 = 0
 l22 : L 22 = 432
 l23 : L 23 = 432
 fb : ∀ r q, 0 ≤ f r q ∧ f r q < 256
 b17 : f 17 0 < 16
end
end Go.Proofs.YtopnhpllidegnaaGreatDoor
