/-
  The program's paid.
-/

import Derived.Test.YtficlakgameglaaDoorChB
import Derived.Test.YtficlakgameglaaDoorChC
import Derived.Test.YtficlakgameglaaDoorSlI
import Derived.Test.YtficlakgameglaaDoorQN
import Derived.Test.YtficlakgameglaaDoorQQ
import Derived.Test.YtficlakgameglaaDoorPkS
import Derived.Test.YtficlakgameglaaDoorQP
namespace Go.Proofs.YtficlakgameglaaDoor

open Go.RowKit

set_option linter.unusedVariables false

set_option linter.unusedSimpArgs false

set_option maxRecDepth 20000

/-- Eight bits in memory. -/
def sB8 (b : Nat → Bool) : List Seg := [.bo (b 0), .bo (b 1), .bo (b 2), .bo (b 3), .bo (b 4), .bo (b 5), .bo (b 6), .bo (b 7)]

theorem b8_bit {w : World} {g : Nat} {t : TypeId} {b : Nat → Bool} (h : w.heap[g]? = some (.cells (cel (sB8 b)) t)) (k : Nat) (hk : k < 8) : w.cell? ⟨g, k, none⟩ = some (.bool (b k)) := by
  rw [row_cell h]
  rcases (by omega : k = 0 ∨ k = 1 ∨ k = 2 ∨ k = 3 ∨ k = 4 ∨ k = 5 ∨ k = 6 ∨ k = 7) with rfl | rfl | rfl | rfl | rfl | rfl | rfl | rfl
  all_goals rfl

/-- A state's balances, one of them at hand. -/
theorem BK.bx {w V : World} {y g i : Nat} {Z : VState} (h : BK w y V Z) (hg : Z.f12.a = some ⟨g, 0, none⟩) (hi : i < Z.f12.n) :
    (∀ W, Kept g V W → W.cell? ⟨y, 722, none⟩ = some (.slice (some ⟨g, 0, none⟩) Z.f12.n Z.f12.c)) ∧ V.cell? ⟨g, i, none⟩ = some (.int .u64 (Z.f12.z i)) ∧ (∃ C, V.heap[g]? = some (.cells C 22)) := by
  have hbl := h.bl12 hg
  obtain ⟨C2, hr2⟩ := hbl.row
  exact ⟨fun W hk => (hk.cell (some_ltK h.row) (rows_ne h.row hr2 (by decide))).trans hbl.c12, hbl.at_ i hi, C2, hr2⟩

theorem skA_up {x : VState} {k : Nat} (h : skA x k = true) (ho : skO x k < x.f11.n) : skA x (k + 1) = true := by
  show (skA x k && decide (skO x k < x.f11.n)) = true
  rw [h, decide_eq_true ho]
  rfl

attribute [local go_sem ↓] lvState_eq svState_eq bdState_eq lvKy_eq svKy_eq lvKeys_eq ixK_eq ixU_eq svSh_eq lvSh_eq

set_option maxHeartbeats 16000000 in
theorem paid_prog (x : VState) (r : Int) (b : Nat → Bool) (w : World) (hx : OkState x) (hw : InW w x) (hn : NilW x) (hR : rightB x = true) (hr : IsRut (allS x) r) (hS : Sh w) :
    Calls Tryd.prog 19 #[.agg (cel (sState x)), .agg (cel (sB8 b))] w (PdA x r b w) := by
  obtain ⟨W0, hW0⟩ : ∃ W, ((w.alloc (.cells (cel (sState x)) 49)).alloc (.cells (cel (sB8 b)) 56)).alloc (.cells (cel (sState oState)) 49) = W := ⟨_, rfl⟩
  have r0 : W0.heap[w.heap.size]? = some (.cells (cel (sState x)) 49) := by rw [← hW0]; exact (heap_old (by simp <;> omega)).trans ((heap_old (by simp)).trans (heap_new rfl))
  have r1 : W0.heap[w.heap.size + 1]? = some (.cells (cel (sB8 b)) 56) := by rw [← hW0]; exact (heap_old (by simp)).trans (heap_new (by simp))
  have r2 : W0.heap[w.heap.size + 2]? = some (.cells (cel (sState oState)) 49) := by rw [← hW0]; exact heap_new (by simp)
  have hB0 : Up w W0 := by rw [← hW0]; exact (((Below.refl _ _).alloc (Nat.le_refl _) _).alloc (by simp) _).alloc (by simp <;> omega) _
  have hrg := (rightB_out hR).rg hx
  have hpr := prop_prog x W0 hx (hrg.lk (hw.below hB0)) (hS.below hB0)
  have lx := lvState_run r0
  have z := zeroState
  have bz := bdState_0
  have HB := hid hB0
  have HW := hid hW0
  have R0 := hid r0
  have R1 := hid r1
  have R2 := hid r2
  have hqS : pdS x r b = if pdE x r b = 0 then pyS x (shM x r) (shQ x r) (prV x).toNat b 8 else oState := rfl
  have hqE : pdE x r b = if prE x = 0 then (if skA x 8 = true then (if rightB (pyS x (shM x r) (shQ x r) (prV x).toNat b 8) = true then 0 else 2) else 27) else prE x := rfl
  have hin := pr_in (X := x)
  have hsb := sh_bd hrg hr
  have hshf := fun (W : World) (h : Up W0 W) => shof_any x r W hrg (hw.below (upT hB0 h)) hr
  unfold PdA
  obtain ⟨QE, eQ⟩ : ∃ d, pdE x r b = d := ⟨_, rfl⟩
  rw [eQ] at hqE hqS ⊢
  obtain ⟨QS, eQS⟩ : ∃ d, pdS x r b = d := ⟨_, rfl⟩
  rw [eQS] at hqS ⊢
  obtain ⟨PE, ePE⟩ : ∃ e, prE x = e := ⟨_, rfl⟩
  obtain ⟨PV, ePV⟩ : ∃ e, prV x = e := ⟨_, rfl⟩
  rw [ePE] at hqE hin
  rw [ePV] at hqE hqS hin
  rw [ePE, ePV] at hpr
  have HPR := hid hpr
  clear ePE ePV hpr hS eQ eQS hr
  by_cases hp : PE = 0
  · subst hp
    rw [if_pos rfl] at hqE
    obtain ⟨p, rfl, hpn⟩ := hin rfl
    rw [show ((p : Int)).toNat = p from rfl] at hqE hqS
    obtain ⟨M, eM⟩ : ∃ m, shM x r = m := ⟨_, rfl⟩
    obtain ⟨Q, eQ⟩ : ∃ m, shQ x r = m := ⟨_, rfl⟩
    rw [eM, eQ] at hqE hqS hsb
    simp only [eM, eQ] at hshf
    have hcp : ∀ W : World, Up W0 W → Calls Tryd.prog 43 #[.agg (cel (sState x))] W fun e w' => ∃ X : VState, e = .returned (.agg (cel (sState X))) ∧ SimF x X ∧ CpdF W.heap.size w' X ∧ Below W.heap.size W w' := fun W h => copyS_any x W (hw.below (upT hB0 h)) hn (small_rch hR)
    have HCP := hid hcp
    have HQE := hid hqE
    have HQS := hid hqS
    have HRT := hid hR
    have HRG := hid hrg
    have HPN := hid hpn
    have HSB := hid hsb
    have HSF := hid hshf
    clear hB0 hW0 r0 r1 r2 hx hw hn hR hcp hqE hqS hin hrg hpn hshf hsb eM eQ
    have zs := zeroSh
    go_enter Tryd.func19, Tryd.ntmps19
    go_upto_region 1 with fail
    rw [HW.out]
    clear HW
    go_upto_region 4 with (go_at_call 42; refine HPR.out.mono ?_; rintro e' w1 ⟨rfl, hb1⟩)
    have lx1 := lvState_run (upR hb1 R0.out)
    have HSG := hid (HSF.out w1 hb1)
    have HU1 := hid hb1
    clear hb1 HPR HSF lx
    go_upto_region 5 with (go_at_call 12; refine HSG.out.mono ?_; rintro e' w2 ⟨rfl, hb2⟩; have sv := svSh_newv w2 M Q)
    obtain ⟨V3, y8, hV3, ey8, r8, hd3, hy8⟩ := upN2 hb2 (.cells #[.int .u64 M, .int .u64 Q] 65)
    rw [hV3, ey8]
    have hu3 := upT HU1.out (upT hb2 hd3)
    have Q0 := hid (upR hu3 R0.out)
    have Q1 := hid (upR hu3 R1.out)
    have Q2 := hid (upR hu3 R2.out)
    have Q8 := hid r8
    have hy8' : w.heap.size + 2 < y8 := by
      have := some_ltK R2.out
      have := HU1.out.size
      have := hb2.size
      omega
    have lx3 := lvState_run Q0.out
    have HCQ := hid (HCP.out V3 hu3)
    have HU3 := hid (upT HB.out hu3)
    have hl3 := some_ltK Q2.out
    clear hV3 ey8 r8 hd3 hy8 hu3 hb2 HSG HCP HU1 R0 R1 R2 lx1 sv zs
    go_upto_region 6 with (go_at_call 43; refine HCQ.out.mono ?_; rintro e' w4 ⟨X, rfl, hsim, hcd, hb4⟩; have sv := svState_run (upR hb4 Q0.out) X; have HSM := hid hsim; have HCD := hid hcd; have HB4 := hid hb4; clear hsim hcd hb4)
    obtain ⟨hbf, hcc⟩ := BF.own (Nat.le_refl w.heap.size) HU3.out HB4.out (upR HB4.out Q0.out) HCD.out (by rw [cel_size, cel_size]; rfl)
    have hbk : BK V3 w.heap.size (w4.setRow w.heap.size (cel (sState X))) X := ⟨(Kept.ofBelow HB4.out).setRow _, hbf.row, hcc⟩
    obtain ⟨V4, hV⟩ : ∃ V, w4.setRow w.heap.size (cel (sState X)) = V := ⟨_, rfl⟩
    rw [hV] at hbk ⊢
    have lk4 := st_keys hbk.row
    have hrX := HRG.out.sim HSM.out
    have HRX := hid hrX
    have HBK := hid hbk
    have HSH := hid (show ∀ W Z, BK V3 w.heap.size W Z → W.heap[y8]? = some (.cells #[.int .u64 M, .int .u64 Q] 65) from fun W Z h => h.old Q8.out (by omega))
    have HBT := hid (show ∀ W Z, BK V3 w.heap.size W Z → W.heap[w.heap.size + 1]? = some (.cells (cel (sB8 b)) 56) from fun W Z h => h.old Q1.out (by omega))
    have HRS := hid (show ∀ W Z, BK V3 w.heap.size W Z → W.heap[w.heap.size + 2]? = some (.cells (cel (sState oState)) 49) from fun W Z h => h.old Q2.out (by omega))
    have HUP := hid (show ∀ W Z, BK V3 w.heap.size W Z → Up w W from fun W Z h => HU3.out.trans (h.kep.below (B := w.heap.size) (by omega) HU3.out.size))
    have HIX0 := hid (fun k (hk : k < 8) (W : World) => ix_keys X k hk W)
    obtain ⟨KF, eKF⟩ : ∃ f, X.f22.f0.f0 = f := ⟨_, rfl⟩
    rw [eKF] at lk4
    simp only [eKF] at HIX0
    have z4 := zero_48
    clear hV hbf hcc sv HCD HB4 HCQ hrX hbk lx3 HRG eKF Q0 Q1 Q2 Q8
    go_wp2
    clear lk4
    go_loopw [29] (fun c wr => ∃ k : Nat, k ≤ 8 ∧ c = .int .i64 k ∧ skA X k = true ∧ BK V3 w.heap.size wr (pyS X M Q p b k)) (fun c _ => 8 - (intOf c).toNat)
    case atStart => exact ⟨0, by omega, rfl, rfl, HBK.out⟩
    case round =>
      obtain ⟨k, hk, rfl, hsk, hbk⟩ := hrel
      by_cases hk8 : k < 8
      · have k1 : (k : Int) < 8 := by omega
        have k0 : (0 : Int) ≤ (k : Int) := by omega
        have ix := fun W => HIX0.out k hk8 W
        have hF := py_f X M Q p b k
        have hYn := fun h => py_no (b := b) (k := k) X M Q p h
        have hYy := fun h => py_yes (b := b) (k := k) X M Q p h
        obtain ⟨Z, eZ⟩ : ∃ Z, pyS X M Q p b k = Z := ⟨_, rfl⟩
        rw [eZ] at hbk hF hYn hYy
        have eo' : skO X k = owN X.f11.z (skK X k) X.f11.n := rfl
        obtain ⟨KK, eKK⟩ : ∃ K, skK X k = K := ⟨_, rfl⟩
        have sv := svKy_newv wr (fun _ => 0) KK
        simp only [eKK] at ix
        rw [eKK] at eo'
        have hokZ := py_ok HRX.out.ok HRX.out.ln (q := Q) HSB.out.1.1 p b k hsk
        rw [eZ] at hokZ
        have HOKZ := hid hokZ
        have HBZ := hid hbk
        have HF := hid hF
        have HYN := hid hYn
        have HYY := hid hYy
        have HSK := hid hsk
        have EO := hid eo'
        clear hbk hF hYn hYy hsk eo' eKK eZ hokZ
        go_upto_region 9 with fail
        obtain ⟨W5, y5, hW5, ey5, r5, hd5, _⟩ := upN2 (Below.refl _ wr) (.cells (vs .u8 48 KK) 44)
        rw [hW5, ey5]
        have hb5 := HBZ.out.below hd5
        have lz5 := lvState_run hb5.row
        have lk5 := lvKy_run r5
        have how := ownC_any Z KK W5 hb5.inW (by rw [HF.out.1]; exact HRX.out.nb)
        rw [HF.out.1, ← EO.out] at how
        have HB5 := hid hb5
        clear hW5 ey5 hd5 r5 hb5 HBZ sv ix
        obtain ⟨o, eo⟩ : ∃ o, skO X k = o := ⟨_, rfl⟩
        rw [eo] at how
        by_cases ho : o < X.f11.n
        · rw [if_pos ho, decide_eq_true ho] at how
          have HOW := hid how
          clear how
          go_upto_region 12 with (go_at_call 44; refine HOW.out.mono ?_; rintro e' w6 ⟨rfl, hb6⟩)
          have hb6' := HB5.out.below hb6
          obtain ⟨V6, hV6⟩ : ∃ V, w6 = V := ⟨_, rfl⟩
          rw [hV6] at hb6' ⊢
          have hsk1 := skA_up HSK.out (by rw [eo]; exact ho)
          have cb := b8_bit (HBT.out _ _ hb6') k hk8
          have h12 : Z.f12.n = X.f11.n := HF.out.2.2.2.1.trans HRX.out.ln
          have ho12 : o < Z.f12.n := by omega
          obtain ⟨g, hg⟩ := own_some hb6'.cpd.o12 (by omega)
          obtain ⟨hc, hcg, CG, hrow⟩ := hb6'.bx hg ho12
          have hs8 := HSH.out _ _ hb6'
          have hne8 := rows_ne hs8 hrow (by decide)
          have hm : ∀ W, Kept g V6 W → W.cell? ⟨y8, 0, none⟩ = some (.int .u64 M) := fun W h => (h.cell (some_ltK hs8) hne8).trans (row_cell2 hs8 0 _ rfl)
          have hix := fun W => ixN_i W g Z.f12.n Z.f12.c o ho12
          have hsb := HSB.out
          have hzb := HOKZ.out.o12 o ho12
          have hYN := HYN.out
          have hYY := HYY.out
          rw [eo] at hYN hYY
          obtain ⟨B, eB⟩ : ∃ B, Z.f12.z o = B := ⟨_, rfl⟩
          rw [eB] at hcg hzb hYN hYY
          have hlg := some_ltK hrow
          have HB6 := hid hb6'
          have HSK1 := hid hsk1
          have HG := hid hg
          have HO12 := hid ho12
          have H12 := hid h12
          have HC := hid hc
          have HCG := hid hcg
          have HROW := hid hrow
          have HLG := hid hlg
          have HIX := hid hix
          have HM := hid hm
          have HYN' := hid hYN
          have HYY' := hid hYY
          have EB := hid eB
          clear hb6 hb6' hV6 hsk1 h12 ho12 hg hc hcg hrow hs8 hne8 hm hix hYN hYY HYN HYY hlg eB lz5 lk5 HOW HB5 HOKZ EO
          obtain ⟨BB, hBB⟩ : ∃ B, b k = B := ⟨_, rfl⟩
          rw [hBB] at cb
          have HBB := hid hBB
          clear hBB
          cases BB
          · have hst := HYN'.out HBB.out
            have hle := fun W => lessR_any B M W hzb.1 hzb.2 (by omega) (by omega)
            have hb7 : ∀ T W, Up V6 W → BK V3 w.heap.size (W.setCell ⟨g, o, none⟩ (.int .u64 T)) (balS Z o T) := fun T W h => (HB6.out.below h).bal T HG.out HO12.out
            obtain ⟨T, eT⟩ : ∃ T, lesV B M = T := ⟨_, rfl⟩
            rw [eT] at hst
            simp only [eT] at hle
            have hb7 := hb7 T
            rw [← hst] at hb7
            have HLE := hid hle
            have HB7 := hid hb7
            clear hst hle hb7 eT hsb hzb HYN' HYY' HG HO12 H12
            go_upto_region 13 with fail
            refine wp_region_noPanic ?_
            refine wp_region_held_drew (S := fun W => Kept g V6 W) (by kernel_rfl) ((Kept.refl _ _).drew) (fun hHeld => ?_)
            have hUd : Up V6 V6.drew := (Below.refl _ _).drew
            generalize V6.drew = wd at hHeld hUd ⊢
            refine tk 0 (v := ?v501) ?y501 hHeld ?r501
            case y501 => intro w hSw; go_simp; try with_reducible rfl
            refine tk 1 (v := ?v502) ?y502 hHeld ?r502
            case y502 => intro w hSw; have ld0 := HC.out w hSw; go_simp; try with_reducible rfl
            refine tk 2 (v := ?v503) ?y503 hHeld ?r503
            case y503 => intro w hSw; go_simp; try with_reducible rfl
            refine tk 3 (v := ?v504) ?y504 hHeld ?r504
            case y504 => intro w hSw; go_simp; try with_reducible rfl
            refine tk 4 (v := ?v505) ?y505 hHeld ?r505
            case y505 => intro w hSw; have ld0 := HC.out w hSw; go_simp; try with_reducible rfl
            refine tk 5 (v := ?v506) ?y506 hHeld ?r506
            case y506 => intro w hSw; go_simp; try with_reducible rfl
            refine tk 6 (v := ?v507) ?y507 hHeld ?r507
            case y507 => intro w hSw; have ld0 := HIX.out w; go_simp; try with_reducible rfl
            refine tk 8 (v := ?v508) ?y508 hHeld ?r508
            case y508 => intro w hSw; go_simp; try with_reducible rfl
            refine tk 9 (v := ?v509) ?y509 hHeld ?r509
            case y509 => intro w hSw; have ld0 := HM.out w hSw; go_simp; try with_reducible rfl
            try simp only [Act.put, List.setIfInBounds_toArray, List.set_cons_zero, List.set_cons_succ, Array.toArray_toList, List.getElem_toArray, List.getElem_cons_zero, List.getElem_cons_succ]
            refine rd1 7 (fun K hK => ?_)
            have cg := (below_cell hUd HLG.out).trans HCG.out
            go_simp
            refine hK.out _ _ hHeld (fun hHeld => ?_)
            clear hK K cg
            try simp only [Act.put, List.setIfInBounds_toArray, List.set_cons_zero, List.set_cons_succ, Array.toArray_toList, List.getElem_toArray, List.getElem_cons_zero, List.getElem_cons_succ]
            refine rd1 10 (fun K hK => ?_)
            go_simp
            refine (HLE.out wd).mono ?_
            rintro e' x1 ⟨rfl, hd1⟩
            obtain rfl := hd1
            dsimp only
            refine hK.out _ _ hHeld (fun hHeld => ?_)
            clear hK K
            try simp only [Act.put, List.setIfInBounds_toArray, List.set_cons_zero, List.set_cons_succ, Array.toArray_toList, List.getElem_toArray, List.getElem_cons_zero, List.getElem_cons_succ]
            refine tk 11 (v := ?v510) ?y510 hHeld ?r510
            case y510 => intro w hSw; have ld0 := HIX.out w; go_simp; try with_reducible rfl
            try simp only [Act.put, List.setIfInBounds_toArray, List.set_cons_zero, List.set_cons_succ, Array.toArray_toList, List.getElem_toArray, List.getElem_cons_zero, List.getElem_cons_succ]
            refine rd1 12 (fun K hK => ?_)
            have cg := (below_cell hUd HLG.out).trans HCG.out
            have fg := row_frozen (upR hUd HROW.out) o
            go_simp
            have hce : Kept g V6 _ := hHeld.trans ((Kept.refl g x1).setCell o (.int .u64 T))
            refine hK.out _ _ hce (fun hHeld => ?_)
            clear hK K cg fg
            try simp only [Act.put, List.setIfInBounds_toArray, List.set_cons_zero, List.set_cons_succ, Array.toArray_toList, List.getElem_toArray, List.getElem_cons_zero, List.getElem_cons_succ]
            refine wpAnyH_done (by kernel_rfl) ?_ _
            refine NoPanic.normal ?_
            have hb7 := HB7.out _ hUd
            obtain ⟨W7, hW7⟩ : ∃ W, x1.setCell ⟨g, o, none⟩ (.int .u64 T) = W := ⟨_, rfl⟩
            rw [hW7] at hb7 ⊢
            clear hW7 hHeld hUd HC HCG HROW HLG HIX HM HLE HB7
            go_wp2
            go_roundw
            case rel => exact ⟨k + 1, by omega, by go_num, HSK1.out, hb7⟩
            case measure => simp [intOf]; omega
          · have hst := HYY'.out HBB.out
            have hb7 := HB6.out.bal (w64 (B + M)) HG.out HO12.out
            have c12 := HC.out V6 (Kept.refl _ _)
            have cg := HCG.out
            have fg := row_frozen HROW.out o
            have ix := HIX.out
            have cm := HM.out V6 (Kept.refl _ _)
            have kw : IntKind.u64.wrap (B + M) = w64 (B + M) := rfl
            have HST := hid hst
            have HB7 := hid hb7
            clear hst hb7 hsb hzb HYN' HYY' HC HCG HROW HLG HIX HM
            go_upto_region 14 with fail
            go_region
            obtain ⟨W7, hW7⟩ : ∃ W, (V6.setCell ⟨g, o, none⟩ (.int .u64 (w64 (B + M)))).drew = W := ⟨_, rfl⟩
            have hb7 : BK V3 w.heap.size W7 (balS Z o (w64 (B + M))) := by rw [← hW7]; exact HB7.out.drew
            rw [hW7]
            have hst := HST.out
            obtain ⟨Z1, eZ1⟩ : ∃ Z1, balS Z o (w64 (B + M)) = Z1 := ⟨_, rfl⟩
            have hg1 : Z1.f12.a = some ⟨g, 0, none⟩ := by rw [← eZ1]; exact HG.out
            have hp1 : p < Z1.f12.n := by rw [← eZ1]; show p < Z.f12.n; rw [H12.out, HSM.out.l11]; exact HPN.out
            rw [eZ1] at hst hb7
            obtain ⟨hc, hcg, CG, hrow⟩ := hb7.bx hg1 hp1
            have hs8 := HSH.out _ _ hb7
            have cq := row_cell2 hs8 1 _ rfl
            obtain ⟨B2, eB2⟩ : ∃ B, Z1.f12.z p = B := ⟨_, rfl⟩
            rw [eB2] at hcg hst
            have hb8 := hb7.bal (w64 (B2 + Q)) hg1 hp1
            rw [← hst] at hb8
            have HB8 := hid hb8
            have ix2 := fun W => ixN_u W g Z1.f12.n Z1.f12.c p hp1
            have c122 := hc W7 (Kept.refl _ _)
            have fg2 := row_frozen hrow p
            have kw2 : IntKind.u64.wrap (B2 + Q) = w64 (B2 + Q) := rfl
            clear hW7 c12 cg fg ix cm kw HST HB7 hst hb8 hb7 hg1 hp1 hc hrow hs8 eB2 eZ1 HB6 HG HO12 H12 EB cb
            go_upto_region 15 with fail
            go_region
            obtain ⟨W8, hW8⟩ : ∃ W, (W7.setCell ⟨g, p, none⟩ (.int .u64 (w64 (B2 + Q)))).drew = W := ⟨_, rfl⟩
            have hb8 : BK V3 w.heap.size W8 (pyS X M Q p b (k + 1)) := by rw [← hW8]; exact HB8.out.drew
            rw [hW8]
            clear hW8 c122 hcg fg2 ix2 cq kw2 HB8
            go_wp2
            go_roundw
            case rel => exact ⟨k + 1, by omega, by go_num, HSK1.out, hb8⟩
            case measure => simp [intOf]; omega
        · rw [if_neg ho, decide_eq_false ho] at how
          have hA8 : skA x 8 = false := by rw [← skA_sim HSM.out]; exact skA_no X k (by rw [eo]; exact ho) 8 hk8
          have hq27 : QE = 27 := by rw [HQE.out, hA8]; rfl
          have hqS : QS = oState := by rw [HQS.out, hq27]; rfl
          subst hq27 hqS
          have HOW := hid how
          clear how hA8 HQE HQS HOKZ EO HF HYN HYY
          go_wp2_with (go_at_call 44; refine HOW.out.mono ?_; rintro e' w6 ⟨rfl, hb6⟩; have hb6' := HB5.out.below hb6; have s1 := svState_run (HRS.out _ _ hb6') oState)
          have hb6' := HB5.out.below hb6
          exact retState 4 5 (w.heap.size + 2) oState 49 (.int .i64 27) rfl rfl rfl rfl (setRow_at (HRS.out _ _ hb6')) ⟨oState, rfl, resO _ _, below_row (HUP.out _ _ hb6') (by omega) _⟩
      · obtain rfl : k = 8 := by omega
        have kN : ¬ ((8 : Nat) : Int) < 8 := by omega
        obtain ⟨w3, ew3⟩ : ∃ V, wr = V := ⟨_, rfl⟩
        rw [ew3] at hbk ⊢
        have hf := py_f X M Q p b 8
        have hok := py_ok HRX.out.ok HRX.out.ln (q := Q) HSB.out.1.1 p b 8 hsk
        have hrz := py_sim HSM.out M Q p b 8
        have hA8 : skA x 8 = true := by rw [← skA_sim HSM.out]; exact hsk
        have hlX : Lns X := lnsS_sim HSM.out (right_lns HRT.out)
        obtain ⟨P, eP⟩ : ∃ P, pyS X M Q p b 8 = P := ⟨_, rfl⟩
        rw [eP] at hbk hf hok hrz
        have hlP : Lns P := by
          unfold Lns at hlX ⊢
          rw [hf.1, hf.2.2.2.1, hf.2.2.2.2.2.2]
          exact hlX
        have hri := right_any P w3 hok.r' hbk.inW.r' hlP
        have hqE := HQE.out
        rw [if_pos hA8, ← rightF hrz] at hqE
        have lp := lvState_run hbk.row
        have rs := HRS.out _ _ hbk
        have HU := hid (HUP.out _ _ hbk)
        have HB3 := hid hbk
        have RS := hid rs
        clear ew3 hbk hf hok hA8 hlX eP hlP HIX0 HSH HBT z4 HBK rs
        cases hRP : rightB P
        · rw [hRP] at hri hqE
          have hq2 : QE = 2 := by rw [hqE]; rfl
          have hqS : QS = oState := by rw [HQS.out, hq2]; rfl
          subst hq2 hqS
          have HRI := hid hri
          clear hri hqE HQE HQS hRP hrz
          go_wp2_with (go_at_call 11; refine HRI.out.mono ?_; rintro e' w4 ⟨rfl, hb4⟩; have s1 := svState_run (upR hb4 RS.out) oState)
          exact retState 4 5 (w.heap.size + 2) oState 49 (.int .i64 2) rfl rfl rfl rfl (setRow_at (upR hb4 RS.out)) ⟨oState, rfl, resO _ _, below_row (upT HU.out hb4) (by omega) _⟩
        · rw [hRP] at hri hqE
          have hq0 : QE = 0 := by rw [hqE]; rfl
          have hqS : QS = pyS x M Q p b 8 := by rw [HQS.out, hq0]; rfl
          subst hq0 hqS
          have HRI := hid hri
          have HRZ := hid hrz
          clear hri hqE HQE HQS hRP hrz
          go_wp2_with (go_at_call 11; refine HRI.out.mono ?_; rintro e' w4 ⟨rfl, hb4⟩; have lp4 := lvState_run (HB3.out.below hb4).row; have s1 := svState_run (upR hb4 RS.out) P)
          exact retState 4 5 (w.heap.size + 2) P 49 (.int .i64 0) rfl rfl rfl rfl (setRow_at (upR hb4 RS.out)) ⟨P, rfl, (((HB3.out.below hb4).give (upR hb4 RS.out) _).to HU3.out.size HRZ.out), below_row (upT HU.out hb4) (by omega) _⟩
  · have hp2 : (PE != 0) = true := by simp [hp]
    rw [if_neg hp] at hqE
    have eS : QS = oState := by rw [hqS, hqE, if_neg hp]
    subst eS hqE
    clear hB0 hW0 r0 r1 r2 hx hw hn hR hqS hin hrg hsb hshf
    go_enter Tryd.func19, Tryd.ntmps19
    go_upto_region 1 with fail
    rw [HW.out]
    clear HW z
    go_wp2_with (go_at_call 42; refine HPR.out.mono ?_; rintro e' w1 ⟨rfl, hu⟩; have s1 := svState_run (upR hu R2.out) oState)
    exact retState 4 5 (w.heap.size + 2) oState 49 (.int .i64 QE) rfl rfl rfl rfl (setRow_at (upR hu R2.out)) ⟨oState, rfl, resO _ _, below_row (upT HB.out hu) (by omega) _⟩

end Go.Proofs.YtficlakgameglaaDoor
