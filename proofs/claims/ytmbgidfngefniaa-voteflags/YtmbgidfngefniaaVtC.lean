/-
  What the program's Flags answers: its ends.
-/

import Derived.Test.YtmbgidfngefniaaVtB
import Derived.Test.YtmbgidfngefniaaStD
import Derived.Test.YtmbgidfngefniaaStY
namespace Go.Proofs.Ytmbgidfngefniaa

open Go.RowKit

set_option linter.unusedVariables false

set_option linter.unusedSimpArgs false

set_option maxRecDepth 20000

/-- How many elements a state's lists may have to be looked at. -/
def Ls (x : VState) : Prop := x.f11.n ≤ 9223372036854775807 ∧ x.f21.n ≤ 9223372036854775807 ∧ x.f12.n ≤ 9223372036854775807

def PFlags : Prop := ∀ (x : VState) (d : VData) (w : World), OkState x → InW w x → Ls x → OkData d → Calls Try.prog 6 #[.agg (cel (sState x)), .agg (cel (sData d))] w fun e' w' => e' = .returned (.tuple #[.agg (flV x d), .int .i64 (flE x d)]) ∧ Below w.heap.size w w'

/-- The frame with which the one end is reached. -/
def FlJ (e : Int) (b : Nat) (a' : Act) : Prop := ∃ u0 u1 u2 u3 u5 u7 u8 u9 u10 u11 u12 u13 u14 u15 u16 u17 u18 u19 u20 u21 u22 u23 u24 u25 u26 u27, a' = { tmps := #[u0, u1, u2, u3, .pointer (some ⟨b + 2, 0, none⟩), u5, .int .i64 e, u7, u8, u9, u10, u11, u12, u13, u14, u15, u16, u17, u18, u19, u20, u21, u22, u23, u24, u25, u26, u27], defers := [] }

attribute [local go_sem ↓] lvState_eq svState_eq bdState_eq sv24_eq lv24_eq lvData_eq lvCheckpoint_eq svK_eq lvF_eq svF_eq bdF_eq neoK_eq eqo_eq

set_option maxHeartbeats 8000000 in
theorem flags_prog : PFlags := fun x d w hx hw hl hd => by
  obtain ⟨V0, hV0, q0, q1, hB0, zV⟩ := two_blocks x d w
  obtain ⟨W0, hW0⟩ : ∃ W, V0.alloc (.cells (b3 false false false) 53) = W := ⟨_, rfl⟩
  have hB1 : Up V0 W0 := by rw [← hW0]; exact (Below.refl _ _).alloc (Nat.le_refl _) _
  have r0 := upR hB1 q0
  have r1 := upR hB1 q1
  have r2 : W0.heap[w.heap.size + 2]? = some (.cells (b3 false false false) 53) := by rw [← hW0]; exact heap_new (by omega)
  have hlx : ∀ W, Up W0 W → (lvState ⟨w.heap.size, 0, none⟩).run Try.prog W = .ok (.agg (cel (sState x))) W := fun W h => lvState_run (upR h r0)
  have hld : ∀ W, Up W0 W → (lvData ⟨w.heap.size + 1, 0, none⟩).run Try.prog W = .ok (.agg (cel (sData d))) W := fun W h => lvD_row (upR h r1)
  have hl3 : ∀ W, Up W0 W → (lvCheckpoint ⟨w.heap.size + 1, 34, none⟩).run Try.prog W = .ok (.agg (cel (sCheckpoint d.f3))) W := fun W h => dK3 (upR h r1)
  have h67 : ∀ W, Up W0 W → W.cell? ⟨w.heap.size + 1, 67, none⟩ = some (.int .u64 d.f4.f0) := fun W h => dC67 (upR h r1)
  have hri := right_any x W0 hx.r' (hw.below (upT hB0 hB1)).r' hl
  have lx := hlx W0 (Below.refl _ _)
  obtain ⟨E, hE⟩ : ∃ e, flE x d = e := ⟨_, rfl⟩
  obtain ⟨FV, hFV⟩ : ∃ e, flV x d = e := ⟨_, rfl⟩
  have hF0 : ¬ E = 0 → FV = b3 false false false := fun h => by rw [← hFV]; unfold flV; rw [if_neg (by rw [hE]; exact h)]
  have hEe : E = if rightB x = true then (if tmE x d = 0 then (if eqK d.f3 (soV x d.f4.f0) = true then 0 else 33) else tmE x d) else 1 := by rw [← hE]; rfl
  have hFe : FV = if E = 0 then woV x d else b3 false false false := by rw [← hFV, ← hE]; rfl
  rw [hE, hFV]
  have HB := hid (upT hB0 hB1)
  have HV0 := hid hV0
  have HW0 := hid hW0
  have HLX := hid hlx
  have HLD := hid hld
  have HL3 := hid hl3
  have H67 := hid h67
  have HRI := hid hri
  have R2 := hid r2
  have HE := hid hEe
  have HFE := hid hFe
  have HF0 := hid hF0
  have HX := hid hx
  have HD := hid hd
  clear hB0 hB1 hV0 hW0 q0 q1 r0 r1 r2 hlx hld hl3 h67 hri hE hFV hF0 hEe hFe hx hd hw hl zV
  have zf := zeroF
  go_enter Try.func6, Try.ntmps6
  go_wp2
  rw [HV0.out, HW0.out]
  clear HW0 HV0 zf
  refine wp_scope_jumps 0 (fun a' w' => ¬ E = 0 ∧ FlJ E w.heap.size a' ∧ w'.heap[w.heap.size + 2]? = some (.cells (b3 false false false) 53) ∧ Up W0 w') (fun _ _ => 0) rfl ?first ?pass
  case pass =>
    rintro a' wr ⟨hne, ⟨u0, u1, u2, u3, u5, u7, u8, u9, u10, u11, u12, u13, u14, u15, u16, u17, u18, u19, u20, u21, u22, u23, u24, u25, u26, u27, rfl⟩, hrow, hup⟩
    obtain rfl := HF0.out hne
    have bz := bdF_0
    have s1 := svF_run hrow false false false
    have HRW := hid hrow
    have HUP := hid hup
    clear hne hrow hup HE HFE HF0 HRI lx R2 HLX HLD HL3 H67 HX HD
    go_wp2
    simp only [Exit.jump]
    exact retFs 4 5 (w.heap.size + 2) false false false 53 (.int .i64 E) rfl rfl rfl rfl (setRow_at HRW.out) ⟨rfl, below_row (upT HB.out HUP.out) (by omega) _⟩
  case first =>
    cases hR : rightB x
    · rw [hR] at HRI
      obtain rfl : E = 1 := by rw [HE.out, hR]; rfl
      clear HE HFE HF0 HLX HLD HL3 H67 HX HD
      go_wp2_with (go_at_call 9; refine HRI.out.mono ?_; rintro e' w1 ⟨rfl, hb1⟩)
      go_step3
      exact ⟨rfl, by decide, ⟨_, _, _, _, _, _, _, _, _, _, _, _, _, _, _, _, _, _, _, _, _, _, _, _, _, _, rfl⟩, upR hb1 R2.out, hb1⟩
    · rw [hR] at HRI
      have hs := (rightB_out hR).c7
      have hct := fun W : World => vtime_any x d W HX.out hs HD.out
      obtain ⟨K, hK⟩ : ∃ k, tmE x d = k := ⟨_, rfl⟩
      by_cases hK0 : K = 0
      · subst hK0
        have hso := fun W : World => vsrc_any x d.f4.f0 W HX.out hs
        have hwo := fun W : World => vworth_any x d W HX.out hs HD.out hK
        have hnk := fun W : World => neoK_run W d.f3 (soV x d.f4.f0) HD.out.2.2.2.1 (soV_ok HX.out d.f4.f0)
        have hE2 := HE.out
        have hF2 := HFE.out
        rw [hR, if_pos rfl, if_pos hK] at hE2
        obtain ⟨SV, eSV⟩ : ∃ s, soV x d.f4.f0 = s := ⟨_, rfl⟩
        obtain ⟨KB, eKB⟩ : ∃ s, eqK d.f3 SV = s := ⟨_, rfl⟩
        obtain ⟨T, eT⟩ : ∃ s, d.f4.f0 = s := ⟨_, rfl⟩
        obtain ⟨DK, eDK⟩ : ∃ s, d.f3 = s := ⟨_, rfl⟩
        rw [eSV, eKB] at hE2
        rw [eSV, eKB, eDK] at hnk
        rw [eT] at eSV
        simp only [eT, eSV] at hso
        rw [hK] at hct
        have HCT := hid hct
        have HSO := hid hso
        have HWO := hid hwo
        have HNK := hid hnk
        have HE2 := hid hE2
        have HF2 := hid hF2
        have H67b := hid (show ∀ W, Up W0 W → W.cell? ⟨w.heap.size + 1, 67, none⟩ = some (.int .u64 T) from by rw [← eT]; exact H67.out)
        have HL3b := hid (show ∀ W, Up W0 W → (lvCheckpoint ⟨w.heap.size + 1, 34, none⟩).run Try.prog W = .ok (.agg (cel (sCheckpoint DK))) W from by rw [← eDK]; exact HL3.out)
        clear hK hct hso hwo hnk hE2 hF2 eSV eKB eT eDK hs hR H67 HL3 HE HFE HF0 HX HD
        go_upto_region 3 with (go_at_call 9; refine HRI.out.mono ?_; rintro e' w1 ⟨rfl, hb1⟩)
        have lx := HLX.out w1 hb1
        have ld := HLD.out w1 hb1
        have HU1 := hid hb1
        clear hb1 HRI
        go_upto_region 6 with (go_at_call 10; refine (HCT.out w1).mono ?_; rintro e' w2 ⟨rfl, hb2⟩)
        have HU2 := hid (upT HU1.out hb2)
        clear hb2 HU1 HCT lx ld
        refine wp_region_noPanic ?_
        refine wp_region_held_drew (S := fun W => Up W0 W) (by kernel_rfl) (HU2.out.drew) (fun hHeld => ?_)
        refine tk 0 (v := ?v501) ?y501 hHeld ?r501
        case y501 => intro w hSw; go_simp; try with_reducible rfl
        refine tk 1 (v := ?v502) ?y502 hHeld ?r502
        case y502 => intro w hSw; have ld0 := HL3b.out _ hSw; go_simp; try with_reducible rfl
        refine tk 2 (v := ?v503) ?y503 hHeld ?r503
        case y503 => intro w hSw; have ld0 := HLX.out _ hSw; go_simp; try with_reducible rfl
        refine tk 3 (v := ?v504) ?y504 hHeld ?r504
        case y504 => intro w hSw; go_simp; try with_reducible rfl
        refine tk 4 (v := ?v505) ?y505 hHeld ?r505
        case y505 => intro w hSw; go_simp; try with_reducible rfl
        refine tk 5 (v := ?v506) ?y506 hHeld ?r506
        case y506 => intro w hSw; have ld0 := H67b.out _ hSw; go_simp; try with_reducible rfl
        try simp only [Act.put, List.setIfInBounds_toArray, List.set_cons_zero, List.set_cons_succ, Array.toArray_toList, List.getElem_toArray, List.getElem_cons_zero, List.getElem_cons_succ]
        refine wpAnyH_ready (rs := [6]) (by kernel_rfl) (by simp) ?_
        refine AllReadyH.cons rfl (fun K hK => ?_) AllReadyH.nil
        go_simp
        refine (HSO.out _).mono ?_
        rintro e' w3 ⟨rfl, hb3⟩
        dsimp only
        refine hK.out _ _ (upT hHeld hb3) (fun hHeld => ?_)
        clear hK K
        try simp only [Act.put, List.setIfInBounds_toArray, List.set_cons_zero, List.set_cons_succ, Array.toArray_toList, List.getElem_toArray, List.getElem_cons_zero, List.getElem_cons_succ]
        have hw3 : Up W0 w3 := hHeld
        cases KB
        · obtain rfl : E = 33 := HE2.out
          clear HWO HF2 HE2
          refine tk 7 (v := ?v507) ?y507 hHeld ?r507
          case y507 => intro w hSw; have ld0 := HNK.out w; go_simp; try with_reducible rfl
          try simp only [Act.put, List.setIfInBounds_toArray, List.set_cons_zero, List.set_cons_succ, Array.toArray_toList, List.getElem_toArray, List.getElem_cons_zero, List.getElem_cons_succ]
          refine wpAnyH_done (by kernel_rfl) ?_ _
          refine NoPanic.normal ?_
          go_wp2
          go_step3
          exact ⟨rfl, by decide, ⟨_, _, _, _, _, _, _, _, _, _, _, _, _, _, _, _, _, _, _, _, _, _, _, _, _, _, rfl⟩, upR hw3 R2.out, hw3⟩
        · obtain rfl : E = 0 := HE2.out
          have hF3 : FV = woV x d := HF2.out
          subst hF3
          clear HF2 HE2
          refine tk 7 (v := ?v508) ?y508 hHeld ?r508
          case y508 => intro w hSw; have ld0 := HNK.out w; go_simp; try with_reducible rfl
          try simp only [Act.put, List.setIfInBounds_toArray, List.set_cons_zero, List.set_cons_succ, Array.toArray_toList, List.getElem_toArray, List.getElem_cons_zero, List.getElem_cons_succ]
          refine wpAnyH_done (by kernel_rfl) ?_ _
          refine NoPanic.normal ?_
          have lx := HLX.out w3 hw3
          have ld := HLD.out w3 hw3
          have HU3 := hid hw3
          clear hw3 hHeld hb3 HU2
          go_wp2_with (go_at_call 12; refine (HWO.out w3).mono ?_; rintro e' w4 ⟨rfl, hb4⟩; unfold woV; have sv := svF_run (upR (upT HU3.out hb4) R2.out) (wo0 x d) (wo1 x d) (wo2 x d))
          simp only [Exit.jump]
          exact retFs 4 5 (w.heap.size + 2) _ _ _ 53 (.int .i64 0) rfl rfl rfl rfl (setRow_at (upR (upT HU3.out hb4) R2.out)) ⟨rfl, below_row (upT HB.out (upT HU3.out hb4)) (by omega) _⟩
      · obtain rfl : E = K := by rw [HE.out, hR, if_pos rfl, hK, if_neg hK0]
        have hK2 : (E != 0) = true := by simp [hK0]
        rw [hK] at hct
        have HCT := hid hct
        clear hct hK hs hR HE HFE HF0 HL3 H67 HX HD
        go_upto_region 3 with (go_at_call 9; refine HRI.out.mono ?_; rintro e' w1 ⟨rfl, hb1⟩)
        have lx := HLX.out w1 hb1
        have ld := HLD.out w1 hb1
        have HU1 := hid hb1
        clear hb1 HRI
        go_wp2_with (go_at_call 10; refine (HCT.out w1).mono ?_; rintro e' w2 ⟨rfl, hb2⟩)
        have hw2 := upT HU1.out hb2
        go_step3
        exact ⟨rfl, hK0, ⟨_, _, _, _, _, _, _, _, _, _, _, _, _, _, _, _, _, _, _, _, _, _, _, _, _, _, rfl⟩, upR hw2 R2.out, hw2⟩

end Go.Proofs.Ytmbgidfngefniaa
