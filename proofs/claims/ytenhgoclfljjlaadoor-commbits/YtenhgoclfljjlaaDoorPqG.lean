/-
  What partitionOrdered makes of a row.
-/

import Derived.Test.YtenhgoclfljjlaaDoorPqF
import Derived.BigRegion

import Derived.Deep.Cut

import Derived.Deep.CutRange

import Derived.Deep.CutBlock

import Derived.Sort.WalkC4

namespace Go.Proofs.YtenhgoclfljjlaaDoor.Q

open Go.RowKit

set_option linter.unusedVariables false

set_option linter.unusedSimpArgs false

set_option maxRecDepth 1000000

/-- What partitionOrdered answers. -/
def PtE (w : World) (g off : Nat) (p : Nat × Bool × Array Int) (e : Ending) (w' : World) : Prop := e = .returned (.tuple #[.int .i64 (p.1 : Nat), .bool p.2.1]) ∧ Sr w g off p.2.2 w'

set_option maxHeartbeats 12800000 in
theorem part_any (g off n cap a b pv : Nat) (d : Array Int) (w : World) (hS : Sr w g off d w) (hn : d.size = n) (hap : a ≤ pv) (hpb : pv < b) (hb : b ≤ n) (hz : n < 4611686018427387904) :
    Calls Tryd.prog 58 #[.slice (some ⟨g, off, none⟩) n cap, .int .i64 a, .int .i64 b, .int .i64 pv] w (PtE w g off (Sort.partition Sort.ltInt d a b pv)) := by
  have hs0 : Sr w g off d w := hS
  have HS0 := hid hs0
  clear hs0
  go_enter Tryd.func58, Tryd.ntmps58
  go_upto_region 1 with fail
  go_cut [10] from 12 to 25 (fun v wx => Sr w g off (Sort.swp d a pv) wx)
  case first =>
    have hc := hS.cell hn
    have hf := hS.soft hn
    clear hS
    rcases Nat.lt_or_ge a pv with hap2 | hap2
    · go_region
      go_wp2
      go_meet
      exact HS0.out.swap hn (by omega) (by omega) 1 rfl rfl
    · obtain rfl : a = pv := by omega
      go_region
      go_wp2
      go_meet
      exact HS0.out.swap hn (by omega) (by omega) 1 rfl rfl
  case rest =>
    have HS1 := hid hcut
    clear hcut HS0 hS
    have HS := HS1
    clear HS1
    obtain ⟨i, hi⟩ : ∃ i, i = a + 1 := ⟨_, rfl⟩
    obtain ⟨j, hj⟩ : ∃ j, j = b - 1 := ⟨_, rfl⟩
    have ei : (a : Int) + 1 = (i : Int) := by omega
    have ej : (b : Int) - 1 = (j : Int) := by omega
    have h1 : a < i := by omega
    have h2 : i ≤ j + 1 := by omega
    have h3 : j < b := by omega
    obtain ⟨dk, hdk⟩ : ∃ dk, dk = Sort.swp d a pv := ⟨_, rfl⟩
    have hd : dk.size = n := by rw [hdk, swp_size]; exact hn
    rw [← hdk] at HS
    obtain ⟨I, hI⟩ : ∃ I, I = Sort.scanUp (fun x => Sort.ltInt x dk[a]!) dk j i := ⟨_, rfl⟩
    obtain ⟨J, hJ⟩ : ∃ J, J = Sort.scanDown (fun x => !Sort.ltInt x dk[a]!) dk I j := ⟨_, rfl⟩
    have bI := scan_up_bd (fun x => Sort.ltInt x dk[a]!) dk j i h2
    have bJ := scan_down_bd (fun x => !Sort.ltInt x dk[a]!) dk I j
    rw [← hI] at bI
    rw [← hJ] at bJ
    have hlt : I ≤ J → I < J := fun h => part_scans_lt Sort.ltInt a i j dk (by omega) hI hJ h
    have hfb : J < I → Sort.partition Sort.ltInt d a b pv = (J, true, Sort.swp dk J a) := fun h => part_first_break Sort.ltInt d a b pv hi hj hdk hI hJ h
    have hfg : ¬ I > J → Sort.partition Sort.ltInt d a b pv = ((Sort.partLoop Sort.ltInt a (I + 1) (J - 1) (Sort.swp dk I J)).1, false, Sort.swp (Sort.partLoop Sort.ltInt a (I + 1) (J - 1) (Sort.swp dk I J)).2 (Sort.partLoop Sort.ltInt a (I + 1) (J - 1) (Sort.swp dk I J)).1 a) := fun h => part_first_go Sort.ltInt d a b pv hi hj hdk hI hJ h
    have HFB := hid hfb
    have HFG := hid hfg
    have HLT := hid hlt
    have HI := hid hI
    have HJ := hid hJ
    have HEI := hid hi
    have HEJ := hid hj
    clear hfb hfg hlt hI hJ hi hj hdk
    go_upto_block 0 with fail
    go_cut [10] from 12 to 167 (fun v wx => v = .int .i64 (I : Nat) ∧ Sr w g off dk wx)
    case first =>
      go_wp2_with fail
      go_loopg [10] (j + 1 - i) (fun k v wx => ∃ i2 : Nat, v = .int .i64 i2 ∧ i ≤ i2 ∧ j + 1 - i2 ≤ k ∧ Sr w g off dk wx ∧ Sort.scanUp (fun x => Sort.ltInt x dk[a]!) dk j i2 = I)
      case atStart => exact ⟨i, rfl, Nat.le_refl _, Nat.le_refl _, HS.out, HI.out.symm⟩
      case round =>
        clear HS
        obtain ⟨i2, rfl, hq, hk2, hs, hsc⟩ := hrel
        have hc := hs.cell hd
        have hf := hs.soft hd
        have HS2 := hid hs
        have HSC := hid hsc
        clear hs hsc
        by_cases hij : i2 ≤ j
        · have hijz : (i2 : Int) ≤ (j : Int) := by omega
          go_wp2_with fail
          go_quiet (first | (go_at_call 56; refine Calls.quiet_of_same (less_any _ _ _)))
          go_wp2
          · have hl : ls (el dk (i2)) (el dk (a)) = true := by assumption
            go_roundg (j + 1 - (i2 + 1))
            case measure => omega
            case rel => exact ⟨i2 + 1, by simp, by omega, Nat.le_refl _, HS2.out.drewN nq, (scanUp_go _ dk j i2 hij (hl)).symm.trans HSC.out⟩
          · have hl : ls (el dk (i2)) (el dk (a)) = false := by assumption
            go_meet
            exact ⟨by rw [show i2 = I from (scanUp_end _ dk j i2 (.inr (hl))).symm.trans HSC.out], HS2.out.drewN nq⟩
        · have hijz : decide ((i2 : Int) ≤ (j : Int)) = false := decide_eq_false (by omega)
          go_wp2_with fail
          go_quiet (first | (go_at_call 56; refine Calls.quiet_of_same (less_any _ _ _)))
          go_wp2
          go_meet
          exact ⟨by rw [show i2 = I from (scanUp_end _ dk j i2 (.inl hij)).symm.trans HSC.out], HS2.out.drewN nq⟩
    case rest =>
      clear HS
      obtain ⟨rfl, hs⟩ := hcut
      have HS := hid hs
      clear hs
      go_upto_block 2 with fail
      go_cut [11] from 12 to 167 (fun v wx => v = .int .i64 (J : Nat) ∧ Sr w g off dk wx)
      case first =>
        go_wp2_with fail
        go_loopg [11] (j) (fun k v wx => ∃ j2 : Nat, v = .int .i64 j2 ∧ j2 ≤ j ∧ j2 ≤ k ∧ Sr w g off dk wx ∧ Sort.scanDown (fun x => !Sort.ltInt x dk[a]!) dk I j2 = J)
        case atStart => exact ⟨j, rfl, Nat.le_refl _, Nat.le_refl _, HS.out, HJ.out.symm⟩
        case round =>
          clear HS
          obtain ⟨j2, rfl, hq, hk2, hs, hsc⟩ := hrel
          have hc := hs.cell hd
          have hf := hs.soft hd
          have HS2 := hid hs
          have HSC := hid hsc
          clear hs hsc
          by_cases hij : I ≤ j2
          · have hijz : (I : Int) ≤ (j2 : Int) := by omega
            go_wp2_with fail
            go_quiet (first | (go_at_call 56; refine Calls.quiet_of_same (less_any _ _ _)))
            go_wp2
            · have hl : ls (el dk (j2)) (el dk (a)) = false := by
                have : (!ls (el dk (j2)) (el dk (a))) = true := by assumption
                simpa using this
              go_roundg (j2 - 1)
              case measure => omega
              case rel => exact ⟨j2 - 1, by congr 1; omega, by omega, Nat.le_refl _, HS2.out.drewN nq, (scanDown_go _ dk I j2 hij (by omega) (by show (!ls (el dk (j2)) (el dk (a))) = true; rw [hl]; rfl)).symm.trans HSC.out⟩
            · have hl : ls (el dk (j2)) (el dk (a)) = true := by
                have : (!ls (el dk (j2)) (el dk (a))) = false := by assumption
                simpa using this
              go_meet
              exact ⟨by rw [show j2 = J from (scanDown_end _ dk I j2 (.inr (by show (!ls (el dk (j2)) (el dk (a))) = false; rw [hl]; rfl))).symm.trans HSC.out], HS2.out.drewN nq⟩
          · have hijz : decide ((I : Int) ≤ (j2 : Int)) = false := decide_eq_false (by omega)
            go_wp2_with fail
            go_quiet (first | (go_at_call 56; refine Calls.quiet_of_same (less_any _ _ _)))
            go_wp2
            go_meet
            exact ⟨by rw [show j2 = J from (scanDown_end _ dk I j2 (.inl hij)).symm.trans HSC.out], HS2.out.drewN nq⟩
      case rest =>
        clear HS
        obtain ⟨rfl, hs⟩ := hcut
        have HS := hid hs
        clear hs
        have hlt := HLT.out
        obtain ⟨b1, b2⟩ := bI
        obtain ⟨b3, b4⟩ := bJ
        by_cases hIJ : I ≤ J
        · have hIJ2 := hlt hIJ
          have hpt := HFG.out (by omega)
          obtain ⟨RL, hR0⟩ : ∃ RL, Sort.partLoop Sort.ltInt a (I + 1) (J - 1) (Sort.swp dk I J) = RL := ⟨_, rfl⟩
          rw [hR0] at hpt
          have HPT := hid hpt
          have HR0 := hid hR0
          have hc := HS.out.cell hd
          have hf := HS.out.soft hd
          have hIJz : ¬ (J : Int) < (I : Int) := by omega
          clear hlt hpt hR0 HFB HFG HLT HI HJ
          go_upto_region 10 with fail
          go_region
          clear hc hf
          go_wp2
          go_loopg [10, 11] (b - a) (fun k s10 s11 wr => ∃ (i j : Nat) (dk : Array Int), s10 = .int .i64 i ∧ s11 = .int .i64 j ∧ a + 1 < i ∧ i ≤ j + 1 ∧ j < b ∧ j + 1 - i ≤ k ∧ dk.size = n ∧ Sr w g off dk wr ∧ Sort.partLoop Sort.ltInt a i j dk = RL)
          case atStart => exact ⟨I + 1, J - 1, _, by simp, by congr 1; omega, by omega, by omega, by omega, by omega, by rw [swp_size]; exact hd, HS.out.swap hd (by omega) (by omega) 1 rfl rfl, HR0.out⟩
          case round =>
            clear HS HR0 HEI HEJ hIJ hIJ2 hIJz b1 b2 b3 b4 ei ej hd h1 h2 h3
            obtain ⟨i, j, dk, rfl, rfl, h1, h2, h3, hk, hd, hs, heq⟩ := hrel
            obtain ⟨I, hI⟩ : ∃ I, I = Sort.scanUp (fun x => Sort.ltInt x dk[a]!) dk j i := ⟨_, rfl⟩
            obtain ⟨J, hJ⟩ : ∃ J, J = Sort.scanDown (fun x => !Sort.ltInt x dk[a]!) dk I j := ⟨_, rfl⟩
            have bI := scan_up_bd (fun x => Sort.ltInt x dk[a]!) dk j i h2
            have bJ := scan_down_bd (fun x => !Sort.ltInt x dk[a]!) dk I j
            rw [← hI] at bI
            rw [← hJ] at bJ
            have hlt : I ≤ J → I < J := fun h => part_scans_lt Sort.ltInt a i j dk (by omega) hI hJ h
            have hbr : J < I → Sort.partLoop Sort.ltInt a i j dk = (J, dk) := fun h => part_break Sort.ltInt a i j dk hI hJ h
            have hgo : ¬ I > J → Sort.partLoop Sort.ltInt a i j dk = Sort.partLoop Sort.ltInt a (I + 1) (J - 1) (Sort.swp dk I J) := fun h => part_go Sort.ltInt a i j dk hI hJ h
            rw [heq] at hbr hgo
            have HK := hid hk
            have HBR := hid hbr
            have HGO := hid hgo
            have HLT := hid hlt
            have HS := hid hs
            have HI := hid hI
            have HJ := hid hJ
            clear hbr hgo hlt hs heq hk hI hJ
            go_upto_block 6 with fail
            go_cut [10] from 99 to 152 (fun v wx => v = .int .i64 (I : Nat) ∧ Sr w g off dk wx)
            case first =>
              go_wp2_with fail
              go_loopg [10] (j + 1 - i) (fun k v wx => ∃ i2 : Nat, v = .int .i64 i2 ∧ i ≤ i2 ∧ j + 1 - i2 ≤ k ∧ Sr w g off dk wx ∧ Sort.scanUp (fun x => Sort.ltInt x dk[a]!) dk j i2 = I)
              case atStart => exact ⟨i, rfl, Nat.le_refl _, Nat.le_refl _, HS.out, HI.out.symm⟩
              case round =>
                clear HS
                obtain ⟨i2, rfl, hq, hk2, hs, hsc⟩ := hrel
                have hc := hs.cell hd
                have hf := hs.soft hd
                have HS2 := hid hs
                have HSC := hid hsc
                clear hs hsc
                by_cases hij : i2 ≤ j
                · have hijz : (i2 : Int) ≤ (j : Int) := by omega
                  go_wp2_with fail
                  go_quiet (first | (go_at_call 56; refine Calls.quiet_of_same (less_any _ _ _)))
                  go_wp2
                  · have hl : ls (el dk (i2)) (el dk (a)) = true := by assumption
                    go_roundg (j + 1 - (i2 + 1))
                    case measure => omega
                    case rel => exact ⟨i2 + 1, by simp, by omega, Nat.le_refl _, HS2.out.drewN nq, (scanUp_go _ dk j i2 hij (hl)).symm.trans HSC.out⟩
                  · have hl : ls (el dk (i2)) (el dk (a)) = false := by assumption
                    go_meet
                    exact ⟨by rw [show i2 = I from (scanUp_end _ dk j i2 (.inr (hl))).symm.trans HSC.out], HS2.out.drewN nq⟩
                · have hijz : decide ((i2 : Int) ≤ (j : Int)) = false := decide_eq_false (by omega)
                  go_wp2_with fail
                  go_quiet (first | (go_at_call 56; refine Calls.quiet_of_same (less_any _ _ _)))
                  go_wp2
                  go_meet
                  exact ⟨by rw [show i2 = I from (scanUp_end _ dk j i2 (.inl hij)).symm.trans HSC.out], HS2.out.drewN nq⟩
            case rest =>
              clear HS
              obtain ⟨rfl, hs⟩ := hcut
              have HS := hid hs
              clear hs
              go_upto_block 8 with fail
              go_cut [11] from 99 to 152 (fun v wx => v = .int .i64 (J : Nat) ∧ Sr w g off dk wx)
              case first =>
                go_wp2_with fail
                go_loopg [11] (j) (fun k v wx => ∃ j2 : Nat, v = .int .i64 j2 ∧ j2 ≤ j ∧ j2 ≤ k ∧ Sr w g off dk wx ∧ Sort.scanDown (fun x => !Sort.ltInt x dk[a]!) dk I j2 = J)
                case atStart => exact ⟨j, rfl, Nat.le_refl _, Nat.le_refl _, HS.out, HJ.out.symm⟩
                case round =>
                  clear HS
                  obtain ⟨j2, rfl, hq, hk2, hs, hsc⟩ := hrel
                  have hc := hs.cell hd
                  have hf := hs.soft hd
                  have HS2 := hid hs
                  have HSC := hid hsc
                  clear hs hsc
                  by_cases hij : I ≤ j2
                  · have hijz : (I : Int) ≤ (j2 : Int) := by omega
                    go_wp2_with fail
                    go_quiet (first | (go_at_call 56; refine Calls.quiet_of_same (less_any _ _ _)))
                    go_wp2
                    · have hl : ls (el dk (j2)) (el dk (a)) = false := by
                        have : (!ls (el dk (j2)) (el dk (a))) = true := by assumption
                        simpa using this
                      go_roundg (j2 - 1)
                      case measure => omega
                      case rel => exact ⟨j2 - 1, by congr 1; omega, by omega, Nat.le_refl _, HS2.out.drewN nq, (scanDown_go _ dk I j2 hij (by omega) (by show (!ls (el dk (j2)) (el dk (a))) = true; rw [hl]; rfl)).symm.trans HSC.out⟩
                    · have hl : ls (el dk (j2)) (el dk (a)) = true := by
                        have : (!ls (el dk (j2)) (el dk (a))) = false := by assumption
                        simpa using this
                      go_meet
                      exact ⟨by rw [show j2 = J from (scanDown_end _ dk I j2 (.inr (by show (!ls (el dk (j2)) (el dk (a))) = false; rw [hl]; rfl))).symm.trans HSC.out], HS2.out.drewN nq⟩
                  · have hijz : decide ((I : Int) ≤ (j2 : Int)) = false := decide_eq_false (by omega)
                    go_wp2_with fail
                    go_quiet (first | (go_at_call 56; refine Calls.quiet_of_same (less_any _ _ _)))
                    go_wp2
                    go_meet
                    exact ⟨by rw [show j2 = J from (scanDown_end _ dk I j2 (.inl hij)).symm.trans HSC.out], HS2.out.drewN nq⟩
              case rest =>
                clear HS
                obtain ⟨rfl, hs⟩ := hcut
                have HS := hid hs
                clear hs
                have hlt := HLT.out
                obtain ⟨b1, b2⟩ := bI
                obtain ⟨b3, b4⟩ := bJ
                by_cases hIJ : I ≤ J
                · have hIJ2 := hlt hIJ
                  have hc := HS.out.cell hd
                  have hf := HS.out.soft hd
                  have hIJz : ¬ (J : Int) < (I : Int) := by omega
                  clear hlt
                  go_wp2_with fail
                  go_region
                  go_wp2
                  go_roundg (J - 1 + 1 - (I + 1))
                  case measure => have := HK.out; omega
                  case rel => exact ⟨I + 1, J - 1, Sort.swp dk I J, by simp, by congr 1; omega, by omega, by omega, by omega, Nat.le_refl _, by rw [swp_size]; exact hd, HS.out.swap hd (by omega) (by omega) 1 rfl rfl, (HGO.out (by omega)).symm⟩
                · have hIJz : (J : Int) < (I : Int) := by omega
                  have hRL := HBR.out (by omega)
                  have hJa : a < J := by omega
                  have hJaz : (a : Int) < (J : Int) := by omega
                  have hc := HS.out.cell hd
                  have hf := HS.out.soft hd
                  have HRL := hid hRL
                  clear hlt hRL
                  go_wp2_with fail
                  go_region
                  go_wp2
                  go_ret2
                  exact ⟨by rw [HPT.out, HRL.out]; rfl, by rw [HPT.out, HRL.out]; exact HS.out.swap hd (by omega) (by omega) 1 rfl rfl⟩
        · have hIJz : (J : Int) < (I : Int) := by omega
          have hpt := HFB.out (by omega)
          have HPT := hid hpt
          have hc := HS.out.cell hd
          have hf := HS.out.soft hd
          clear hlt hpt HFB HFG HLT HI HJ
          rcases Nat.lt_or_ge a J with hJa | hJa
          · skip
            go_wp2_with fail
            go_region
            go_wp2
            go_ret2
            exact ⟨by rw [HPT.out]; rfl, by rw [HPT.out]; exact HS.out.swap hd (by omega) (by omega) 1 rfl rfl⟩
          · obtain rfl : J = a := by omega
            go_wp2_with fail
            go_region
            go_wp2
            go_ret2
            exact ⟨by rw [HPT.out]; rfl, by rw [HPT.out]; exact HS.out.swap hd (by omega) (by omega) 1 rfl rfl⟩

end Go.Proofs.YtenhgoclfljjlaaDoor.Q
