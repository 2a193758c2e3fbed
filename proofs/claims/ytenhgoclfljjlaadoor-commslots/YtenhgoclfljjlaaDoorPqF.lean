/-
  What partitionEqualOrdered makes of a row.
-/

import Derived.Test.YtenhgoclfljjlaaDoorPQ
import Derived.BigRegion

import Derived.Deep.Cut

import Derived.Deep.CutRange

import Derived.Deep.CutBlock

import Derived.Sort.WalkC4

namespace Go.Proofs.YtenhgoclfljjlaaDoor.Q

open Go.RowKit

set_option linter.unusedVariables false

set_option linter.unusedSimpArgs false

set_option maxRecDepth 1000000

theorem scan_up_bd (p : Int → Bool) (d : Array Int) (j i : Nat) (h : i ≤ j + 1) : i ≤ Sort.scanUp p d j i ∧ Sort.scanUp p d j i ≤ j + 1 := by
  have := Sort.scanUp_spec p d j _ i rfl
  omega

theorem scan_down_bd (p : Int → Bool) (d : Array Int) (i j : Nat) : Sort.scanDown p d i j ≤ j ∧ (i ≤ j + 1 → i ≤ Sort.scanDown p d i j + 1) := by
  have := Sort.scanDown_spec p d i j
  omega

/-- What a partition's first half answers: the row, the place where it ends. -/
def EqE (w : World) (g off : Nat) (p : Nat × Array Int) (e : Ending) (w' : World) : Prop := e = .returned (.int .i64 (p.1 : Nat)) ∧ Sr w g off p.2 w'

set_option maxHeartbeats 6400000 in
theorem equal_any (g off n cap a b pv : Nat) (d : Array Int) (w : World) (hS : Sr w g off d w) (hn : d.size = n) (hap : a ≤ pv) (hpb : pv < b) (hb : b ≤ n) (hz : n < 4611686018427387904) :
    Calls Tryd.prog 57 #[.slice (some ⟨g, off, none⟩) n cap, .int .i64 a, .int .i64 b, .int .i64 pv] w (EqE w g off (Sort.partitionEqual Sort.ltInt d a b pv)) := by
  have hs0 : Sr w g off d w := hS
  have HS0 := hid hs0
  clear hs0
  go_enter Tryd.func57, Tryd.ntmps57
  go_upto_region 1 with fail
  go_cut [9] from 11 to 24 (fun v wx => Sr w g off (Sort.swp d a pv) wx)
  case first =>
    have hc := hS.cell hn
    have hf := hS.soft hn
    clear hS
    rcases Nat.lt_or_ge a pv with hap2 | hap2
    · go_region
      go_wp2
      go_meet
      exact HS0.out.swap hn (by omega) (by omega) 1 rfl rfl
    · obtain rfl : a = pv := by omega
      go_region
      go_wp2
      go_meet
      exact HS0.out.swap hn (by omega) (by omega) 1 rfl rfl
  case rest =>
    have HS1 := hid hcut
    clear hcut HS0 hS
    go_wp2
    go_loopg [9, 10] (b - a) (fun k s9 s10 wr => ∃ (i j : Nat) (dk : Array Int), s9 = .int .i64 i ∧ s10 = .int .i64 j ∧ a < i ∧ i ≤ j + 1 ∧ j < b ∧ j + 1 - i ≤ k ∧ dk.size = n ∧ Sr w g off dk wr ∧ Sort.partEqLoop Sort.ltInt a i j dk = Sort.partitionEqual Sort.ltInt d a b pv)
    case atStart => exact ⟨a + 1, b - 1, _, by simp, by congr 1; omega, by omega, by omega, by omega, by omega, by rw [swp_size]; exact hn, HS1.out, rfl⟩
    case round =>
      obtain ⟨i, j, dk, rfl, rfl, h1, h2, h3, hk, hd, hs, heq⟩ := hrel
      obtain ⟨I, hI⟩ : ∃ I, I = Sort.scanUp (fun x => !Sort.ltInt dk[a]! x) dk j i := ⟨_, rfl⟩
      obtain ⟨J, hJ⟩ : ∃ J, J = Sort.scanDown (fun x => Sort.ltInt dk[a]! x) dk I j := ⟨_, rfl⟩
      have bI := scan_up_bd (fun x => !Sort.ltInt dk[a]! x) dk j i h2
      have bJ := scan_down_bd (fun x => Sort.ltInt dk[a]! x) dk I j
      rw [← hI] at bI
      rw [← hJ] at bJ
      have hbr : J < I → Sort.partEqLoop Sort.ltInt a i j dk = (I, dk) := fun h => partEq_break Sort.ltInt a i j dk hI hJ h
      have hgo : ¬ I > J → Sort.partEqLoop Sort.ltInt a i j dk = Sort.partEqLoop Sort.ltInt a (I + 1) (J - 1) (Sort.swp dk I J) := fun h => partEq_go Sort.ltInt a i j dk hI hJ h
      have hlt : I ≤ J → I < J := fun h => scans_lt Sort.ltInt a i j dk (by omega) hI hJ h
      rw [heq] at hbr hgo
      have hk0 : j + 1 - i ≤ gk := hk
      have HK := hid hk0
      have HBR := hid hbr
      have HGO := hid hgo
      have HLT := hid hlt
      have HS := hid hs
      have HI := hid hI
      have HJ := hid hJ
      clear hbr hgo hlt hs heq HS1 hk hk0 hI hJ
      go_upto_block 2 with fail
      go_cut [9] from 29 to 82 (fun v wx => v = .int .i64 (I : Nat) ∧ Sr w g off dk wx)
      case first =>
        go_wp2_with fail
        go_loopg [9] (j + 1 - i) (fun k v wx => ∃ i2 : Nat, v = .int .i64 i2 ∧ i ≤ i2 ∧ j + 1 - i2 ≤ k ∧ Sr w g off dk wx ∧ Sort.scanUp (fun x => !Sort.ltInt dk[a]! x) dk j i2 = I)
        case atStart => exact ⟨i, rfl, Nat.le_refl _, Nat.le_refl _, HS.out, HI.out.symm⟩
        case round =>
          clear HS
          obtain ⟨i2, rfl, hq, hk2, hs, hsc⟩ := hrel
          have hc := hs.cell hd
          have hf := hs.soft hd
          have HS2 := hid hs
          have HSC := hid hsc
          clear hs hsc
          by_cases hij : i2 ≤ j
          · have hijz : (i2 : Int) ≤ (j : Int) := by omega
            go_wp2_with fail
            go_quiet (first | (go_at_call 56; refine Calls.quiet_of_same (less_any _ _ _)))
            go_wp2
            · have hl : ls (el dk (a)) (el dk (i2)) = false := by
                have : (!ls (el dk (a)) (el dk (i2))) = true := by assumption
                simpa using this
              go_roundg (j + 1 - (i2 + 1))
              case measure => omega
              case rel => exact ⟨i2 + 1, by simp, by omega, Nat.le_refl _, HS2.out.drewN nq, (scanUp_go _ dk j i2 hij (by show (!ls (el dk (a)) (el dk (i2))) = true; rw [hl]; rfl)).symm.trans HSC.out⟩
            · have hl : ls (el dk (a)) (el dk (i2)) = true := by
                have : (!ls (el dk (a)) (el dk (i2))) = false := by assumption
                simpa using this
              go_meet
              exact ⟨by rw [show i2 = I from (scanUp_end _ dk j i2 (.inr (by show (!ls (el dk (a)) (el dk (i2))) = false; rw [hl]; rfl))).symm.trans HSC.out], HS2.out.drewN nq⟩
          · have hijz : decide ((i2 : Int) ≤ (j : Int)) = false := decide_eq_false (by omega)
            go_wp2_with fail
            go_quiet (first | (go_at_call 56; refine Calls.quiet_of_same (less_any _ _ _)))
            go_wp2
            go_meet
            exact ⟨by rw [show i2 = I from (scanUp_end _ dk j i2 (.inl hij)).symm.trans HSC.out], HS2.out.drewN nq⟩
      case rest =>
        clear HS
        obtain ⟨rfl, hs⟩ := hcut
        have HS := hid hs
        clear hs
        go_upto_block 4 with fail
        go_cut [10] from 29 to 82 (fun v wx => v = .int .i64 (J : Nat) ∧ Sr w g off dk wx)
        case first =>
          go_wp2_with fail
          go_loopg [10] (j) (fun k v wx => ∃ j2 : Nat, v = .int .i64 j2 ∧ j2 ≤ j ∧ j2 ≤ k ∧ Sr w g off dk wx ∧ Sort.scanDown (fun x => Sort.ltInt dk[a]! x) dk I j2 = J)
          case atStart => exact ⟨j, rfl, Nat.le_refl _, Nat.le_refl _, HS.out, HJ.out.symm⟩
          case round =>
            clear HS
            obtain ⟨j2, rfl, hq, hk2, hs, hsc⟩ := hrel
            have hc := hs.cell hd
            have hf := hs.soft hd
            have HS2 := hid hs
            have HSC := hid hsc
            clear hs hsc
            by_cases hij : I ≤ j2
            · have hijz : (I : Int) ≤ (j2 : Int) := by omega
              go_wp2_with fail
              go_quiet (first | (go_at_call 56; refine Calls.quiet_of_same (less_any _ _ _)))
              go_wp2
              · have hl : ls (el dk (a)) (el dk (j2)) = true := by assumption
                go_roundg (j2 - 1)
                case measure => omega
                case rel => exact ⟨j2 - 1, by congr 1; omega, by omega, Nat.le_refl _, HS2.out.drewN nq, (scanDown_go _ dk I j2 hij (by omega) (hl)).symm.trans HSC.out⟩
              · have hl : ls (el dk (a)) (el dk (j2)) = false := by assumption
                go_meet
                exact ⟨by rw [show j2 = J from (scanDown_end _ dk I j2 (.inr (hl))).symm.trans HSC.out], HS2.out.drewN nq⟩
            · have hijz : decide ((I : Int) ≤ (j2 : Int)) = false := decide_eq_false (by omega)
              go_wp2_with fail
              go_quiet (first | (go_at_call 56; refine Calls.quiet_of_same (less_any _ _ _)))
              go_wp2
              go_meet
              exact ⟨by rw [show j2 = J from (scanDown_end _ dk I j2 (.inl hij)).symm.trans HSC.out], HS2.out.drewN nq⟩
        case rest =>
          clear HS
          obtain ⟨rfl, hs⟩ := hcut
          have HS := hid hs
          clear hs
          have hlt := HLT.out
          obtain ⟨b1, b2⟩ := bI
          obtain ⟨b3, b4⟩ := bJ
          by_cases hIJ : I ≤ J
          · have hIJ2 := hlt hIJ
            have hc := HS.out.cell hd
            have hf := HS.out.soft hd
            have hIJz : ¬ (J : Int) < (I : Int) := by omega
            clear hlt
            go_wp2_with fail
            go_region
            go_wp2
            go_roundg (J - 1 + 1 - (I + 1))
            case measure => have := HK.out; omega
            case rel => exact ⟨I + 1, J - 1, Sort.swp dk I J, by simp, by congr 1; omega, by omega, by omega, by omega, Nat.le_refl _, by rw [swp_size]; exact hd, HS.out.swap hd (by omega) (by omega) 1 rfl rfl, (HGO.out (by omega)).symm⟩
          · have hIJz : (J : Int) < (I : Int) := by omega
            clear hlt
            go_wp2
            go_ret
            exact ⟨by rw [HBR.out (by omega)]; rfl, by rw [HBR.out (by omega)]; exact HS.out⟩

end Go.Proofs.YtenhgoclfljjlaaDoor.Q
