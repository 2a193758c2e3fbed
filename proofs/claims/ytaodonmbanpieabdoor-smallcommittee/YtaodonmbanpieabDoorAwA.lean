/-
  The fixed answers that every statement of layer 7 asks first are right.
-/
import Derived.Test.YtaodonmbanpieabDoorCoA
import Derived.Test.YtaodonmbanpieabDoorCoB
import Derived.Test.YtaodonmbanpieabDoorCoC
import Derived.Test.YtaodonmbanpieabDoorMaC
import Derived.Test.YtaodonmbanpieabDoorTeExit
import Derived.Test.YtaodonmbanpieabDoorTeValidator
import Derived.Test.YtaodonmbanpieabDoorTfFork
import Derived.Test.YtaodonmbanpieabDoorThExit
namespace Go.Proofs.YtaodonmbanpieabDoor
open Go.RowKit
set_option linter.unusedVariables false
set_option linter.unusedSimpArgs false

def yM (i : Nat) : Int := [245, 165, 253, 66, 209, 106, 32, 48, 39, 152, 239, 110, 211, 9, 151, 155, 67, 0, 61, 35, 32, 217, 240, 232, 234, 152, 49, 169, 39, 89, 251, 75, 245, 165, 253, 66, 209, 106, 32, 48, 39, 152, 239, 110, 211, 9, 151, 155, 67, 0, 61, 35, 32, 217, 240, 232, 234, 152, 49, 169, 39, 89, 251, 75].getD i 0

def yF0 (j : Nat) : Int := padM yM 64 (64 * 0 + j)

def yF1 (j : Nat) : Int := padM yM 64 (64 * 1 + j)

theorem yaw0 : schW yF0 0 = 4121296194 := (schW_lo yF0 0 (by decide)).trans (by kernel_rfl)

theorem yaw1 : schW yF0 1 = 3513393200 := (schW_lo yF0 1 (by decide)).trans (by kernel_rfl)

theorem yaw2 : schW yF0 2 = 664334190 := (schW_lo yF0 2 (by decide)).trans (by kernel_rfl)

theorem yaw3 : schW yF0 3 = 3540621211 := (schW_lo yF0 3 (by decide)).trans (by kernel_rfl)

theorem yaw4 : schW yF0 4 = 1124089123 := (schW_lo yF0 4 (by decide)).trans (by kernel_rfl)

theorem yaw5 : schW yF0 5 = 551153896 := (schW_lo yF0 5 (by decide)).trans (by kernel_rfl)

theorem yaw6 : schW yF0 6 = 3935842729 := (schW_lo yF0 6 (by decide)).trans (by kernel_rfl)

theorem yaw7 : schW yF0 7 = 660208459 := (schW_lo yF0 7 (by decide)).trans (by kernel_rfl)

theorem yaw8 : schW yF0 8 = 4121296194 := (schW_lo yF0 8 (by decide)).trans (by kernel_rfl)

theorem yaw9 : schW yF0 9 = 3513393200 := (schW_lo yF0 9 (by decide)).trans (by kernel_rfl)

theorem yaw10 : schW yF0 10 = 664334190 := (schW_lo yF0 10 (by decide)).trans (by kernel_rfl)

theorem yaw11 : schW yF0 11 = 3540621211 := (schW_lo yF0 11 (by decide)).trans (by kernel_rfl)

theorem yaw12 : schW yF0 12 = 1124089123 := (schW_lo yF0 12 (by decide)).trans (by kernel_rfl)

theorem yaw13 : schW yF0 13 = 551153896 := (schW_lo yF0 13 (by decide)).trans (by kernel_rfl)

theorem yaw14 : schW yF0 14 = 3935842729 := (schW_lo yF0 14 (by decide)).trans (by kernel_rfl)

theorem yaw15 : schW yF0 15 = 660208459 := (schW_lo yF0 15 (by decide)).trans (by kernel_rfl)

theorem yaw16 : schW yF0 16 = 3647942561 := by
  refine (schW_hi yF0 16 (by decide)).trans ?_
  show nxt (schW yF0 14) (schW yF0 9) (schW yF0 1) (schW yF0 0) = _
  rw [yaw14, yaw9, yaw1, yaw0]
  kernel_rfl

theorem yaw17 : schW yF0 17 = 2670712492 := by
  refine (schW_hi yF0 17 (by decide)).trans ?_
  show nxt (schW yF0 15) (schW yF0 10) (schW yF0 2) (schW yF0 1) = _
  rw [yaw15, yaw10, yaw2, yaw1]
  kernel_rfl

theorem yaw18 : schW yF0 18 = 3033983096 := by
  refine (schW_hi yF0 18 (by decide)).trans ?_
  show nxt (schW yF0 16) (schW yF0 11) (schW yF0 3) (schW yF0 2) = _
  rw [yaw16, yaw11, yaw3, yaw2]
  kernel_rfl

theorem yaw19 : schW yF0 19 = 1767687011 := by
  refine (schW_hi yF0 19 (by decide)).trans ?_
  show nxt (schW yF0 17) (schW yF0 12) (schW yF0 4) (schW yF0 3) = _
  rw [yaw17, yaw12, yaw4, yaw3]
  kernel_rfl

theorem yaw20 : schW yF0 20 = 3042520352 := by
  refine (schW_hi yF0 20 (by decide)).trans ?_
  show nxt (schW yF0 18) (schW yF0 13) (schW yF0 5) (schW yF0 4) = _
  rw [yaw18, yaw13, yaw5, yaw4]
  kernel_rfl

theorem yaw21 : schW yF0 21 = 1210449462 := by
  refine (schW_hi yF0 21 (by decide)).trans ?_
  show nxt (schW yF0 19) (schW yF0 14) (schW yF0 6) (schW yF0 5) = _
  rw [yaw19, yaw14, yaw6, yaw5]
  kernel_rfl

theorem yaw22 : schW yF0 22 = 2978122889 := by
  refine (schW_hi yF0 22 (by decide)).trans ?_
  show nxt (schW yF0 20) (schW yF0 15) (schW yF0 7) (schW yF0 6) = _
  rw [yaw20, yaw15, yaw7, yaw6]
  kernel_rfl

theorem yaw23 : schW yF0 23 = 631789712 := by
  refine (schW_hi yF0 23 (by decide)).trans ?_
  show nxt (schW yF0 21) (schW yF0 16) (schW yF0 8) (schW yF0 7) = _
  rw [yaw21, yaw16, yaw8, yaw7]
  kernel_rfl

theorem yaw24 : schW yF0 24 = 2689795676 := by
  refine (schW_hi yF0 24 (by decide)).trans ?_
  show nxt (schW yF0 22) (schW yF0 17) (schW yF0 9) (schW yF0 8) = _
  rw [yaw22, yaw17, yaw9, yaw8]
  kernel_rfl

theorem yaw25 : schW yF0 25 = 2432445172 := by
  refine (schW_hi yF0 25 (by decide)).trans ?_
  show nxt (schW yF0 23) (schW yF0 18) (schW yF0 10) (schW yF0 9) = _
  rw [yaw23, yaw18, yaw10, yaw9]
  kernel_rfl

theorem yaw26 : schW yF0 26 = 3169147089 := by
  refine (schW_hi yF0 26 (by decide)).trans ?_
  show nxt (schW yF0 24) (schW yF0 19) (schW yF0 11) (schW yF0 10) = _
  rw [yaw24, yaw19, yaw11, yaw10]
  kernel_rfl

theorem yaw27 : schW yF0 27 = 1511162180 := by
  refine (schW_hi yF0 27 (by decide)).trans ?_
  show nxt (schW yF0 25) (schW yF0 20) (schW yF0 12) (schW yF0 11) = _
  rw [yaw25, yaw20, yaw12, yaw11]
  kernel_rfl

theorem yaw28 : schW yF0 28 = 988058075 := by
  refine (schW_hi yF0 28 (by decide)).trans ?_
  show nxt (schW yF0 26) (schW yF0 21) (schW yF0 13) (schW yF0 12) = _
  rw [yaw26, yaw21, yaw13, yaw12]
  kernel_rfl

theorem yaw29 : schW yF0 29 = 635759948 := by
  refine (schW_hi yF0 29 (by decide)).trans ?_
  show nxt (schW yF0 27) (schW yF0 22) (schW yF0 14) (schW yF0 13) = _
  rw [yaw27, yaw22, yaw14, yaw13]
  kernel_rfl

theorem yaw30 : schW yF0 30 = 3616543372 := by
  refine (schW_hi yF0 30 (by decide)).trans ?_
  show nxt (schW yF0 28) (schW yF0 23) (schW yF0 15) (schW yF0 14) = _
  rw [yaw28, yaw23, yaw15, yaw14]
  kernel_rfl

theorem yaw31 : schW yF0 31 = 1177239308 := by
  refine (schW_hi yF0 31 (by decide)).trans ?_
  show nxt (schW yF0 29) (schW yF0 24) (schW yF0 16) (schW yF0 15) = _
  rw [yaw29, yaw24, yaw16, yaw15]
  kernel_rfl

theorem yaw32 : schW yF0 32 = 889057926 := by
  refine (schW_hi yF0 32 (by decide)).trans ?_
  show nxt (schW yF0 30) (schW yF0 25) (schW yF0 17) (schW yF0 16) = _
  rw [yaw30, yaw25, yaw17, yaw16]
  kernel_rfl

theorem yaw33 : schW yF0 33 = 2994253446 := by
  refine (schW_hi yF0 33 (by decide)).trans ?_
  show nxt (schW yF0 31) (schW yF0 26) (schW yF0 18) (schW yF0 17) = _
  rw [yaw31, yaw26, yaw18, yaw17]
  kernel_rfl

theorem yaw34 : schW yF0 34 = 1361725718 := by
  refine (schW_hi yF0 34 (by decide)).trans ?_
  show nxt (schW yF0 32) (schW yF0 27) (schW yF0 19) (schW yF0 18) = _
  rw [yaw32, yaw27, yaw19, yaw18]
  kernel_rfl

theorem yaw35 : schW yF0 35 = 59384126 := by
  refine (schW_hi yF0 35 (by decide)).trans ?_
  show nxt (schW yF0 33) (schW yF0 28) (schW yF0 20) (schW yF0 19) = _
  rw [yaw33, yaw28, yaw20, yaw19]
  kernel_rfl

theorem yaw36 : schW yF0 36 = 1662331073 := by
  refine (schW_hi yF0 36 (by decide)).trans ?_
  show nxt (schW yF0 34) (schW yF0 29) (schW yF0 21) (schW yF0 20) = _
  rw [yaw34, yaw29, yaw21, yaw20]
  kernel_rfl

theorem yaw37 : schW yF0 37 = 450850022 := by
  refine (schW_hi yF0 37 (by decide)).trans ?_
  show nxt (schW yF0 35) (schW yF0 30) (schW yF0 22) (schW yF0 21) = _
  rw [yaw35, yaw30, yaw22, yaw21]
  kernel_rfl

theorem yaw38 : schW yF0 38 = 1541961472 := by
  refine (schW_hi yF0 38 (by decide)).trans ?_
  show nxt (schW yF0 36) (schW yF0 31) (schW yF0 23) (schW yF0 22) = _
  rw [yaw36, yaw31, yaw23, yaw22]
  kernel_rfl

theorem yaw39 : schW yF0 39 = 594392024 := by
  refine (schW_hi yF0 39 (by decide)).trans ?_
  show nxt (schW yF0 37) (schW yF0 32) (schW yF0 24) (schW yF0 23) = _
  rw [yaw37, yaw32, yaw24, yaw23]
  kernel_rfl

theorem yaw40 : schW yF0 40 = 2043013802 := by
  refine (schW_hi yF0 40 (by decide)).trans ?_
  show nxt (schW yF0 38) (schW yF0 33) (schW yF0 25) (schW yF0 24) = _
  rw [yaw38, yaw33, yaw25, yaw24]
  kernel_rfl

theorem yaw41 : schW yF0 41 = 882331987 := by
  refine (schW_hi yF0 41 (by decide)).trans ?_
  show nxt (schW yF0 39) (schW yF0 34) (schW yF0 26) (schW yF0 25) = _
  rw [yaw39, yaw34, yaw26, yaw25]
  kernel_rfl

theorem yaw42 : schW yF0 42 = 741662813 := by
  refine (schW_hi yF0 42 (by decide)).trans ?_
  show nxt (schW yF0 40) (schW yF0 35) (schW yF0 27) (schW yF0 26) = _
  rw [yaw40, yaw35, yaw27, yaw26]
  kernel_rfl

theorem yaw43 : schW yF0 43 = 2501253299 := by
  refine (schW_hi yF0 43 (by decide)).trans ?_
  show nxt (schW yF0 41) (schW yF0 36) (schW yF0 28) (schW yF0 27) = _
  rw [yaw41, yaw36, yaw28, yaw27]
  kernel_rfl

theorem yaw44 : schW yF0 44 = 3918961263 := by
  refine (schW_hi yF0 44 (by decide)).trans ?_
  show nxt (schW yF0 42) (schW yF0 37) (schW yF0 29) (schW yF0 28) = _
  rw [yaw42, yaw37, yaw29, yaw28]
  kernel_rfl

theorem yaw45 : schW yF0 45 = 1496742283 := by
  refine (schW_hi yF0 45 (by decide)).trans ?_
  show nxt (schW yF0 43) (schW yF0 38) (schW yF0 30) (schW yF0 29) = _
  rw [yaw43, yaw38, yaw30, yaw29]
  kernel_rfl

theorem yaw46 : schW yF0 46 = 2026394328 := by
  refine (schW_hi yF0 46 (by decide)).trans ?_
  show nxt (schW yF0 44) (schW yF0 39) (schW yF0 31) (schW yF0 30) = _
  rw [yaw44, yaw39, yaw31, yaw30]
  kernel_rfl

theorem yaw47 : schW yF0 47 = 707492963 := by
  refine (schW_hi yF0 47 (by decide)).trans ?_
  show nxt (schW yF0 45) (schW yF0 40) (schW yF0 32) (schW yF0 31) = _
  rw [yaw45, yaw40, yaw32, yaw31]
  kernel_rfl

theorem yaw48 : schW yF0 48 = 3175648597 := by
  refine (schW_hi yF0 48 (by decide)).trans ?_
  show nxt (schW yF0 46) (schW yF0 41) (schW yF0 33) (schW yF0 32) = _
  rw [yaw46, yaw41, yaw33, yaw32]
  kernel_rfl

theorem yaw49 : schW yF0 49 = 1697092460 := by
  refine (schW_hi yF0 49 (by decide)).trans ?_
  show nxt (schW yF0 47) (schW yF0 42) (schW yF0 34) (schW yF0 33) = _
  rw [yaw47, yaw42, yaw34, yaw33]
  kernel_rfl

theorem yaw50 : schW yF0 50 = 833187198 := by
  refine (schW_hi yF0 50 (by decide)).trans ?_
  show nxt (schW yF0 48) (schW yF0 43) (schW yF0 35) (schW yF0 34) = _
  rw [yaw48, yaw43, yaw35, yaw34]
  kernel_rfl

theorem yaw51 : schW yF0 51 = 3984100108 := by
  refine (schW_hi yF0 51 (by decide)).trans ?_
  show nxt (schW yF0 49) (schW yF0 44) (schW yF0 36) (schW yF0 35) = _
  rw [yaw49, yaw44, yaw36, yaw35]
  kernel_rfl

theorem yaw52 : schW yF0 52 = 1807756536 := by
  refine (schW_hi yF0 52 (by decide)).trans ?_
  show nxt (schW yF0 50) (schW yF0 45) (schW yF0 37) (schW yF0 36) = _
  rw [yaw50, yaw45, yaw37, yaw36]
  kernel_rfl

theorem yaw53 : schW yF0 53 = 4270800355 := by
  refine (schW_hi yF0 53 (by decide)).trans ?_
  show nxt (schW yF0 51) (schW yF0 46) (schW yF0 38) (schW yF0 37) = _
  rw [yaw51, yaw46, yaw38, yaw37]
  kernel_rfl

theorem yaw54 : schW yF0 54 = 1928012221 := by
  refine (schW_hi yF0 54 (by decide)).trans ?_
  show nxt (schW yF0 52) (schW yF0 47) (schW yF0 39) (schW yF0 38) = _
  rw [yaw52, yaw47, yaw39, yaw38]
  kernel_rfl

theorem yaw55 : schW yF0 55 = 2072644983 := by
  refine (schW_hi yF0 55 (by decide)).trans ?_
  show nxt (schW yF0 53) (schW yF0 48) (schW yF0 40) (schW yF0 39) = _
  rw [yaw53, yaw48, yaw40, yaw39]
  kernel_rfl

theorem yaw56 : schW yF0 56 = 1217541539 := by
  refine (schW_hi yF0 56 (by decide)).trans ?_
  show nxt (schW yF0 54) (schW yF0 49) (schW yF0 41) (schW yF0 40) = _
  rw [yaw54, yaw49, yaw41, yaw40]
  kernel_rfl

theorem yaw57 : schW yF0 57 = 890645966 := by
  refine (schW_hi yF0 57 (by decide)).trans ?_
  show nxt (schW yF0 55) (schW yF0 50) (schW yF0 42) (schW yF0 41) = _
  rw [yaw55, yaw50, yaw42, yaw41]
  kernel_rfl

theorem yaw58 : schW yF0 58 = 1774804897 := by
  refine (schW_hi yF0 58 (by decide)).trans ?_
  show nxt (schW yF0 56) (schW yF0 51) (schW yF0 43) (schW yF0 42) = _
  rw [yaw56, yaw51, yaw43, yaw42]
  kernel_rfl

theorem yaw59 : schW yF0 59 = 950264681 := by
  refine (schW_hi yF0 59 (by decide)).trans ?_
  show nxt (schW yF0 57) (schW yF0 52) (schW yF0 44) (schW yF0 43) = _
  rw [yaw57, yaw52, yaw44, yaw43]
  kernel_rfl

theorem yaw60 : schW yF0 60 = 4032510315 := by
  refine (schW_hi yF0 60 (by decide)).trans ?_
  show nxt (schW yF0 58) (schW yF0 53) (schW yF0 45) (schW yF0 44) = _
  rw [yaw58, yaw53, yaw45, yaw44]
  kernel_rfl

theorem yaw61 : schW yF0 61 = 89633745 := by
  refine (schW_hi yF0 61 (by decide)).trans ?_
  show nxt (schW yF0 59) (schW yF0 54) (schW yF0 46) (schW yF0 45) = _
  rw [yaw59, yaw54, yaw46, yaw45]
  kernel_rfl

theorem yaw62 : schW yF0 62 = 201385269 := by
  refine (schW_hi yF0 62 (by decide)).trans ?_
  show nxt (schW yF0 60) (schW yF0 55) (schW yF0 47) (schW yF0 46) = _
  rw [yaw60, yaw55, yaw47, yaw46]
  kernel_rfl

theorem yaw63 : schW yF0 63 = 1104714197 := by
  refine (schW_hi yF0 63 (by decide)).trans ?_
  show nxt (schW yF0 61) (schW yF0 56) (schW yF0 48) (schW yF0 47) = _
  rw [yaw61, yaw56, yaw48, yaw47]
  kernel_rfl

theorem yas0 : S8 KW (schW yF0) HW 0 1779033703 3144134277 1013904242 2773480762 1359893119 2600822924 528734635 1541459225 := ⟨by kernel_rfl, by kernel_rfl, by kernel_rfl, by kernel_rfl, by kernel_rfl, by kernel_rfl, by kernel_rfl, by kernel_rfl⟩

theorem yas1 : S8 KW (schW yF0) HW 1 4054746511 1779033703 3144134277 1013904242 2389565412 1359893119 2600822924 528734635 := yas0.step (k := 1116352408) (by kernel_rfl) yaw0 _ _ (by kernel_rfl) (by kernel_rfl)

theorem yas2 : S8 KW (schW yF0) HW 2 816509875 4054746511 1779033703 3144134277 132656333 2389565412 1359893119 2600822924 := yas1.step (k := 1899447441) (by kernel_rfl) yaw1 _ _ (by kernel_rfl) (by kernel_rfl)

theorem yas3 : S8 KW (schW yF0) HW 3 2476722964 816509875 4054746511 1779033703 3823017081 132656333 2389565412 1359893119 := yas2.step (k := 3049323471) (by kernel_rfl) yaw2 _ _ (by kernel_rfl) (by kernel_rfl)

theorem yas4 : S8 KW (schW yF0) HW 4 1523733227 2476722964 816509875 4054746511 264124742 3823017081 132656333 2389565412 := yas3.step (k := 3921009573) (by kernel_rfl) yaw3 _ _ (by kernel_rfl) (by kernel_rfl)

theorem yas5 : S8 KW (schW yF0) HW 5 432499526 1523733227 2476722964 816509875 4030016991 264124742 3823017081 132656333 := yas4.step (k := 961987163) (by kernel_rfl) yaw4 _ _ (by kernel_rfl) (by kernel_rfl)

theorem yas6 : S8 KW (schW yF0) HW 6 1126006473 432499526 1523733227 2476722964 2516916905 4030016991 264124742 3823017081 := yas5.step (k := 1508970993) (by kernel_rfl) yaw5 _ _ (by kernel_rfl) (by kernel_rfl)

theorem yas7 : S8 KW (schW yF0) HW 7 464181175 1126006473 432499526 1523733227 2147272107 2516916905 4030016991 264124742 := yas6.step (k := 2453635748) (by kernel_rfl) yaw6 _ _ (by kernel_rfl) (by kernel_rfl)

theorem yas8 : S8 KW (schW yF0) HW 8 1254672944 464181175 1126006473 432499526 3120490623 2147272107 2516916905 4030016991 := yas7.step (k := 2870763221) (by kernel_rfl) yaw7 _ _ (by kernel_rfl) (by kernel_rfl)

theorem yas9 : S8 KW (schW yF0) HW 9 3085379734 1254672944 464181175 1126006473 638390090 3120490623 2147272107 2516916905 := yas8.step (k := 3624381080) (by kernel_rfl) yaw8 _ _ (by kernel_rfl) (by kernel_rfl)

theorem yas10 : S8 KW (schW yF0) HW 10 1294182861 3085379734 1254672944 464181175 4268240413 638390090 3120490623 2147272107 := yas9.step (k := 310598401) (by kernel_rfl) yaw9 _ _ (by kernel_rfl) (by kernel_rfl)

theorem yas11 : S8 KW (schW yF0) HW 11 1461767025 1294182861 3085379734 1254672944 2405581882 4268240413 638390090 3120490623 := yas10.step (k := 607225278) (by kernel_rfl) yaw10 _ _ (by kernel_rfl) (by kernel_rfl)

theorem yas12 : S8 KW (schW yF0) HW 12 1365474735 1461767025 1294182861 3085379734 3080277892 2405581882 4268240413 638390090 := yas11.step (k := 1426881987) (by kernel_rfl) yaw11 _ _ (by kernel_rfl) (by kernel_rfl)

theorem yas13 : S8 KW (schW yF0) HW 13 3826529640 1365474735 1461767025 1294182861 2449640156 3080277892 2405581882 4268240413 := yas12.step (k := 1925078388) (by kernel_rfl) yaw12 _ _ (by kernel_rfl) (by kernel_rfl)

theorem yas14 : S8 KW (schW yF0) HW 14 2144882608 3826529640 1365474735 1461767025 3041127849 2449640156 3080277892 2405581882 := yas13.step (k := 2162078206) (by kernel_rfl) yaw13 _ _ (by kernel_rfl) (by kernel_rfl)

theorem yas15 : S8 KW (schW yF0) HW 15 3542230176 2144882608 3826529640 1365474735 2980529560 3041127849 2449640156 3080277892 := yas14.step (k := 2614888103) (by kernel_rfl) yaw14 _ _ (by kernel_rfl) (by kernel_rfl)

theorem yas16 : S8 KW (schW yF0) HW 16 3866241738 3542230176 2144882608 3826529640 2808672100 2980529560 3041127849 2449640156 := yas15.step (k := 3248222580) (by kernel_rfl) yaw15 _ _ (by kernel_rfl) (by kernel_rfl)

theorem yas17 : S8 KW (schW yF0) HW 17 3934398484 3866241738 3542230176 2144882608 2948832290 2808672100 2980529560 3041127849 := yas16.step (k := 3835390401) (by kernel_rfl) yaw16 _ _ (by kernel_rfl) (by kernel_rfl)

theorem yas18 : S8 KW (schW yF0) HW 18 1065711397 3934398484 3866241738 3542230176 1788088471 2948832290 2808672100 2980529560 := yas17.step (k := 4022224774) (by kernel_rfl) yaw17 _ _ (by kernel_rfl) (by kernel_rfl)

theorem yas19 : S8 KW (schW yF0) HW 19 4245582797 1065711397 3934398484 3866241738 4271520077 1788088471 2948832290 2808672100 := yas18.step (k := 264347078) (by kernel_rfl) yaw18 _ _ (by kernel_rfl) (by kernel_rfl)

theorem yas20 : S8 KW (schW yF0) HW 20 3429285008 4245582797 1065711397 3934398484 3664720097 4271520077 1788088471 2948832290 := yas19.step (k := 604807628) (by kernel_rfl) yaw19 _ _ (by kernel_rfl) (by kernel_rfl)

theorem yas21 : S8 KW (schW yF0) HW 21 2229186165 3429285008 4245582797 1065711397 619499492 3664720097 4271520077 1788088471 := yas20.step (k := 770255983) (by kernel_rfl) yaw20 _ _ (by kernel_rfl) (by kernel_rfl)

theorem yas22 : S8 KW (schW yF0) HW 22 646888292 2229186165 3429285008 4245582797 832772153 619499492 3664720097 4271520077 := yas21.step (k := 1249150122) (by kernel_rfl) yaw21 _ _ (by kernel_rfl) (by kernel_rfl)

theorem yas23 : S8 KW (schW yF0) HW 23 2539914711 646888292 2229186165 3429285008 657764602 832772153 619499492 3664720097 := yas22.step (k := 1555081692) (by kernel_rfl) yaw22 _ _ (by kernel_rfl) (by kernel_rfl)

theorem yas24 : S8 KW (schW yF0) HW 24 3904589386 2539914711 646888292 2229186165 3537925981 657764602 832772153 619499492 := yas23.step (k := 1996064986) (by kernel_rfl) yaw23 _ _ (by kernel_rfl) (by kernel_rfl)

theorem yas25 : S8 KW (schW yF0) HW 25 962240628 3904589386 2539914711 646888292 4064969145 3537925981 657764602 832772153 := yas24.step (k := 2554220882) (by kernel_rfl) yaw24 _ _ (by kernel_rfl) (by kernel_rfl)

theorem yas26 : S8 KW (schW yF0) HW 26 1491972391 962240628 3904589386 2539914711 1586214408 4064969145 3537925981 657764602 := yas25.step (k := 2821834349) (by kernel_rfl) yaw25 _ _ (by kernel_rfl) (by kernel_rfl)

theorem yas27 : S8 KW (schW yF0) HW 27 1861469470 1491972391 962240628 3904589386 2744579144 1586214408 4064969145 3537925981 := yas26.step (k := 2952996808) (by kernel_rfl) yaw26 _ _ (by kernel_rfl) (by kernel_rfl)

theorem yas28 : S8 KW (schW yF0) HW 28 2504973335 1861469470 1491972391 962240628 2293402057 2744579144 1586214408 4064969145 := yas27.step (k := 3210313671) (by kernel_rfl) yaw27 _ _ (by kernel_rfl) (by kernel_rfl)

theorem yas29 : S8 KW (schW yF0) HW 29 2895193790 2504973335 1861469470 1491972391 1247588085 2293402057 2744579144 1586214408 := yas28.step (k := 3336571891) (by kernel_rfl) yaw28 _ _ (by kernel_rfl) (by kernel_rfl)

theorem yas30 : S8 KW (schW yF0) HW 30 2963401889 2895193790 2504973335 1861469470 2188378646 1247588085 2293402057 2744579144 := yas29.step (k := 3584528711) (by kernel_rfl) yaw29 _ _ (by kernel_rfl) (by kernel_rfl)

theorem yas31 : S8 KW (schW yF0) HW 31 4038451431 2963401889 2895193790 2504973335 479215721 2188378646 1247588085 2293402057 := yas30.step (k := 113926993) (by kernel_rfl) yaw30 _ _ (by kernel_rfl) (by kernel_rfl)

theorem yas32 : S8 KW (schW yF0) HW 32 3826831186 4038451431 2963401889 2895193790 2619630702 479215721 2188378646 1247588085 := yas31.step (k := 338241895) (by kernel_rfl) yaw31 _ _ (by kernel_rfl) (by kernel_rfl)

theorem yas33 : S8 KW (schW yF0) HW 33 2085705264 3826831186 4038451431 2963401889 2542024585 2619630702 479215721 2188378646 := yas32.step (k := 666307205) (by kernel_rfl) yaw32 _ _ (by kernel_rfl) (by kernel_rfl)

theorem yas34 : S8 KW (schW yF0) HW 34 4101019704 2085705264 3826831186 4038451431 3308341104 2542024585 2619630702 479215721 := yas33.step (k := 773529912) (by kernel_rfl) yaw33 _ _ (by kernel_rfl) (by kernel_rfl)

theorem yas35 : S8 KW (schW yF0) HW 35 1084702315 4101019704 2085705264 3826831186 4266711751 3308341104 2542024585 2619630702 := yas34.step (k := 1294757372) (by kernel_rfl) yaw34 _ _ (by kernel_rfl) (by kernel_rfl)

theorem yas36 : S8 KW (schW yF0) HW 36 1541565039 1084702315 4101019704 2085705264 201307112 4266711751 3308341104 2542024585 := yas35.step (k := 1396182291) (by kernel_rfl) yaw35 _ _ (by kernel_rfl) (by kernel_rfl)

theorem yas37 : S8 KW (schW yF0) HW 37 2918863612 1541565039 1084702315 4101019704 3443357146 201307112 4266711751 3308341104 := yas36.step (k := 1695183700) (by kernel_rfl) yaw36 _ _ (by kernel_rfl) (by kernel_rfl)

theorem yas38 : S8 KW (schW yF0) HW 38 2156052038 2918863612 1541565039 1084702315 3577795125 3443357146 201307112 4266711751 := yas37.step (k := 1986661051) (by kernel_rfl) yaw37 _ _ (by kernel_rfl) (by kernel_rfl)

theorem yas39 : S8 KW (schW yF0) HW 39 3222432377 2156052038 2918863612 1541565039 501841136 3577795125 3443357146 201307112 := yas38.step (k := 2177026350) (by kernel_rfl) yaw38 _ _ (by kernel_rfl) (by kernel_rfl)

theorem yas40 : S8 KW (schW yF0) HW 40 754204122 3222432377 2156052038 2918863612 2648748224 501841136 3577795125 3443357146 := yas39.step (k := 2456956037) (by kernel_rfl) yaw39 _ _ (by kernel_rfl) (by kernel_rfl)

theorem yas41 : S8 KW (schW yF0) HW 41 1737316723 754204122 3222432377 2156052038 3755634097 2648748224 501841136 3577795125 := yas40.step (k := 2730485921) (by kernel_rfl) yaw40 _ _ (by kernel_rfl) (by kernel_rfl)

theorem yas42 : S8 KW (schW yF0) HW 42 2012751306 1737316723 754204122 3222432377 1825096429 3755634097 2648748224 501841136 := yas41.step (k := 2820302411) (by kernel_rfl) yaw41 _ _ (by kernel_rfl) (by kernel_rfl)

theorem yas43 : S8 KW (schW yF0) HW 43 839451465 2012751306 1737316723 754204122 920948860 1825096429 3755634097 2648748224 := yas42.step (k := 3259730800) (by kernel_rfl) yaw42 _ _ (by kernel_rfl) (by kernel_rfl)

theorem yas44 : S8 KW (schW yF0) HW 44 1604546408 839451465 2012751306 1737316723 2722609061 920948860 1825096429 3755634097 := yas43.step (k := 3345764771) (by kernel_rfl) yaw43 _ _ (by kernel_rfl) (by kernel_rfl)

theorem yas45 : S8 KW (schW yF0) HW 45 2759324837 1604546408 839451465 2012751306 3007618833 2722609061 920948860 1825096429 := yas44.step (k := 3516065817) (by kernel_rfl) yaw44 _ _ (by kernel_rfl) (by kernel_rfl)

theorem yas46 : S8 KW (schW yF0) HW 46 2486664111 2759324837 1604546408 839451465 3257528841 3007618833 2722609061 920948860 := yas45.step (k := 3600352804) (by kernel_rfl) yaw45 _ _ (by kernel_rfl) (by kernel_rfl)

theorem yas47 : S8 KW (schW yF0) HW 47 849532738 2486664111 2759324837 1604546408 3939801566 3257528841 3007618833 2722609061 := yas46.step (k := 4094571909) (by kernel_rfl) yaw46 _ _ (by kernel_rfl) (by kernel_rfl)

theorem yas48 : S8 KW (schW yF0) HW 48 1278570933 849532738 2486664111 2759324837 968671594 3939801566 3257528841 3007618833 := yas47.step (k := 275423344) (by kernel_rfl) yaw47 _ _ (by kernel_rfl) (by kernel_rfl)

theorem yas49 : S8 KW (schW yF0) HW 49 4028788453 1278570933 849532738 2486664111 1963001581 968671594 3939801566 3257528841 := yas48.step (k := 430227734) (by kernel_rfl) yaw48 _ _ (by kernel_rfl) (by kernel_rfl)

theorem yas50 : S8 KW (schW yF0) HW 50 3709231815 4028788453 1278570933 849532738 2123290919 1963001581 968671594 3939801566 := yas49.step (k := 506948616) (by kernel_rfl) yaw49 _ _ (by kernel_rfl) (by kernel_rfl)

theorem yas51 : S8 KW (schW yF0) HW 51 1284950640 3709231815 4028788453 1278570933 3927101271 2123290919 1963001581 968671594 := yas50.step (k := 659060556) (by kernel_rfl) yaw50 _ _ (by kernel_rfl) (by kernel_rfl)

theorem yas52 : S8 KW (schW yF0) HW 52 2395010920 1284950640 3709231815 4028788453 3813795616 3927101271 2123290919 1963001581 := yas51.step (k := 883997877) (by kernel_rfl) yaw51 _ _ (by kernel_rfl) (by kernel_rfl)

theorem yas53 : S8 KW (schW yF0) HW 53 1335863734 2395010920 1284950640 3709231815 3623963733 3813795616 3927101271 2123290919 := yas52.step (k := 958139571) (by kernel_rfl) yaw52 _ _ (by kernel_rfl) (by kernel_rfl)

theorem yas54 : S8 KW (schW yF0) HW 54 2064773992 1335863734 2395010920 1284950640 1755192081 3623963733 3813795616 3927101271 := yas53.step (k := 1322822218) (by kernel_rfl) yaw53 _ _ (by kernel_rfl) (by kernel_rfl)

theorem yas55 : S8 KW (schW yF0) HW 55 4265313232 2064773992 1335863734 2395010920 955667743 1755192081 3623963733 3813795616 := yas54.step (k := 1537002063) (by kernel_rfl) yaw54 _ _ (by kernel_rfl) (by kernel_rfl)

theorem yas56 : S8 KW (schW yF0) HW 56 2716974237 4265313232 2064773992 1335863734 3801136453 955667743 1755192081 3623963733 := yas55.step (k := 1747873779) (by kernel_rfl) yaw55 _ _ (by kernel_rfl) (by kernel_rfl)

theorem yas57 : S8 KW (schW yF0) HW 57 4206794771 2716974237 4265313232 2064773992 80312260 3801136453 955667743 1755192081 := yas56.step (k := 1955562222) (by kernel_rfl) yaw56 _ _ (by kernel_rfl) (by kernel_rfl)

theorem yas58 : S8 KW (schW yF0) HW 58 2588153163 4206794771 2716974237 4265313232 1447703560 80312260 3801136453 955667743 := yas57.step (k := 2024104815) (by kernel_rfl) yaw57 _ _ (by kernel_rfl) (by kernel_rfl)

theorem yas59 : S8 KW (schW yF0) HW 59 1765303564 2588153163 4206794771 2716974237 1340494758 1447703560 80312260 3801136453 := yas58.step (k := 2227730452) (by kernel_rfl) yaw58 _ _ (by kernel_rfl) (by kernel_rfl)

theorem yas60 : S8 KW (schW yF0) HW 60 3676046280 1765303564 2588153163 4206794771 2937604662 1340494758 1447703560 80312260 := yas59.step (k := 2361852424) (by kernel_rfl) yaw59 _ _ (by kernel_rfl) (by kernel_rfl)

theorem yas61 : S8 KW (schW yF0) HW 61 689815955 3676046280 1765303564 2588153163 4029765856 2937604662 1340494758 1447703560 := yas60.step (k := 2428436474) (by kernel_rfl) yaw60 _ _ (by kernel_rfl) (by kernel_rfl)

theorem yas62 : S8 KW (schW yF0) HW 62 1378879696 689815955 3676046280 1765303564 3514787941 4029765856 2937604662 1340494758 := yas61.step (k := 2756734187) (by kernel_rfl) yaw61 _ _ (by kernel_rfl) (by kernel_rfl)

theorem yas63 : S8 KW (schW yF0) HW 63 715644084 1378879696 689815955 3676046280 2794876148 3514787941 4029765856 2937604662 := yas62.step (k := 3204031479) (by kernel_rfl) yaw62 _ _ (by kernel_rfl) (by kernel_rfl)

theorem yas64 : S8 KW (schW yF0) HW 64 696451543 715644084 1378879696 689815955 1777257046 2794876148 3514787941 4029765856 := yas63.step (k := 3329325298) (by kernel_rfl) yaw63 _ _ (by kernel_rfl) (by kernel_rfl)

theorem y1 : comp KW yF0 HW 0 = 2475485246 ∧ comp KW yF0 HW 1 = 3859778361 ∧ comp KW yF0 HW 2 = 2392783938 ∧ comp KW yF0 HW 3 = 3463296717 ∧ comp KW yF0 HW 4 = 3137150165 ∧ comp KW yF0 HW 5 = 1100731776 ∧ comp KW yF0 HW 6 = 4043522576 ∧ comp KW yF0 HW 7 = 1276257785 := by
  obtain ⟨h0, h1, h2, h3, h4, h5, h6, h7⟩ := yas64.words
  rw [h0, h1, h2, h3, h4, h5, h6, h7]
  exact ⟨by kernel_rfl, by kernel_rfl, by kernel_rfl, by kernel_rfl, by kernel_rfl, by kernel_rfl, by kernel_rfl, by kernel_rfl⟩

theorem ybw0 : schW yF1 0 = 2147483648 := (schW_lo yF1 0 (by decide)).trans (by kernel_rfl)

theorem ybw1 : schW yF1 1 = 0 := (schW_lo yF1 1 (by decide)).trans (by kernel_rfl)

theorem ybw2 : schW yF1 2 = 0 := (schW_lo yF1 2 (by decide)).trans (by kernel_rfl)

theorem ybw3 : schW yF1 3 = 0 := (schW_lo yF1 3 (by decide)).trans (by kernel_rfl)

theorem ybw4 : schW yF1 4 = 0 := (schW_lo yF1 4 (by decide)).trans (by kernel_rfl)

theorem ybw5 : schW yF1 5 = 0 := (schW_lo yF1 5 (by decide)).trans (by kernel_rfl)

theorem ybw6 : schW yF1 6 = 0 := (schW_lo yF1 6 (by decide)).trans (by kernel_rfl)

theorem ybw7 : schW yF1 7 = 0 := (schW_lo yF1 7 (by decide)).trans (by kernel_rfl)

theorem ybw8 : schW yF1 8 = 0 := (schW_lo yF1 8 (by decide)).trans (by kernel_rfl)

theorem ybw9 : schW yF1 9 = 0 := (schW_lo yF1 9 (by decide)).trans (by kernel_rfl)

theorem ybw10 : schW yF1 10 = 0 := (schW_lo yF1 10 (by decide)).trans (by kernel_rfl)

theorem ybw11 : schW yF1 11 = 0 := (schW_lo yF1 11 (by decide)).trans (by kernel_rfl)

theorem ybw12 : schW yF1 12 = 0 := (schW_lo yF1 12 (by decide)).trans (by kernel_rfl)

theorem ybw13 : schW yF1 13 = 0 := (schW_lo yF1 13 (by decide)).trans (by kernel_rfl)

theorem ybw14 : schW yF1 14 = 0 := (schW_lo yF1 14 (by decide)).trans (by kernel_rfl)

theorem ybw15 : schW yF1 15 = 512 := (schW_lo yF1 15 (by decide)).trans (by kernel_rfl)

theorem ybw16 : schW yF1 16 = 2147483648 := by
  refine (schW_hi yF1 16 (by decide)).trans ?_
  show nxt (schW yF1 14) (schW yF1 9) (schW yF1 1) (schW yF1 0) = _
  rw [ybw14, ybw9, ybw1, ybw0]
  kernel_rfl

theorem ybw17 : schW yF1 17 = 20971520 := by
  refine (schW_hi yF1 17 (by decide)).trans ?_
  show nxt (schW yF1 15) (schW yF1 10) (schW yF1 2) (schW yF1 1) = _
  rw [ybw15, ybw10, ybw2, ybw1]
  kernel_rfl

theorem ybw18 : schW yF1 18 = 2117632 := by
  refine (schW_hi yF1 18 (by decide)).trans ?_
  show nxt (schW yF1 16) (schW yF1 11) (schW yF1 3) (schW yF1 2) = _
  rw [ybw16, ybw11, ybw3, ybw2]
  kernel_rfl

theorem ybw19 : schW yF1 19 = 20616 := by
  refine (schW_hi yF1 19 (by decide)).trans ?_
  show nxt (schW yF1 17) (schW yF1 12) (schW yF1 4) (schW yF1 3) = _
  rw [ybw17, ybw12, ybw4, ybw3]
  kernel_rfl

theorem ybw20 : schW yF1 20 = 570427392 := by
  refine (schW_hi yF1 20 (by decide)).trans ?_
  show nxt (schW yF1 18) (schW yF1 13) (schW yF1 5) (schW yF1 4) = _
  rw [ybw18, ybw13, ybw5, ybw4]
  kernel_rfl

theorem ybw21 : schW yF1 21 = 575995924 := by
  refine (schW_hi yF1 21 (by decide)).trans ?_
  show nxt (schW yF1 19) (schW yF1 14) (schW yF1 6) (schW yF1 5) = _
  rw [ybw19, ybw14, ybw6, ybw5]
  kernel_rfl

theorem ybw22 : schW yF1 22 = 84449090 := by
  refine (schW_hi yF1 22 (by decide)).trans ?_
  show nxt (schW yF1 20) (schW yF1 15) (schW yF1 7) (schW yF1 6) = _
  rw [ybw20, ybw15, ybw7, ybw6]
  kernel_rfl

theorem ybw23 : schW yF1 23 = 2684354592 := by
  refine (schW_hi yF1 23 (by decide)).trans ?_
  show nxt (schW yF1 21) (schW yF1 16) (schW yF1 8) (schW yF1 7) = _
  rw [ybw21, ybw16, ybw8, ybw7]
  kernel_rfl

theorem ybw24 : schW yF1 24 = 1518862336 := by
  refine (schW_hi yF1 24 (by decide)).trans ?_
  show nxt (schW yF1 22) (schW yF1 17) (schW yF1 9) (schW yF1 8) = _
  rw [ybw22, ybw17, ybw9, ybw8]
  kernel_rfl

theorem ybw25 : schW yF1 25 = 6067200 := by
  refine (schW_hi yF1 25 (by decide)).trans ?_
  show nxt (schW yF1 23) (schW yF1 18) (schW yF1 10) (schW yF1 9) = _
  rw [ybw23, ybw18, ybw10, ybw9]
  kernel_rfl

theorem ybw26 : schW yF1 26 = 1496221 := by
  refine (schW_hi yF1 26 (by decide)).trans ?_
  show nxt (schW yF1 24) (schW yF1 19) (schW yF1 11) (schW yF1 10) = _
  rw [ybw24, ybw19, ybw11, ybw10]
  kernel_rfl

theorem ybw27 : schW yF1 27 = 4202700544 := by
  refine (schW_hi yF1 27 (by decide)).trans ?_
  show nxt (schW yF1 25) (schW yF1 20) (schW yF1 12) (schW yF1 11) = _
  rw [ybw25, ybw20, ybw12, ybw11]
  kernel_rfl

theorem ybw28 : schW yF1 28 = 3543279056 := by
  refine (schW_hi yF1 28 (by decide)).trans ?_
  show nxt (schW yF1 26) (schW yF1 21) (schW yF1 13) (schW yF1 12) = _
  rw [ybw26, ybw21, ybw13, ybw12]
  kernel_rfl

theorem ybw29 : schW yF1 29 = 291985753 := by
  refine (schW_hi yF1 29 (by decide)).trans ?_
  show nxt (schW yF1 27) (schW yF1 22) (schW yF1 14) (schW yF1 13) = _
  rw [ybw27, ybw22, ybw14, ybw13]
  kernel_rfl

theorem ybw30 : schW yF1 30 = 4142317530 := by
  refine (schW_hi yF1 30 (by decide)).trans ?_
  show nxt (schW yF1 28) (schW yF1 23) (schW yF1 15) (schW yF1 14) = _
  rw [ybw28, ybw23, ybw15, ybw14]
  kernel_rfl

theorem ybw31 : schW yF1 31 = 3003913545 := by
  refine (schW_hi yF1 31 (by decide)).trans ?_
  show nxt (schW yF1 29) (schW yF1 24) (schW yF1 16) (schW yF1 15) = _
  rw [ybw29, ybw24, ybw16, ybw15]
  kernel_rfl

theorem ybw32 : schW yF1 32 = 145928272 := by
  refine (schW_hi yF1 32 (by decide)).trans ?_
  show nxt (schW yF1 30) (schW yF1 25) (schW yF1 17) (schW yF1 16) = _
  rw [ybw30, ybw25, ybw17, ybw16]
  kernel_rfl

theorem ybw33 : schW yF1 33 = 2642168871 := by
  refine (schW_hi yF1 33 (by decide)).trans ?_
  show nxt (schW yF1 31) (schW yF1 26) (schW yF1 18) (schW yF1 17) = _
  rw [ybw31, ybw26, ybw18, ybw17]
  kernel_rfl

theorem ybw34 : schW yF1 34 = 216179603 := by
  refine (schW_hi yF1 34 (by decide)).trans ?_
  show nxt (schW yF1 32) (schW yF1 27) (schW yF1 19) (schW yF1 18) = _
  rw [ybw32, ybw27, ybw19, ybw18]
  kernel_rfl

theorem ybw35 : schW yF1 35 = 2296832490 := by
  refine (schW_hi yF1 35 (by decide)).trans ?_
  show nxt (schW yF1 33) (schW yF1 28) (schW yF1 20) (schW yF1 19) = _
  rw [ybw33, ybw28, ybw20, ybw19]
  kernel_rfl

theorem ybw36 : schW yF1 36 = 2771075893 := by
  refine (schW_hi yF1 36 (by decide)).trans ?_
  show nxt (schW yF1 34) (schW yF1 29) (schW yF1 21) (schW yF1 20) = _
  rw [ybw34, ybw29, ybw21, ybw20]
  kernel_rfl

theorem ybw37 : schW yF1 37 = 1738633033 := by
  refine (schW_hi yF1 37 (by decide)).trans ?_
  show nxt (schW yF1 35) (schW yF1 30) (schW yF1 22) (schW yF1 21) = _
  rw [ybw35, ybw30, ybw22, ybw21]
  kernel_rfl

theorem ybw38 : schW yF1 38 = 3610378607 := by
  refine (schW_hi yF1 38 (by decide)).trans ?_
  show nxt (schW yF1 36) (schW yF1 31) (schW yF1 23) (schW yF1 22) = _
  rw [ybw36, ybw31, ybw23, ybw22]
  kernel_rfl

theorem ybw39 : schW yF1 39 = 1324035729 := by
  refine (schW_hi yF1 39 (by decide)).trans ?_
  show nxt (schW yF1 37) (schW yF1 32) (schW yF1 24) (schW yF1 23) = _
  rw [ybw37, ybw32, ybw24, ybw23]
  kernel_rfl

theorem ybw40 : schW yF1 40 = 1572820453 := by
  refine (schW_hi yF1 40 (by decide)).trans ?_
  show nxt (schW yF1 38) (schW yF1 33) (schW yF1 25) (schW yF1 24) = _
  rw [ybw38, ybw33, ybw25, ybw24]
  kernel_rfl

theorem ybw41 : schW yF1 41 = 2397971253 := by
  refine (schW_hi yF1 41 (by decide)).trans ?_
  show nxt (schW yF1 39) (schW yF1 34) (schW yF1 26) (schW yF1 25) = _
  rw [ybw39, ybw34, ybw26, ybw25]
  kernel_rfl

theorem ybw42 : schW yF1 42 = 3803995842 := by
  refine (schW_hi yF1 42 (by decide)).trans ?_
  show nxt (schW yF1 40) (schW yF1 35) (schW yF1 27) (schW yF1 26) = _
  rw [ybw40, ybw35, ybw27, ybw26]
  kernel_rfl

theorem ybw43 : schW yF1 43 = 2822718356 := by
  refine (schW_hi yF1 43 (by decide)).trans ?_
  show nxt (schW yF1 41) (schW yF1 36) (schW yF1 28) (schW yF1 27) = _
  rw [ybw41, ybw36, ybw28, ybw27]
  kernel_rfl

theorem ybw44 : schW yF1 44 = 1168996599 := by
  refine (schW_hi yF1 44 (by decide)).trans ?_
  show nxt (schW yF1 42) (schW yF1 37) (schW yF1 29) (schW yF1 28) = _
  rw [ybw42, ybw37, ybw29, ybw28]
  kernel_rfl

theorem ybw45 : schW yF1 45 = 921948365 := by
  refine (schW_hi yF1 45 (by decide)).trans ?_
  show nxt (schW yF1 43) (schW yF1 38) (schW yF1 30) (schW yF1 29) = _
  rw [ybw43, ybw38, ybw30, ybw29]
  kernel_rfl

theorem ybw46 : schW yF1 46 = 3650881000 := by
  refine (schW_hi yF1 46 (by decide)).trans ?_
  show nxt (schW yF1 44) (schW yF1 39) (schW yF1 31) (schW yF1 30) = _
  rw [ybw44, ybw39, ybw31, ybw30]
  kernel_rfl

theorem ybw47 : schW yF1 47 = 2958106055 := by
  refine (schW_hi yF1 47 (by decide)).trans ?_
  show nxt (schW yF1 45) (schW yF1 40) (schW yF1 32) (schW yF1 31) = _
  rw [ybw45, ybw40, ybw32, ybw31]
  kernel_rfl

theorem ybw48 : schW yF1 48 = 1773959876 := by
  refine (schW_hi yF1 48 (by decide)).trans ?_
  show nxt (schW yF1 46) (schW yF1 41) (schW yF1 33) (schW yF1 32) = _
  rw [ybw46, ybw41, ybw33, ybw32]
  kernel_rfl

theorem ybw49 : schW yF1 49 = 3172022107 := by
  refine (schW_hi yF1 49 (by decide)).trans ?_
  show nxt (schW yF1 47) (schW yF1 42) (schW yF1 34) (schW yF1 33) = _
  rw [ybw47, ybw42, ybw34, ybw33]
  kernel_rfl

theorem ybw50 : schW yF1 50 = 3820646885 := by
  refine (schW_hi yF1 50 (by decide)).trans ?_
  show nxt (schW yF1 48) (schW yF1 43) (schW yF1 35) (schW yF1 34) = _
  rw [ybw48, ybw43, ybw35, ybw34]
  kernel_rfl

theorem ybw51 : schW yF1 51 = 991993842 := by
  refine (schW_hi yF1 51 (by decide)).trans ?_
  show nxt (schW yF1 49) (schW yF1 44) (schW yF1 36) (schW yF1 35) = _
  rw [ybw49, ybw44, ybw36, ybw35]
  kernel_rfl

theorem ybw52 : schW yF1 52 = 419360279 := by
  refine (schW_hi yF1 52 (by decide)).trans ?_
  show nxt (schW yF1 50) (schW yF1 45) (schW yF1 37) (schW yF1 36) = _
  rw [ybw50, ybw45, ybw37, ybw36]
  kernel_rfl

theorem ybw53 : schW yF1 53 = 3797604839 := by
  refine (schW_hi yF1 53 (by decide)).trans ?_
  show nxt (schW yF1 51) (schW yF1 46) (schW yF1 38) (schW yF1 37) = _
  rw [ybw51, ybw46, ybw38, ybw37]
  kernel_rfl

theorem ybw54 : schW yF1 54 = 322392134 := by
  refine (schW_hi yF1 54 (by decide)).trans ?_
  show nxt (schW yF1 52) (schW yF1 47) (schW yF1 39) (schW yF1 38) = _
  rw [ybw52, ybw47, ybw39, ybw38]
  kernel_rfl

theorem ybw55 : schW yF1 55 = 85264541 := by
  refine (schW_hi yF1 55 (by decide)).trans ?_
  show nxt (schW yF1 53) (schW yF1 48) (schW yF1 40) (schW yF1 39) = _
  rw [ybw53, ybw48, ybw40, ybw39]
  kernel_rfl

theorem ybw56 : schW yF1 56 = 1326255876 := by
  refine (schW_hi yF1 56 (by decide)).trans ?_
  show nxt (schW yF1 54) (schW yF1 49) (schW yF1 41) (schW yF1 40) = _
  rw [ybw54, ybw49, ybw41, ybw40]
  kernel_rfl

theorem ybw57 : schW yF1 57 = 640108622 := by
  refine (schW_hi yF1 57 (by decide)).trans ?_
  show nxt (schW yF1 55) (schW yF1 50) (schW yF1 42) (schW yF1 41) = _
  rw [ybw55, ybw50, ybw42, ybw41]
  kernel_rfl

theorem ybw58 : schW yF1 58 = 822159570 := by
  refine (schW_hi yF1 58 (by decide)).trans ?_
  show nxt (schW yF1 56) (schW yF1 51) (schW yF1 43) (schW yF1 42) = _
  rw [ybw56, ybw51, ybw43, ybw42]
  kernel_rfl

theorem ybw59 : schW yF1 59 = 3328750644 := by
  refine (schW_hi yF1 59 (by decide)).trans ?_
  show nxt (schW yF1 57) (schW yF1 52) (schW yF1 44) (schW yF1 43) = _
  rw [ybw57, ybw52, ybw44, ybw43]
  kernel_rfl

theorem ybw60 : schW yF1 60 = 1107837388 := by
  refine (schW_hi yF1 60 (by decide)).trans ?_
  show nxt (schW yF1 58) (schW yF1 53) (schW yF1 45) (schW yF1 44) = _
  rw [ybw58, ybw53, ybw45, ybw44]
  kernel_rfl

theorem ybw61 : schW yF1 61 = 1657999800 := by
  refine (schW_hi yF1 61 (by decide)).trans ?_
  show nxt (schW yF1 59) (schW yF1 54) (schW yF1 46) (schW yF1 45) = _
  rw [ybw59, ybw54, ybw46, ybw45]
  kernel_rfl

theorem ybw62 : schW yF1 62 = 3852183409 := by
  refine (schW_hi yF1 62 (by decide)).trans ?_
  show nxt (schW yF1 60) (schW yF1 55) (schW yF1 47) (schW yF1 46) = _
  rw [ybw60, ybw55, ybw47, ybw46]
  kernel_rfl

theorem ybw63 : schW yF1 63 = 2242356356 := by
  refine (schW_hi yF1 63 (by decide)).trans ?_
  show nxt (schW yF1 61) (schW yF1 56) (schW yF1 48) (schW yF1 47) = _
  rw [ybw61, ybw56, ybw48, ybw47]
  kernel_rfl

theorem ybs0 : S8 KW (schW yF1) (comp KW yF0 HW) 0 2475485246 3859778361 2392783938 3463296717 3137150165 1100731776 4043522576 1276257785 := ⟨y1.1, y1.2.1, y1.2.2.1, y1.2.2.2.1, y1.2.2.2.2.1, y1.2.2.2.2.2.1, y1.2.2.2.2.2.2.1, y1.2.2.2.2.2.2.2⟩

theorem ybs1 : S8 KW (schW yF1) (comp KW yF0 HW) 1 1615901054 2475485246 3859778361 2392783938 3514311659 3137150165 1100731776 4043522576 := ybs0.step (k := 1116352408) (by kernel_rfl) ybw0 _ _ (by kernel_rfl) (by kernel_rfl)

theorem ybs2 : S8 KW (schW yF1) (comp KW yF0 HW) 2 2492733022 1615901054 2475485246 3859778361 4026765831 3514311659 3137150165 1100731776 := ybs1.step (k := 1899447441) (by kernel_rfl) ybw1 _ _ (by kernel_rfl) (by kernel_rfl)

theorem ybs3 : S8 KW (schW yF1) (comp KW yF0 HW) 3 158169543 2492733022 1615901054 2475485246 392132893 4026765831 3514311659 3137150165 := ybs2.step (k := 3049323471) (by kernel_rfl) ybw2 _ _ (by kernel_rfl) (by kernel_rfl)

theorem ybs4 : S8 KW (schW yF1) (comp KW yF0 HW) 4 653352574 158169543 2492733022 1615901054 10882079 392132893 4026765831 3514311659 := ybs3.step (k := 3921009573) (by kernel_rfl) ybw3 _ _ (by kernel_rfl) (by kernel_rfl)

theorem ybs5 : S8 KW (schW yF1) (comp KW yF0 HW) 5 1810168512 653352574 158169543 2492733022 134985042 10882079 392132893 4026765831 := ybs4.step (k := 961987163) (by kernel_rfl) ybw4 _ _ (by kernel_rfl) (by kernel_rfl)

theorem ybs6 : S8 KW (schW yF1) (comp KW yF0 HW) 6 3556594108 1810168512 653352574 158169543 3717893404 134985042 10882079 392132893 := ybs5.step (k := 1508970993) (by kernel_rfl) ybw5 _ _ (by kernel_rfl) (by kernel_rfl)

theorem ybs7 : S8 KW (schW yF1) (comp KW yF0 HW) 7 2144168869 3556594108 1810168512 653352574 3638972838 3717893404 134985042 10882079 := ybs6.step (k := 2453635748) (by kernel_rfl) ybw6 _ _ (by kernel_rfl) (by kernel_rfl)

theorem ybs8 : S8 KW (schW yF1) (comp KW yF0 HW) 8 339874889 2144168869 3556594108 1810168512 2278540710 3638972838 3717893404 134985042 := ybs7.step (k := 2870763221) (by kernel_rfl) ybw7 _ _ (by kernel_rfl) (by kernel_rfl)

theorem ybs9 : S8 KW (schW yF1) (comp KW yF0 HW) 9 3370980437 339874889 2144168869 3556594108 3992697365 2278540710 3638972838 3717893404 := ybs8.step (k := 3624381080) (by kernel_rfl) ybw8 _ _ (by kernel_rfl) (by kernel_rfl)

theorem ybs10 : S8 KW (schW yF1) (comp KW yF0 HW) 10 810970831 3370980437 339874889 2144168869 1120032488 3992697365 2278540710 3638972838 := ybs9.step (k := 310598401) (by kernel_rfl) ybw9 _ _ (by kernel_rfl) (by kernel_rfl)

theorem ybs11 : S8 KW (schW yF1) (comp KW yF0 HW) 11 3559705000 810970831 3370980437 339874889 1608317759 1120032488 3992697365 2278540710 := ybs10.step (k := 607225278) (by kernel_rfl) ybw10 _ _ (by kernel_rfl) (by kernel_rfl)

theorem ybs12 : S8 KW (schW yF1) (comp KW yF0 HW) 12 3498060438 3559705000 810970831 3370980437 1223344566 1608317759 1120032488 3992697365 := ybs11.step (k := 1426881987) (by kernel_rfl) ybw11 _ _ (by kernel_rfl) (by kernel_rfl)

theorem ybs13 : S8 KW (schW yF1) (comp KW yF0 HW) 13 4132347125 3498060438 3559705000 810970831 251293910 1223344566 1608317759 1120032488 := ybs12.step (k := 1925078388) (by kernel_rfl) ybw12 _ _ (by kernel_rfl) (by kernel_rfl)

theorem ybs14 : S8 KW (schW yF1) (comp KW yF0 HW) 14 3517873523 4132347125 3498060438 3559705000 2376638718 251293910 1223344566 1608317759 := ybs13.step (k := 2162078206) (by kernel_rfl) ybw13 _ _ (by kernel_rfl) (by kernel_rfl)

theorem ybs15 : S8 KW (schW yF1) (comp KW yF0 HW) 15 4041860845 3517873523 4132347125 3498060438 1317508661 2376638718 251293910 1223344566 := ybs14.step (k := 2614888103) (by kernel_rfl) ybw14 _ _ (by kernel_rfl) (by kernel_rfl)

theorem ybs16 : S8 KW (schW yF1) (comp KW yF0 HW) 16 1167437913 4041860845 3517873523 4132347125 945329347 1317508661 2376638718 251293910 := ybs15.step (k := 3248222580) (by kernel_rfl) ybw15 _ _ (by kernel_rfl) (by kernel_rfl)

theorem ybs17 : S8 KW (schW yF1) (comp KW yF0 HW) 17 287224279 1167437913 4041860845 3517873523 2958111910 945329347 1317508661 2376638718 := ybs16.step (k := 3835390401) (by kernel_rfl) ybw16 _ _ (by kernel_rfl) (by kernel_rfl)

theorem ybs18 : S8 KW (schW yF1) (comp KW yF0 HW) 18 2782971492 287224279 1167437913 4041860845 4122548790 2958111910 945329347 1317508661 := ybs17.step (k := 4022224774) (by kernel_rfl) ybw17 _ _ (by kernel_rfl) (by kernel_rfl)

theorem ybs19 : S8 KW (schW yF1) (comp KW yF0 HW) 19 4145651056 2782971492 287224279 1167437913 1227507712 4122548790 2958111910 945329347 := ybs18.step (k := 264347078) (by kernel_rfl) ybw18 _ _ (by kernel_rfl) (by kernel_rfl)

theorem ybs20 : S8 KW (schW yF1) (comp KW yF0 HW) 20 1194656202 4145651056 2782971492 287224279 662569059 1227507712 4122548790 2958111910 := ybs19.step (k := 604807628) (by kernel_rfl) ybw19 _ _ (by kernel_rfl) (by kernel_rfl)

theorem ybs21 : S8 KW (schW yF1) (comp KW yF0 HW) 21 1151893409 1194656202 4145651056 2782971492 587029330 662569059 1227507712 4122548790 := ybs20.step (k := 770255983) (by kernel_rfl) ybw20 _ _ (by kernel_rfl) (by kernel_rfl)

theorem ybs22 : S8 KW (schW yF1) (comp KW yF0 HW) 22 2138734758 1151893409 1194656202 4145651056 3494078833 587029330 662569059 1227507712 := ybs21.step (k := 1249150122) (by kernel_rfl) ybw21 _ _ (by kernel_rfl) (by kernel_rfl)

theorem ybs23 : S8 KW (schW yF1) (comp KW yF0 HW) 23 1398297394 2138734758 1151893409 1194656202 2454334720 3494078833 587029330 662569059 := ybs22.step (k := 1555081692) (by kernel_rfl) ybw22 _ _ (by kernel_rfl) (by kernel_rfl)

theorem ybs24 : S8 KW (schW yF1) (comp KW yF0 HW) 24 977109324 1398297394 2138734758 1151893409 3186747441 2454334720 3494078833 587029330 := ybs23.step (k := 1996064986) (by kernel_rfl) ybw23 _ _ (by kernel_rfl) (by kernel_rfl)

theorem ybs25 : S8 KW (schW yF1) (comp KW yF0 HW) 25 2359179684 977109324 1398297394 2138734758 1659025096 3186747441 2454334720 3494078833 := ybs24.step (k := 2554220882) (by kernel_rfl) ybw24 _ _ (by kernel_rfl) (by kernel_rfl)

theorem ybs26 : S8 KW (schW yF1) (comp KW yF0 HW) 26 1687726440 2359179684 977109324 1398297394 856793152 1659025096 3186747441 2454334720 := ybs25.step (k := 2821834349) (by kernel_rfl) ybw25 _ _ (by kernel_rfl) (by kernel_rfl)

theorem ybs27 : S8 KW (schW yF1) (comp KW yF0 HW) 27 3468455675 1687726440 2359179684 977109324 3300354484 856793152 1659025096 3186747441 := ybs26.step (k := 2952996808) (by kernel_rfl) ybw26 _ _ (by kernel_rfl) (by kernel_rfl)

theorem ybs28 : S8 KW (schW yF1) (comp KW yF0 HW) 28 2596436408 3468455675 1687726440 2359179684 2459520949 3300354484 856793152 1659025096 := ybs27.step (k := 3210313671) (by kernel_rfl) ybw27 _ _ (by kernel_rfl) (by kernel_rfl)

theorem ybs29 : S8 KW (schW yF1) (comp KW yF0 HW) 29 3155284843 2596436408 3468455675 1687726440 2542074113 2459520949 3300354484 856793152 := ybs28.step (k := 3336571891) (by kernel_rfl) ybw28 _ _ (by kernel_rfl) (by kernel_rfl)

theorem ybs30 : S8 KW (schW yF1) (comp KW yF0 HW) 30 2726883044 3155284843 2596436408 3468455675 897376685 2542074113 2459520949 3300354484 := ybs29.step (k := 3584528711) (by kernel_rfl) ybw29 _ _ (by kernel_rfl) (by kernel_rfl)

theorem ybs31 : S8 KW (schW yF1) (comp KW yF0 HW) 31 3484401612 2726883044 3155284843 2596436408 1739486571 897376685 2542074113 2459520949 := ybs30.step (k := 113926993) (by kernel_rfl) ybw30 _ _ (by kernel_rfl) (by kernel_rfl)

theorem ybs32 : S8 KW (schW yF1) (comp KW yF0 HW) 32 146870994 3484401612 2726883044 3155284843 2173102830 1739486571 897376685 2542074113 := ybs31.step (k := 338241895) (by kernel_rfl) ybw31 _ _ (by kernel_rfl) (by kernel_rfl)

theorem ybs33 : S8 KW (schW yF1) (comp KW yF0 HW) 33 3188030170 146870994 3484401612 2726883044 3735176418 2173102830 1739486571 897376685 := ybs32.step (k := 666307205) (by kernel_rfl) ybw32 _ _ (by kernel_rfl) (by kernel_rfl)

theorem ybs34 : S8 KW (schW yF1) (comp KW yF0 HW) 34 3823823978 3188030170 146870994 3484401612 2335104015 3735176418 2173102830 1739486571 := ybs33.step (k := 773529912) (by kernel_rfl) ybw33 _ _ (by kernel_rfl) (by kernel_rfl)

theorem ybs35 : S8 KW (schW yF1) (comp KW yF0 HW) 35 2414957030 3823823978 3188030170 146870994 1153664790 2335104015 3735176418 2173102830 := ybs34.step (k := 1294757372) (by kernel_rfl) ybw34 _ _ (by kernel_rfl) (by kernel_rfl)

theorem ybs36 : S8 KW (schW yF1) (comp KW yF0 HW) 36 1800529621 2414957030 3823823978 3188030170 3668037361 1153664790 2335104015 3735176418 := ybs35.step (k := 1396182291) (by kernel_rfl) ybw35 _ _ (by kernel_rfl) (by kernel_rfl)

theorem ybs37 : S8 KW (schW yF1) (comp KW yF0 HW) 37 2348062965 1800529621 2414957030 3823823978 841201746 3668037361 1153664790 2335104015 := ybs36.step (k := 1695183700) (by kernel_rfl) ybw36 _ _ (by kernel_rfl) (by kernel_rfl)

theorem ybs38 : S8 KW (schW yF1) (comp KW yF0 HW) 38 378751393 2348062965 1800529621 2414957030 4149851488 841201746 3668037361 1153664790 := ybs37.step (k := 1986661051) (by kernel_rfl) ybw37 _ _ (by kernel_rfl) (by kernel_rfl)

theorem ybs39 : S8 KW (schW yF1) (comp KW yF0 HW) 39 2899326393 378751393 2348062965 1800529621 3949255682 4149851488 841201746 3668037361 := ybs38.step (k := 2177026350) (by kernel_rfl) ybw38 _ _ (by kernel_rfl) (by kernel_rfl)

theorem ybs40 : S8 KW (schW yF1) (comp KW yF0 HW) 40 4259415042 2899326393 378751393 2348062965 1412678602 3949255682 4149851488 841201746 := ybs39.step (k := 2456956037) (by kernel_rfl) ybw39 _ _ (by kernel_rfl) (by kernel_rfl)

theorem ybs41 : S8 KW (schW yF1) (comp KW yF0 HW) 41 911745779 4259415042 2899326393 378751393 3959173196 1412678602 3949255682 4149851488 := ybs40.step (k := 2730485921) (by kernel_rfl) ybw40 _ _ (by kernel_rfl) (by kernel_rfl)

theorem ybs42 : S8 KW (schW yF1) (comp KW yF0 HW) 42 2853326771 911745779 4259415042 2899326393 1230044669 3959173196 1412678602 3949255682 := ybs41.step (k := 2820302411) (by kernel_rfl) ybw41 _ _ (by kernel_rfl) (by kernel_rfl)

theorem ybs43 : S8 KW (schW yF1) (comp KW yF0 HW) 43 1833542743 2853326771 911745779 4259415042 2107819399 1230044669 3959173196 1412678602 := ybs42.step (k := 3259730800) (by kernel_rfl) ybw42 _ _ (by kernel_rfl) (by kernel_rfl)

theorem ybs44 : S8 KW (schW yF1) (comp KW yF0 HW) 44 428396958 1833542743 2853326771 911745779 161075136 2107819399 1230044669 3959173196 := ybs43.step (k := 3345764771) (by kernel_rfl) ybw43 _ _ (by kernel_rfl) (by kernel_rfl)

theorem ybs45 : S8 KW (schW yF1) (comp KW yF0 HW) 45 3566960889 428396958 1833542743 2853326771 3088473614 161075136 2107819399 1230044669 := ybs44.step (k := 3516065817) (by kernel_rfl) ybw44 _ _ (by kernel_rfl) (by kernel_rfl)

theorem ybs46 : S8 KW (schW yF1) (comp KW yF0 HW) 46 253502957 3566960889 428396958 1833542743 1052332305 3088473614 161075136 2107819399 := ybs45.step (k := 3600352804) (by kernel_rfl) ybw45 _ _ (by kernel_rfl) (by kernel_rfl)

theorem ybs47 : S8 KW (schW yF1) (comp KW yF0 HW) 47 4171555400 253502957 3566960889 428396958 740114172 1052332305 3088473614 161075136 := ybs46.step (k := 4094571909) (by kernel_rfl) ybw46 _ _ (by kernel_rfl) (by kernel_rfl)

theorem ybs48 : S8 KW (schW yF1) (comp KW yF0 HW) 48 1151329939 4171555400 253502957 3566960889 3248765169 740114172 1052332305 3088473614 := ybs47.step (k := 275423344) (by kernel_rfl) ybw47 _ _ (by kernel_rfl) (by kernel_rfl)

theorem ybs49 : S8 KW (schW yF1) (comp KW yF0 HW) 49 1803315054 1151329939 4171555400 253502957 1498640725 3248765169 740114172 1052332305 := ybs48.step (k := 430227734) (by kernel_rfl) ybw48 _ _ (by kernel_rfl) (by kernel_rfl)

theorem ybs50 : S8 KW (schW yF1) (comp KW yF0 HW) 50 242475603 1803315054 1151329939 4171555400 1688282721 1498640725 3248765169 740114172 := ybs49.step (k := 506948616) (by kernel_rfl) ybw49 _ _ (by kernel_rfl) (by kernel_rfl)

theorem ybs51 : S8 KW (schW yF1) (comp KW yF0 HW) 51 2120232594 242475603 1803315054 1151329939 167207765 1688282721 1498640725 3248765169 := ybs50.step (k := 659060556) (by kernel_rfl) ybw50 _ _ (by kernel_rfl) (by kernel_rfl)

theorem ybs52 : S8 KW (schW yF1) (comp KW yF0 HW) 52 560998764 2120232594 242475603 1803315054 2347628625 167207765 1688282721 1498640725 := ybs51.step (k := 883997877) (by kernel_rfl) ybw51 _ _ (by kernel_rfl) (by kernel_rfl)

theorem ybs53 : S8 KW (schW yF1) (comp KW yF0 HW) 53 2252312796 560998764 2120232594 242475603 1068702873 2347628625 167207765 1688282721 := ybs52.step (k := 958139571) (by kernel_rfl) ybw52 _ _ (by kernel_rfl) (by kernel_rfl)

theorem ybs54 : S8 KW (schW yF1) (comp KW yF0 HW) 54 1336569124 2252312796 560998764 2120232594 3733290696 1068702873 2347628625 167207765 := ybs53.step (k := 1322822218) (by kernel_rfl) ybw53 _ _ (by kernel_rfl) (by kernel_rfl)

theorem ybs55 : S8 KW (schW yF1) (comp KW yF0 HW) 55 743070798 1336569124 2252312796 560998764 3488868944 3733290696 1068702873 2347628625 := ybs54.step (k := 1537002063) (by kernel_rfl) ybw54 _ _ (by kernel_rfl) (by kernel_rfl)

theorem ybs56 : S8 KW (schW yF1) (comp KW yF0 HW) 56 918762393 743070798 1336569124 2252312796 167129801 3488868944 3733290696 1068702873 := ybs55.step (k := 1747873779) (by kernel_rfl) ybw55 _ _ (by kernel_rfl) (by kernel_rfl)

theorem ybs57 : S8 KW (schW yF1) (comp KW yF0 HW) 57 1977891460 918762393 743070798 1336569124 4020383792 167129801 3488868944 3733290696 := ybs56.step (k := 1955562222) (by kernel_rfl) ybw56 _ _ (by kernel_rfl) (by kernel_rfl)

theorem ybs58 : S8 KW (schW yF1) (comp KW yF0 HW) 58 712275097 1977891460 918762393 743070798 3953915610 4020383792 167129801 3488868944 := ybs57.step (k := 2024104815) (by kernel_rfl) ybw57 _ _ (by kernel_rfl) (by kernel_rfl)

theorem ybs59 : S8 KW (schW yF1) (comp KW yF0 HW) 59 1294389212 712275097 1977891460 918762393 50777957 3953915610 4020383792 167129801 := ybs58.step (k := 2227730452) (by kernel_rfl) ybw58 _ _ (by kernel_rfl) (by kernel_rfl)

theorem ybs60 : S8 KW (schW yF1) (comp KW yF0 HW) 60 2894975819 1294389212 712275097 1977891460 2136464467 50777957 3953915610 4020383792 := ybs59.step (k := 2361852424) (by kernel_rfl) ybw59 _ _ (by kernel_rfl) (by kernel_rfl)

theorem ybs61 : S8 KW (schW yF1) (comp KW yF0 HW) 61 619516635 2894975819 1294389212 712275097 679032696 2136464467 50777957 3953915610 := ybs60.step (k := 2428436474) (by kernel_rfl) ybw60 _ _ (by kernel_rfl) (by kernel_rfl)

theorem ybs62 : S8 KW (schW yF1) (comp KW yF0 HW) 62 1774030057 619516635 2894975819 1294389212 2077957722 679032696 2136464467 50777957 := ybs61.step (k := 2756734187) (by kernel_rfl) ybw61 _ _ (by kernel_rfl) (by kernel_rfl)

theorem ybs63 : S8 KW (schW yF1) (comp KW yF0 HW) 63 451824008 1774030057 619516635 2894975819 1884289833 2077957722 679032696 2136464467 := ybs62.step (k := 3204031479) (by kernel_rfl) ybw62 _ _ (by kernel_rfl) (by kernel_rfl)

theorem ybs64 : S8 KW (schW yF1) (comp KW yF0 HW) 64 1204365584 451824008 1774030057 619516635 3616312855 1884289833 2077957722 679032696 := ybs63.step (k := 3329325298) (by kernel_rfl) ybw63 _ _ (by kernel_rfl) (by kernel_rfl)

theorem y_0 : shaV KW HW yM 64 0 = 219 := by
  have h : shaV KW HW yM 64 0 = comp KW yF1 (comp KW yF0 HW) 0 / 2 ^ 24 % 256 := rfl
  rw [h, ybs64.words.1, y1.1]
  decide

theorem zb_0 : shaV KW HW zM 64 0 = 245 := by
  have h : shaV KW HW zM 64 0 = comp KW zF1 (comp KW zF0 HW) 0 / 2 ^ 24 % 256 := rfl
  rw [h, zbs64.words.1, z1.1]
  decide

theorem zb_1 : shaV KW HW zM 64 1 = 165 := by
  have h : shaV KW HW zM 64 1 = comp KW zF1 (comp KW zF0 HW) 0 / 2 ^ 16 % 256 := rfl
  rw [h, zbs64.words.1, z1.1]
  decide

theorem zb_2 : shaV KW HW zM 64 2 = 253 := by
  have h : shaV KW HW zM 64 2 = comp KW zF1 (comp KW zF0 HW) 0 / 2 ^ 8 % 256 := rfl
  rw [h, zbs64.words.1, z1.1]
  decide

theorem zb_3 : shaV KW HW zM 64 3 = 66 := by
  have h : shaV KW HW zM 64 3 = comp KW zF1 (comp KW zF0 HW) 0 / 2 ^ 0 % 256 := rfl
  rw [h, zbs64.words.1, z1.1]
  decide

theorem zb_4 : shaV KW HW zM 64 4 = 209 := by
  have h : shaV KW HW zM 64 4 = comp KW zF1 (comp KW zF0 HW) 1 / 2 ^ 24 % 256 := rfl
  rw [h, zbs64.words.2.1, z1.2.1]
  decide

theorem zb_5 : shaV KW HW zM 64 5 = 106 := by
  have h : shaV KW HW zM 64 5 = comp KW zF1 (comp KW zF0 HW) 1 / 2 ^ 16 % 256 := rfl
  rw [h, zbs64.words.2.1, z1.2.1]
  decide

theorem zb_6 : shaV KW HW zM 64 6 = 32 := by
  have h : shaV KW HW zM 64 6 = comp KW zF1 (comp KW zF0 HW) 1 / 2 ^ 8 % 256 := rfl
  rw [h, zbs64.words.2.1, z1.2.1]
  decide

theorem zb_7 : shaV KW HW zM 64 7 = 48 := by
  have h : shaV KW HW zM 64 7 = comp KW zF1 (comp KW zF0 HW) 1 / 2 ^ 0 % 256 := rfl
  rw [h, zbs64.words.2.1, z1.2.1]
  decide

theorem zb_8 : shaV KW HW zM 64 8 = 39 := by
  have h : shaV KW HW zM 64 8 = comp KW zF1 (comp KW zF0 HW) 2 / 2 ^ 24 % 256 := rfl
  rw [h, zbs64.words.2.2.1, z1.2.2.1]
  decide

theorem zb_9 : shaV KW HW zM 64 9 = 152 := by
  have h : shaV KW HW zM 64 9 = comp KW zF1 (comp KW zF0 HW) 2 / 2 ^ 16 % 256 := rfl
  rw [h, zbs64.words.2.2.1, z1.2.2.1]
  decide

theorem zb_10 : shaV KW HW zM 64 10 = 239 := by
  have h : shaV KW HW zM 64 10 = comp KW zF1 (comp KW zF0 HW) 2 / 2 ^ 8 % 256 := rfl
  rw [h, zbs64.words.2.2.1, z1.2.2.1]
  decide

theorem zb_11 : shaV KW HW zM 64 11 = 110 := by
  have h : shaV KW HW zM 64 11 = comp KW zF1 (comp KW zF0 HW) 2 / 2 ^ 0 % 256 := rfl
  rw [h, zbs64.words.2.2.1, z1.2.2.1]
  decide

theorem zb_12 : shaV KW HW zM 64 12 = 211 := by
  have h : shaV KW HW zM 64 12 = comp KW zF1 (comp KW zF0 HW) 3 / 2 ^ 24 % 256 := rfl
  rw [h, zbs64.words.2.2.2.1, z1.2.2.2.1]
  decide

theorem zb_13 : shaV KW HW zM 64 13 = 9 := by
  have h : shaV KW HW zM 64 13 = comp KW zF1 (comp KW zF0 HW) 3 / 2 ^ 16 % 256 := rfl
  rw [h, zbs64.words.2.2.2.1, z1.2.2.2.1]
  decide

theorem zb_14 : shaV KW HW zM 64 14 = 151 := by
  have h : shaV KW HW zM 64 14 = comp KW zF1 (comp KW zF0 HW) 3 / 2 ^ 8 % 256 := rfl
  rw [h, zbs64.words.2.2.2.1, z1.2.2.2.1]
  decide

theorem zb_15 : shaV KW HW zM 64 15 = 155 := by
  have h : shaV KW HW zM 64 15 = comp KW zF1 (comp KW zF0 HW) 3 / 2 ^ 0 % 256 := rfl
  rw [h, zbs64.words.2.2.2.1, z1.2.2.2.1]
  decide

theorem zb_16 : shaV KW HW zM 64 16 = 67 := by
  have h : shaV KW HW zM 64 16 = comp KW zF1 (comp KW zF0 HW) 4 / 2 ^ 24 % 256 := rfl
  rw [h, zbs64.words.2.2.2.2.1, z1.2.2.2.2.1]
  decide

theorem zb_17 : shaV KW HW zM 64 17 = 0 := by
  have h : shaV KW HW zM 64 17 = comp KW zF1 (comp KW zF0 HW) 4 / 2 ^ 16 % 256 := rfl
  rw [h, zbs64.words.2.2.2.2.1, z1.2.2.2.2.1]
  decide

theorem zb_18 : shaV KW HW zM 64 18 = 61 := by
  have h : shaV KW HW zM 64 18 = comp KW zF1 (comp KW zF0 HW) 4 / 2 ^ 8 % 256 := rfl
  rw [h, zbs64.words.2.2.2.2.1, z1.2.2.2.2.1]
  decide

theorem zb_19 : shaV KW HW zM 64 19 = 35 := by
  have h : shaV KW HW zM 64 19 = comp KW zF1 (comp KW zF0 HW) 4 / 2 ^ 0 % 256 := rfl
  rw [h, zbs64.words.2.2.2.2.1, z1.2.2.2.2.1]
  decide

theorem zb_20 : shaV KW HW zM 64 20 = 32 := by
  have h : shaV KW HW zM 64 20 = comp KW zF1 (comp KW zF0 HW) 5 / 2 ^ 24 % 256 := rfl
  rw [h, zbs64.words.2.2.2.2.2.1, z1.2.2.2.2.2.1]
  decide

theorem zb_21 : shaV KW HW zM 64 21 = 217 := by
  have h : shaV KW HW zM 64 21 = comp KW zF1 (comp KW zF0 HW) 5 / 2 ^ 16 % 256 := rfl
  rw [h, zbs64.words.2.2.2.2.2.1, z1.2.2.2.2.2.1]
  decide

theorem zb_22 : shaV KW HW zM 64 22 = 240 := by
  have h : shaV KW HW zM 64 22 = comp KW zF1 (comp KW zF0 HW) 5 / 2 ^ 8 % 256 := rfl
  rw [h, zbs64.words.2.2.2.2.2.1, z1.2.2.2.2.2.1]
  decide

theorem zb_23 : shaV KW HW zM 64 23 = 232 := by
  have h : shaV KW HW zM 64 23 = comp KW zF1 (comp KW zF0 HW) 5 / 2 ^ 0 % 256 := rfl
  rw [h, zbs64.words.2.2.2.2.2.1, z1.2.2.2.2.2.1]
  decide

theorem zb_24 : shaV KW HW zM 64 24 = 234 := by
  have h : shaV KW HW zM 64 24 = comp KW zF1 (comp KW zF0 HW) 6 / 2 ^ 24 % 256 := rfl
  rw [h, zbs64.words.2.2.2.2.2.2.1, z1.2.2.2.2.2.2.1]
  decide

theorem zb_25 : shaV KW HW zM 64 25 = 152 := by
  have h : shaV KW HW zM 64 25 = comp KW zF1 (comp KW zF0 HW) 6 / 2 ^ 16 % 256 := rfl
  rw [h, zbs64.words.2.2.2.2.2.2.1, z1.2.2.2.2.2.2.1]
  decide

theorem zb_26 : shaV KW HW zM 64 26 = 49 := by
  have h : shaV KW HW zM 64 26 = comp KW zF1 (comp KW zF0 HW) 6 / 2 ^ 8 % 256 := rfl
  rw [h, zbs64.words.2.2.2.2.2.2.1, z1.2.2.2.2.2.2.1]
  decide

theorem zb_27 : shaV KW HW zM 64 27 = 169 := by
  have h : shaV KW HW zM 64 27 = comp KW zF1 (comp KW zF0 HW) 6 / 2 ^ 0 % 256 := rfl
  rw [h, zbs64.words.2.2.2.2.2.2.1, z1.2.2.2.2.2.2.1]
  decide

theorem zb_28 : shaV KW HW zM 64 28 = 39 := by
  have h : shaV KW HW zM 64 28 = comp KW zF1 (comp KW zF0 HW) 7 / 2 ^ 24 % 256 := rfl
  rw [h, zbs64.words.2.2.2.2.2.2.2, z1.2.2.2.2.2.2.2]
  decide

theorem zb_29 : shaV KW HW zM 64 29 = 89 := by
  have h : shaV KW HW zM 64 29 = comp KW zF1 (comp KW zF0 HW) 7 / 2 ^ 16 % 256 := rfl
  rw [h, zbs64.words.2.2.2.2.2.2.2, z1.2.2.2.2.2.2.2]
  decide

theorem zb_30 : shaV KW HW zM 64 30 = 251 := by
  have h : shaV KW HW zM 64 30 = comp KW zF1 (comp KW zF0 HW) 7 / 2 ^ 8 % 256 := rfl
  rw [h, zbs64.words.2.2.2.2.2.2.2, z1.2.2.2.2.2.2.2]
  decide

theorem zb_31 : shaV KW HW zM 64 31 = 75 := by
  have h : shaV KW HW zM 64 31 = comp KW zF1 (comp KW zF0 HW) 7 / 2 ^ 0 % 256 := rfl
  rw [h, zbs64.words.2.2.2.2.2.2.2, z1.2.2.2.2.2.2.2]
  decide

theorem zr1_at (j : Nat) (hj : j < 32) : zr 1 j = yM j := by
  show shaV KW HW (cat (zr 0) (zr 0)) 64 j = yM j
  rw [shaV_congr (m' := zM) (fun i _ => by unfold cat zr zM; rw [ite_self]) j hj]
  rcases (by omega : j = 0 ∨ j = 1 ∨ j = 2 ∨ j = 3 ∨ j = 4 ∨ j = 5 ∨ j = 6 ∨ j = 7 ∨ j = 8 ∨ j = 9 ∨ j = 10 ∨ j = 11 ∨ j = 12 ∨ j = 13 ∨ j = 14 ∨ j = 15 ∨ j = 16 ∨ j = 17 ∨ j = 18 ∨ j = 19 ∨ j = 20 ∨ j = 21 ∨ j = 22 ∨ j = 23 ∨ j = 24 ∨ j = 25 ∨ j = 26 ∨ j = 27 ∨ j = 28 ∨ j = 29 ∨ j = 30 ∨ j = 31) with rfl | rfl | rfl | rfl | rfl | rfl | rfl | rfl | rfl | rfl | rfl | rfl | rfl | rfl | rfl | rfl | rfl | rfl | rfl | rfl | rfl | rfl | rfl | rfl | rfl | rfl | rfl | rfl | rfl | rfl | rfl | rfl
  · exact zb_0
  · exact zb_1
  · exact zb_2
  · exact zb_3
  · exact zb_4
  · exact zb_5
  · exact zb_6
  · exact zb_7
  · exact zb_8
  · exact zb_9
  · exact zb_10
  · exact zb_11
  · exact zb_12
  · exact zb_13
  · exact zb_14
  · exact zb_15
  · exact zb_16
  · exact zb_17
  · exact zb_18
  · exact zb_19
  · exact zb_20
  · exact zb_21
  · exact zb_22
  · exact zb_23
  · exact zb_24
  · exact zb_25
  · exact zb_26
  · exact zb_27
  · exact zb_28
  · exact zb_29
  · exact zb_30
  · exact zb_31

theorem zr2_0 : zr 2 0 = 219 := by
  show shaV KW HW (cat (zr 1) (zr 1)) 64 0 = 219
  rw [shaV_congr (m' := yM) (fun i hi => by
    unfold cat
    by_cases h : i < 32
    · rw [if_pos h]; exact zr1_at i h
    · rw [if_neg h, zr1_at (i - 32) (by omega)]
      have key : ∀ q, q < 32 → yM q = yM (q + 32) := by decide
      rw [key (i - 32) (by omega), show i - 32 + 32 = i by omega]) 0 (by omega)]
  exact y_0

end Go.Proofs.YtaodonmbanpieabDoor
namespace Go.Proofs.YtaodonmbanpieabDoor
open Go.RowKit
set_option linter.unusedVariables false
set_option linter.unusedSimpArgs false

attribute [local go_sem ↓] sv24_eq lv24_eq ix22_eq slr_eq bd27_eq bs22_eq sv8_eq mkI_eq ixI_eq ixP_eq bsP_eq bsI_eq lvExit_eq svExit_eq bdExit_eq bdValidator_eq bdFork_eq

theorem hFork_o : hFork oFork 0 = 219 := by
  have h : ∀ j, j < 32 → hFork oFork j = zr 2 j := fun j hj => by
    have e0 : ∀ f : Nat → Int, ∀ len, (∀ q, f q = 0) → 1 ≤ len → len ≤ 32 → ∀ j, j < 32 → bR f len j = 0 := fun f len hf h1 h2 j hj => by
      rw [← bR_one f len h1 h2, show (len + 31) / 32 = 1 by omega]
      unfold treeV
      rw [if_pos ⟨by decide, by decide⟩]
      show (if 0 < 1 then rt32 (pk f len) 0 else fun _ => 0) j = 0
      rw [if_pos (by omega)]
      unfold rt32 pk
      by_cases hq : 32 * 0 + j < len
      · rw [if_pos hq, hf]
      · rw [if_neg hq]
    have e1 : hFork oFork j = treeV (fun _ => 0) 3 (3 : Nat) j := treeV_congr (fun q hq => by
      unfold fl7
      have hq5 := Nat.mod_lt q (show 0 < 32 by omega)
      rcases (by omega : q / 32 = 0 ∨ q / 32 = 1 ∨ q / 32 = 2) with e | e | e
      · rw [e]; exact e0 _ 4 (fun _ => rfl) (by omega) (by omega) _ hq5
      · rw [e]; exact e0 _ 4 (fun _ => rfl) (by omega) (by omega) _ hq5
      · rw [e]; exact e0 _ 8 (fun q => by show (0 : Int) / _ % 256 = 0; rw [Int.zero_ediv]; rfl) (by omega) (by omega) _ hq5) _ j hj
    rw [e1]
    unfold treeV
    rw [if_pos ⟨by decide, by decide⟩, show dpt (((3 : Nat) : Int)).toNat = 2 from by decide]
    refine (nd_congr (fun _ => 0) (fun _ => 0) 3 0 2 0 0 (fun t ht j hj => ?_) j hj).trans (congrFun (nd_zero _ 0 2 0 (by decide)) j)
    show (if _ < 3 then rt32 (fun _ => 0) _ else fun _ => 0) j = (if _ < 0 then rt32 (fun _ => 0) _ else fun _ => 0) j
    by_cases h3 : 0 * 2 ^ 2 + t < 3
    · rw [if_pos h3, if_neg (by omega)]
      rfl
    · rw [if_neg h3, if_neg (by omega)]
  rw [h 0 (by omega)]
  exact zr2_0

end Go.Proofs.YtaodonmbanpieabDoor
namespace Go.Proofs.YtaodonmbanpieabDoor
open Go.RowKit
set_option linter.unusedVariables false
set_option linter.unusedSimpArgs false

/-- Roots compared, whole: are they other ones? -/
def neo (x y : Value) : Sem Value := binOp .neq 24 x y

theorem neo_eq (x y : Value) : binOp .neq 24 x y = neo x y := rfl

theorem neo_run (w : World) (c d : Nat → Int) : (neo (.agg (vs .u8 32 c)) (.agg (vs .u8 32 d))).run Tryd.prog w = .ok (.bool (!eqR c d)) w := by
  have h2 : (Op.equalIn Op.maxDepth 24 (.agg (vs .u8 32 c)) (.agg (vs .u8 32 d))).run Tryd.prog w = .ok (eqR c d) w := eq32g w c d
  unfold neo
  simp [binOp, Op.equal, h2]

def eqx (x y : Value) : Sem Value := binOp .eql 55 x y

theorem eqx_eq (x y : Value) : binOp .eql 55 x y = eqx x y := rfl

theorem eqx_run (w : World) : (eqx (.agg (cel (sExit ⟨1, 2⟩))) (.agg (cel (sExit ⟨1, 2⟩)))).run Tryd.prog w = .ok (.bool true) w := by kernel_rfl

theorem ct7_bd : ∀ qs : List (Nat × (Nat → Int)), (∀ p ∈ qs, ∀ j, 0 ≤ p.2 j ∧ p.2 j < 256) → ∀ q, 0 ≤ ct7 qs q ∧ ct7 qs q < 256
  | [], _, q => ⟨Int.le_refl _, by show (0 : Int) < 256; decide⟩
  | p :: r, h, q => by
    show 0 ≤ (if q < p.1 then p.2 q else ct7 r (q - p.1)) ∧ (if q < p.1 then p.2 q else ct7 r (q - p.1)) < 256
    by_cases hq : q < p.1
    · rw [if_pos hq]; exact h p (by simp) q
    · rw [if_neg hq]; exact ct7_bd r (fun p' hp => h p' (by simp [hp])) _

theorem okVal_o : OkValidator oValidator := ⟨fun _ _ => ⟨Int.le_refl _, by show (0 : Int) < 256; decide⟩, fun _ _ => ⟨Int.le_refl _, by show (0 : Int) < 256; decide⟩, ⟨by decide, by decide⟩, trivial, ⟨by decide, by decide⟩, ⟨by decide, by decide⟩, ⟨by decide, by decide⟩, ⟨by decide, by decide⟩⟩

theorem okFork_o : OkFork oFork := ⟨fun _ _ => ⟨Int.le_refl _, by show (0 : Int) < 256; decide⟩, fun _ _ => ⟨Int.le_refl _, by show (0 : Int) < 256; decide⟩, ⟨by decide, by decide⟩⟩

end Go.Proofs.YtaodonmbanpieabDoor
namespace Go.Proofs.YtaodonmbanpieabDoor
open Go.RowKit
set_option linter.unusedVariables false
set_option linter.unusedSimpArgs false

attribute [local go_sem ↓] sv24_eq lv24_eq ix22_eq slr_eq bd27_eq bs22_eq sv8_eq mkI_eq ixI_eq ixP_eq bsP_eq bsI_eq lvExit_eq svExit_eq bdExit_eq bdValidator_eq bdFork_eq neo_eq eqx_eq

set_option maxRecDepth 20000 in
set_option maxHeartbeats 2000000 in
theorem awake7 (w : World) (hS : Sh w) :
    Calls Tryd.prog 9 #[] w fun e w' => e = .returned (.bool true) ∧ Below w.heap.size w w' := by
  obtain ⟨X, eX⟩ : ∃ v : VExit, (⟨1, 2⟩ : VExit) = v := ⟨_, rfl⟩
  have bx : ∀ W : World, (bdExit #[(0, .int .u64 1), (1, .int .u64 2)]).run Tryd.prog W = .ok (.agg (cel (sExit X))) W := fun W => by rw [← eX]; kernel_rfl
  have zx := zeroExit
  have qx : ∀ W : World, (eqx (.agg (cel (sExit X))) (.agg (cel (sExit X)))).run Tryd.prog W = .ok (.bool true) W := fun W => by rw [← eX]; exact eqx_run W
  have HP : Hid (pExit (ct7 (eExit X)) = X) := by show pExit (ct7 (eExit X)) = X; rw [← eX]; kernel_rfl
  have HM : Hid (∀ j, 0 ≤ ct7 (eExit X) j ∧ ct7 (eExit X) j < 256) := ct7_bd _ (fun p hp j => by
    simp only [eExit, List.mem_cons, List.not_mem_nil, or_false] at hp
    rcases hp with rfl | rfl
    · exact nmB_bd _ j
    · exact nmB_bd _ j)
  have hok : OkExit X := by rw [← eX]; exact ⟨⟨by decide, by decide⟩, ⟨by decide, by decide⟩⟩
  have svx := svExit_newv w oExit X
  obtain ⟨W1, hW1⟩ : ∃ W, w.alloc (.cells (cel (sExit X)) 55) = W := ⟨_, rfl⟩
  have hB1 : Below w.heap.size w W1 := by rw [← hW1]; exact (Below.refl _ _).alloc (Nat.le_refl _) _
  have r1 : W1.heap[w.heap.size]? = some (.cells (cel (sExit X)) 55) := by rw [← hW1]; exact heap_new rfl
  have z1 : w.heap.size < W1.heap.size := by rw [← hW1]; simp
  rw [hW1] at svx
  obtain ⟨y, ey⟩ : ∃ y, w.heap.size = y := ⟨_, rfl⟩
  rw [ey] at svx r1
  have lx := lvExit_mid (x := X) r1 0 (take_all _) rfl
  have HE := hid (encExit_any X W1 hok)
  have R1 := hid r1
  have HB1 := hid hB1
  have Z1 := hid z1
  have EY := hid ey
  have HS := hid hS
  clear r1 hB1 z1 hok hS eX
  go_enter Tryd.func9, Tryd.ntmps9
  go_upto_region 2 with fail
  clear hW1 ey svx bx
  have svy := fun W => svExit_newv W oExit X
  go_upto_region 3 with (first
    | (go_at_call 22; refine HE.out.mono ?_; rintro e w2 ⟨v, rfl, ho, hb2⟩; obtain ⟨a, c, rfl, hr⟩ := own_at ho; have hrd := readExit_ok (ct7 (eExit X)) a c w2 hr HM.out (by obtain ⟨_, _, _, _, h, _⟩ := bys_at hr (by omega); exact h) (bys_cap hr (by omega)); rw [HP.out] at hrd; have HRD := hid hrd; have HB2 := hid hb2; clear hrd hr ho hb2)
    | (go_at_call 26; refine HRD.out.mono ?_; rintro e w3 ⟨rfl, hb3⟩))
  obtain ⟨W4, hW4⟩ : ∃ W, w3.alloc (.cells (cel (sExit X)) 55) = W := ⟨_, rfl⟩
  rw [hW4]
  have s2 := HB2.out.size
  have s3 := hb3.size
  have z1 := Z1.out
  have ey := EY.out
  have ry : W4.heap[w3.heap.size]? = some (.cells (cel (sExit X)) 55) := by rw [← hW4]; exact heap_new rfl
  have rx : W4.heap[y]? = some (.cells (cel (sExit X)) 55) := by rw [← hW4]; exact (heap_old (by omega)).trans ((hb3.block y (by omega)).trans ((HB2.out.block y (by omega)).trans R1.out))
  have hB4 : Below w.heap.size w W4 := by rw [← hW4]; exact (HB1.out.trans ((HB2.out.mono (by omega)).trans (hb3.mono (by omega)))).alloc (by omega) _
  obtain ⟨u, eu⟩ : ∃ u, w3.heap.size = u := ⟨_, rfl⟩
  rw [eu] at ry ⊢
  have ly := lvExit_mid (x := X) ry 0 (take_all _) rfl
  have lx2 := lvExit_mid (x := X) rx 0 (take_all _) rfl
  have bv := bdValidator_0
  have bf := bdFork_0
  have b0 := bd27_0
  have HEV := hid (encValidator_any oValidator W4 okVal_o)
  have hne : (!eqR (hFork oFork) (fun _ => 0)) = true := by
    have : eqR (hFork oFork) (fun _ => 0) = false := by
      unfold eqR
      rw [List.all_eq_false]
      exact ⟨0, by simp, by rw [hFork_o]; decide⟩
    rw [this]
    rfl
  have qn := fun W => neo_run W (hFork oFork) (fun _ => 0)
  rw [hne] at qn
  have HRF : Hid (∀ W, Below w.heap.size w W → Calls Tryd.prog 47 #[.agg (cel (sFork oFork))] W fun e w' => e = .returned (.agg (vs .u8 32 (hFork oFork))) ∧ Below W.heap.size W w') := fun W h => rootFork_any oFork W okFork_o (HS.out.below h)
  have HB4 := hid hB4
  obtain ⟨VV, eV⟩ : ∃ V, oValidator = V := ⟨_, rfl⟩
  obtain ⟨VF, eF⟩ : ∃ V, oFork = V := ⟨_, rfl⟩
  rw [eV] at bv HEV
  rw [eF] at bf HRF qn
  obtain ⟨D, eD⟩ : ∃ D, hFork VF = D := ⟨_, rfl⟩
  simp only [eD] at HRF qn
  clear hne ry rx hB4 hW4 eu hb3 s2 s3 z1 ey HE HRD svy zx lx eV eF eD
  go_wp2_with (first
    | (go_at_call 46; refine HEV.out.mono ?_; rintro e w5 ⟨v5, rfl, ho5, hb5⟩; obtain ⟨a5, c5, rfl, hr5⟩ := own_at ho5; have HB5 := hid (HB4.out.trans (hb5.mono HB4.out.size)); clear ho5 hb5 hr5)
    | (go_at_call 47; refine (HRF.out _ HB5.out).mono ?_; rintro e w6 ⟨rfl, hb6⟩))
  go_ret
  exact ⟨rfl, HB5.out.trans (hb6.mono HB5.out.size)⟩

end Go.Proofs.YtaodonmbanpieabDoor
