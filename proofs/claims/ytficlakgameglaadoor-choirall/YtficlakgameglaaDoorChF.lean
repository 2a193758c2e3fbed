/-
  The statements' own awake; the reference's Shares; ChoirShares.
-/

import Derived.Test.YtficlakgameglaaDoorChE
import Derived.Test.YtficlakgameglaaDoorQO
import Derived.Test.YtficlakgameglaaDoorStY
namespace Go.Proofs.YtficlakgameglaaDoor

open Go.RowKit

set_option linter.unusedVariables false

set_option linter.unusedSimpArgs false

set_option maxRecDepth 20000

/-- The states of awake. -/
def XCh : VState := { oState with f2 := 1 }

theorem bd_xCh (W : World) : (bdState #[(2, .int .u64 1)]).run Tryd.prog W = .ok (.agg (cel (sState XCh))) W := by kernel_rfl

theorem ok_xCh : OkState XCh := { ok_z15 with o2 := by show (0 : Int) ≤ 1 ∧ (1 : Int) < _; omega }

theorem in_xCh (w : World) : InW w XCh := ⟨.inl ⟨rfl, rfl, rfl⟩, .inl rfl, .inl rfl, .inl rfl, .inl ⟨rfl, rfl, rfl⟩, .inl ⟨rfl, rfl, rfl⟩, .inl rfl⟩

theorem nil_xCh : NilW XCh := ⟨fun _ => ⟨rfl, rfl⟩, fun _ => ⟨rfl, rfl⟩, fun _ => ⟨rfl, rfl⟩, fun _ => ⟨rfl, rfl⟩⟩

theorem right_xCh : rightB XCh = true := by kernel_rfl

theorem all_z (x : VState) (h : x.f11.n = 0) : allS x = 1000000000 := by
  have hl : acS x = [] := by unfold acS; rw [h]; rfl
  unfold allS
  rw [hl, h]
  rfl

theorem rut_z : IsRut 1000000000 31622 := ⟨by omega, by omega, by omega⟩

theorem pr_xCh : prE XCh = 7 := by
  have hL : acE XCh (XCh.f2 / 4) = [] := rfl
  unfold prE
  rw [hL]
  exact (dw_none (.inl rfl)).2

theorem cy_z (f : Nat → Int) : cyE oState oSyncAggregate 31622 f 0 = 20 ∧ cyK oState oSyncAggregate = 0 := by
  constructor
  · unfold cyE; rw [right_z]; rfl
  · unfold cyK; rw [right_z]; rfl

theorem cyB_z : cyB oSyncAggregate = false := by kernel_rfl

theorem cy_xCh (f : Nat → Int) : cyE XCh oSyncAggregate 31622 f 0 = 7 ∧ cyK XCh oSyncAggregate = 1 := by
  have h1 : ¬ XCh.f2 = 0 := by show ¬ (1 : Int) = 0; omega
  have hg : gdB (cyQ XCh oSyncAggregate) f 0 = true := rfl
  have hp : pdE XCh 31622 oSyncAggregate.f0 = 7 := by unfold pdE; rw [pr_xCh]; rfl
  constructor
  · unfold cyE
    rw [right_xCh, if_pos rfl, if_neg h1, cyB_z, if_neg (by decide), if_pos hg, hp]
  · unfold cyK
    rw [right_xCh, if_pos rfl, if_neg h1, cyB_z]
    rfl

theorem sh_z : shM oState 31622 = 1976 ∧ shQ oState 31622 = 282 := by
  have h : shM oState 31622 = 1976 := by unfold shM; rw [all_z oState rfl]; rfl
  exact ⟨h, by unfold shQ; rw [h]; rfl⟩

attribute [local go_sem ↓] lvState_eq svState_eq bdState_eq bdSyncAggregate_eq

set_option maxHeartbeats 4000000 in
theorem awake21 (w : World) (hS : Sh w) :
    Calls Tryd.prog 5 #[] w fun e' w' => e' = .returned (.bool true) ∧ Below w.heap.size w w' := by
  have hz : ∀ j, j < 96 → 0 ≤ oSyncAggregate.f1 j ∧ oSyncAggregate.f1 j < 256 := fun j _ => by show (0 : Int) ≤ 0 ∧ (0 : Int) < 256; omega
  have h1 : ∀ W, Up w W → Calls Tryd.prog 8 #[.agg (cel (sState oState)), .agg (cel (sSyncAggregate oSyncAggregate)), .slice none 0 0] W fun e' w' => ∃ (X : VState) (a : Option Addr) (c : Nat), e' = .returned (.tuple #[.agg (cel (sState X)), .slice a 0 c, .int .i64 20]) ∧ Below W.heap.size W w' := fun W h => by
    refine (csync_prog oState oSyncAggregate 31622 none 0 0 (fun _ => 0) W ok_z15 (inwO W) nilO lns_z hz (by rw [all_z oState rfl]; exact rut_z) (.inl ⟨rfl, rfl, rfl⟩) (by omega) (hS.below h)).mono ?_
    rintro e' w' ⟨X, a, c, he, _, _, _, hb⟩
    rw [(cy_z _).1, (cy_z fun _ => 0).2] at he
    exact ⟨X, a, c, he, hb⟩
  have h2 : ∀ W, Up w W → Calls Tryd.prog 8 #[.agg (cel (sState XCh)), .agg (cel (sSyncAggregate oSyncAggregate)), .slice none 0 0] W fun e' w' => ∃ (X : VState) (a : Option Addr) (c : Nat), e' = .returned (.tuple #[.agg (cel (sState X)), .slice a 1 c, .int .i64 7]) ∧ Below W.heap.size W w' := fun W h => by
    refine (csync_prog XCh oSyncAggregate 31622 none 0 0 (fun _ => 0) W ok_xCh (in_xCh W) nil_xCh lns_z hz (by rw [all_z XCh rfl]; exact rut_z) (.inl ⟨rfl, rfl, rfl⟩) (by omega) (hS.below h)).mono ?_
    rintro e' w' ⟨X, a, c, he, _, _, _, hb⟩
    rw [(cy_xCh _).1, (cy_xCh fun _ => 0).2] at he
    exact ⟨X, a, c, he, hb⟩
  have h3 : ∀ W, Calls Tryd.prog 6 #[.agg (cel (sState oState))] W fun e' w' => e' = .returned (.tuple #[.int .u64 1976, .int .u64 282]) ∧ Below W.heap.size W w' := fun W => by
    have := shares_prog oState 31622 W ok_z15 (inwO W) lns_z (by rw [all_z oState rfl]; exact rut_z)
    rw [right_z, if_pos rfl, if_pos rfl, sh_z.1, sh_z.2] at this
    exact this
  have b0 := bdState_0
  have b1 := bd_xCh
  have b2 := bdSyncAggregate_0
  have z := zeroState
  have H1 := hid h1
  have H2 := hid h2
  have H3 := hid h3
  clear h1 h2 h3 hz hS
  obtain ⟨xo, exo⟩ : ∃ s, oState = s := ⟨_, rfl⟩
  obtain ⟨xc, exc⟩ : ∃ s, XCh = s := ⟨_, rfl⟩
  obtain ⟨ag, eag⟩ : ∃ s, oSyncAggregate = s := ⟨_, rfl⟩
  rw [exo] at b0 z H1 H3
  rw [exc] at b1 H2
  rw [eag] at b2 H1 H2
  clear exc eag
  go_enter Tryd.func5, Tryd.ntmps5
  go_upto_region 2 with (go_at_call 8; refine (H1.out _ (Below.refl _ _)).mono ?_; rintro e' w1 ⟨X1, a1, c1, rfl, hb1⟩; have sv := svState_newv w1 xo X1)
  obtain ⟨V1, y1, hV1, ey1, r1, hd1, _⟩ := upN2 hb1 (.cells (cel (sState X1)) 49)
  rw [hV1]
  have HU1 := hid (upT hb1 hd1)
  clear hV1 ey1 r1 hd1 hb1 H1 sv
  go_upto_region 3 with (go_at_call 8; refine (H2.out _ HU1.out).mono ?_; rintro e' w2 ⟨X2, a2, c2, rfl, hb2⟩; have sv := svState_newv w2 xo X2)
  obtain ⟨V2, y2, hV2, ey2, r2, hd2, _⟩ := upN2 hb2 (.cells (cel (sState X2)) 49)
  rw [hV2]
  have HU2 := hid (upT HU1.out (upT hb2 hd2))
  clear hV2 ey2 r2 hd2 hb2 H2 sv
  go_wp2_with (go_at_call 6; refine (H3.out _).mono ?_; rintro e' w3 ⟨rfl, hb3⟩)
  go_ret
  exact ⟨rfl, upT HU2.out hb3⟩

set_option maxHeartbeats 4000000 in
theorem rshares_any (x : VState) (r : Int) (w : World) (hx : OkState x) (hw : InW w x) (hl : Lns x) (hr : IsRut (allS x) r) :
    Calls Tryd.prog 7 #[.agg (cel (sState x))] w fun e' w' => e' = .returned (.tuple #[.int .u64 (if rightB x = true then shM x r else 0), .int .u64 (if rightB x = true then shQ x r else 0)]) ∧ Below w.heap.size w w' := by
  obtain ⟨W0, hW0⟩ : ∃ W, w.alloc (.cells (cel (sState x)) 49) = W := ⟨_, rfl⟩
  have r0 : W0.heap[w.heap.size]? = some (.cells (cel (sState x)) 49) := by rw [← hW0]; exact heap_new rfl
  have hB0 : Up w W0 := by rw [← hW0]; exact (Below.refl _ _).alloc (Nat.le_refl _) _
  have hri := rright_any x W0 hx.r' (hw.below hB0).r' ⟨hx.o10.1, hx.o4.1.1, hx.o18.1.1, hx.o19.1.1, hx.o20.1.1⟩
  have lx := lvState_run r0
  have HW := hid hW0
  have HB := hid hB0
  cases hR : rightB x
  · rw [hR] at hri
    have HRI := hid hri
    clear hri hB0 hW0 r0 hx hw hl hr hR
    go_enter Tryd.func7, Tryd.ntmps7
    go_upto_region 1 with fail
    rw [HW.out]
    clear HW
    go_wp2_with (go_at_call 13; refine HRI.out.mono ?_; rintro e' w1 ⟨rfl, hu⟩)
    go_ret2
    exact ⟨rfl, upT HB.out hu⟩
  · rw [hR] at hri
    have hrg := (rightB_out hR).rg hx
    have hal := fun (W : World) (h : Up W0 W) => rall_any x W (hrg.lk (hw.below (upT hB0 h)))
    have hpe := fun (W : World) (h : Up W0 W) => rper_any x r W (hrg.lk (hw.below (upT hB0 h))) hr
    have hlx : ∀ W, Up W0 W → (lvState ⟨w.heap.size, 0, none⟩).run Tryd.prog W = .ok (.agg (cel (sState x))) W := fun W h => lvState_run (upR h r0)
    have hab := allS_bd x hrg.nb hrg.ef
    have hrp := root_pos hr hab.1
    have hsb := sh_base hab.1 hab.2 hrp
    have eM : shM x r = allS x / 1000000000 * (64000000000 / r) * 2 / 64 / 4 / 8 := rfl
    have eQ : shQ x r = shM x r * 8 / 56 := rfl
    simp only [if_true]
    generalize shQ x r = Q at *
    generalize shM x r = M at *
    generalize allS x = AL at *
    obtain ⟨P, eP⟩ : ∃ P, 64000000000 / r = P := ⟨_, rfl⟩
    rw [eP] at hsb eM
    simp only [eP] at hpe
    obtain ⟨B, eB⟩ : ∃ B, AL / 1000000000 * P = B := ⟨_, rfl⟩
    rw [eB] at hsb eM
    have a0 : AL.tdiv 1000000000 = AL / 1000000000 := Int.tdiv_eq_ediv_of_nonneg (by omega)
    have a1 : IntKind.u64.wrap (AL / 1000000000) = AL / 1000000000 := by rw [IntKind.wrap_u64]; omega
    have a2 : IntKind.u64.wrap (AL / 1000000000 * P) = B := by rw [eB, IntKind.wrap_u64]; omega
    have b1 : IntKind.u64.wrap (B * 2) = B * 2 := by rw [IntKind.wrap_u64]; omega
    have b2 : (B * 2).tdiv 64 = B * 2 / 64 := Int.tdiv_eq_ediv_of_nonneg (by omega)
    have b3 : IntKind.u64.wrap (B * 2 / 64) = B * 2 / 64 := by rw [IntKind.wrap_u64]; omega
    have b4 : (B * 2 / 64).tdiv 4 = B * 2 / 64 / 4 := Int.tdiv_eq_ediv_of_nonneg (by omega)
    have b5 : IntKind.u64.wrap (B * 2 / 64 / 4) = B * 2 / 64 / 4 := by rw [IntKind.wrap_u64]; omega
    have b6 : (B * 2 / 64 / 4).tdiv 8 = M := by rw [Int.tdiv_eq_ediv_of_nonneg (by omega), eM]
    have b7 : IntKind.u64.wrap M = M := by rw [IntKind.wrap_u64]; omega
    have m1 : IntKind.u64.wrap (M * 8) = M * 8 := by rw [IntKind.wrap_u64]; omega
    have m2 : (M * 8).tdiv 56 = Q := by rw [Int.tdiv_eq_ediv_of_nonneg (by omega), eQ]
    have m3 : IntKind.u64.wrap Q = Q := by rw [IntKind.wrap_u64]; omega
    have HAL0 := hid hal
    have HPE0 := hid hpe
    have HLX0 := hid hlx
    have HRI := hid hri
    clear hri hB0 hW0 r0 hx hw hl hr hal hpe hlx hR hab hrp hsb eM eQ eB eP hrg
    go_enter Tryd.func7, Tryd.ntmps7
    go_upto_region 1 with fail
    rw [HW.out]
    clear HW
    go_upto_region 3 with (go_at_call 13; refine HRI.out.mono ?_; rintro e' w1 ⟨rfl, hu⟩)
    have HU := hid (upT HB.out hu)
    have HLX := hid (fun W (h : Up w1 W) => HLX0.out W (upT hu h))
    have HAL := hid (fun W (h : Up w1 W) => HAL0.out W (upT hu h))
    have HPE := hid (fun W (h : Up w1 W) => HPE0.out W (upT hu h))
    clear hu HLX0 HAL0 HPE0 HRI lx
    refine wp_region_noPanic ?_
    refine wp_region_held_drew (S := fun W => Up w1 W) (by kernel_rfl) ((Below.refl _ _).drew) (fun hHeld => ?_)
    generalize w1.drew = wd at hHeld ⊢
    refine tk 0 (v := ?v701) ?y701 hHeld ?r701
    case y701 => intro w hSw; have ld0 := HLX.out w hSw; go_simp; try with_reducible rfl
    refine tk 3 (v := ?v702) ?y702 hHeld ?r702
    case y702 => intro w hSw; have ld0 := HLX.out w hSw; go_simp; try with_reducible rfl
    try simp only [Act.put, List.setIfInBounds_toArray, List.set_cons_zero, List.set_cons_succ, Array.toArray_toList, List.getElem_toArray, List.getElem_cons_zero, List.getElem_cons_succ]
    refine rd1 1 (fun K hK => ?_)
    go_simp
    refine (HAL.out _ hHeld).mono ?_
    rintro e' x1 ⟨rfl, hd1⟩
    dsimp only
    have hc1 := upT hHeld hd1
    refine hK.out _ _ hc1 (fun hHeld => ?_)
    clear hK K
    try simp only [Act.put, List.setIfInBounds_toArray, List.set_cons_zero, List.set_cons_succ, Array.toArray_toList, List.getElem_toArray, List.getElem_cons_zero, List.getElem_cons_succ]
    refine tk 2 (v := ?v703) ?y703 hHeld ?r703
    case y703 => intro w hSw; go_simp; try with_reducible rfl
    try simp only [Act.put, List.setIfInBounds_toArray, List.set_cons_zero, List.set_cons_succ, Array.toArray_toList, List.getElem_toArray, List.getElem_cons_zero, List.getElem_cons_succ]
    refine rd1 4 (fun K hK => ?_)
    go_simp
    refine (HPE.out _ hc1).mono ?_
    rintro e' x2 ⟨rfl, hd2⟩
    dsimp only
    have hc2 := upT hc1 hd2
    refine hK.out _ _ hc2 (fun hHeld => ?_)
    clear hK K
    try simp only [Act.put, List.setIfInBounds_toArray, List.set_cons_zero, List.set_cons_succ, Array.toArray_toList, List.getElem_toArray, List.getElem_cons_zero, List.getElem_cons_succ]
    refine tk 5 (v := ?v704) ?y704 hHeld ?r704
    case y704 => intro w hSw; go_simp; try with_reducible rfl
    refine tk 6 (v := ?v705) ?y705 hHeld ?r705
    case y705 => intro w hSw; go_simp; try with_reducible rfl
    try simp only [Act.put, List.setIfInBounds_toArray, List.set_cons_zero, List.set_cons_succ, Array.toArray_toList, List.getElem_toArray, List.getElem_cons_zero, List.getElem_cons_succ]
    refine wpAnyH_done (by kernel_rfl) ?_ _
    refine NoPanic.normal ?_
    have HU2 := hid hc2
    clear hd1 hc1 hd2 hc2 hHeld HAL HPE
    go_wp2
    go_ret2
    exact ⟨rfl, upT HU.out HU2.out⟩

set_option maxHeartbeats 4000000 in
theorem choirShares_law (x : VState) (w : World) (hx : OkState x) (hw : InW w x) (hl : Lns x) (hS : Sh w) :
    Calls Tryd.prog 3 #[.agg (cel (sState x))] w fun e' w' => e' = .returned (.bool true) ∧ Below w.heap.size w w' := by
  obtain ⟨W0, hW0⟩ : ∃ W, w.alloc (.cells (cel (sState x)) 49) = W := ⟨_, rfl⟩
  have r0 : W0.heap[w.heap.size]? = some (.cells (cel (sState x)) 49) := by rw [← hW0]; exact heap_new rfl
  have hB0 : Up w W0 := by rw [← hW0]; exact (Below.refl _ _).alloc (Nat.le_refl _) _
  have hlx : ∀ W, Up W0 W → (lvState ⟨w.heap.size, 0, none⟩).run Tryd.prog W = .ok (.agg (cel (sState x))) W := fun W h => lvState_run (upR h r0)
  have haw := awake21 W0 (hS.below hB0)
  obtain ⟨r, hr⟩ : ∃ r, rightB x = true → IsRut (allS x) r := by
    by_cases hR : rightB x = true
    · have hrg := (rightB_out hR).rg hx
      have hab := allS_bd x hrg.nb hrg.ef
      obtain ⟨r, hr⟩ := root_ex (allS x).toNat
      exact ⟨r, fun _ => by rw [Int.toNat_of_nonneg (by omega)] at hr; exact hr⟩
    · exact ⟨0, fun h => absurd h hR⟩
  obtain ⟨M, Q, hM, eQ, hp, hq⟩ : ∃ M Q : Int, (0 ≤ M ∧ M ≤ 4145152000) ∧ Q = M / 7 ∧ (∀ W, Up w W → Calls Tryd.prog 6 #[.agg (cel (sState x))] W fun e' w' => e' = .returned (.tuple #[.int .u64 M, .int .u64 Q]) ∧ Below W.heap.size W w') ∧ ∀ W, Up w W → Calls Tryd.prog 7 #[.agg (cel (sState x))] W fun e' w' => e' = .returned (.tuple #[.int .u64 M, .int .u64 Q]) ∧ Below W.heap.size W w' := by
    cases hR : rightB x
    · obtain ⟨r', hr'⟩ : ∃ r', IsRut (allS x) r' := by
        have h0 : 1000000000 ≤ allS x := by unfold allS lst; split <;> omega
        obtain ⟨r, hr⟩ := root_ex (allS x).toNat
        exact ⟨r, by rw [Int.toNat_of_nonneg (by omega)] at hr; exact hr⟩
      refine ⟨0, 0, by omega, by omega, fun W h => ?_, fun W h => ?_⟩
      · have := shares_prog x r' W hx (hw.below h) hl hr'
        rw [hR] at this
        exact this
      · have := rshares_any x r' W hx (hw.below h) hl hr'
        rw [hR] at this
        exact this
    · have hsb := sh_bd ((rightB_out hR).rg hx) (hr hR)
      refine ⟨shM x r, shQ x r, hsb.1, sh_seven _, fun W h => ?_, fun W h => ?_⟩
      · have := shares_prog x r W hx (hw.below h) hl (hr hR)
        rw [hR] at this
        exact this
      · have := rshares_any x r W hx (hw.below h) hl (hr hR)
        rw [hR] at this
        exact this
  have d1 : M.tdiv 7 = Q := by rw [Int.tdiv_eq_ediv_of_nonneg hM.1, eQ]
  have d2 : IntKind.u64.wrap Q = Q := by rw [IntKind.wrap_u64]; omega
  have HLX := hid hlx
  have HAW := hid haw
  have HP := hid (fun W (h : Up W0 W) => hp W (upT hB0 h))
  have HQ := hid (fun W (h : Up W0 W) => hq W (upT hB0 h))
  have HW := hid hW0
  have HB := hid hB0
  clear hlx haw hp hq hW0 hB0 r0 hx hw hl hS hr hM eQ
  go_enter Tryd.func3, Tryd.ntmps3
  go_upto_region 1 with fail
  rw [HW.out]
  clear HW
  go_upto_region 3 with (go_at_call 5; refine HAW.out.mono ?_; rintro e' w1 ⟨rfl, hb1⟩)
  have lx1 := HLX.out w1 hb1
  go_upto_region 4 with (go_at_call 6; refine (HP.out w1 hb1).mono ?_; rintro e' w2 ⟨rfl, hb2⟩)
  have hu2 := upT hb1 hb2
  have lx2 := HLX.out w2 hu2
  go_wp2_with (go_at_call 7; refine (HQ.out w2 hu2).mono ?_; rintro e' w3 ⟨rfl, hb3⟩)
  go_ret
  exact ⟨rfl, upT HB.out (upT hu2 hb3)⟩

end Go.Proofs.YtficlakgameglaaDoor
