/-
  The program's side of package slash: who is slashed.
-/

import Derived.Test.YtlplmdhlelgihaaGreatDoorSlP
import Derived.Test.YtlplmdhlelgihaaGreatDoorSlF
import Derived.Test.YtlplmdhlelgihaaGreatDoorQO
import Derived.Test.YtlplmdhlelgihaaGreatDoorPkS
namespace Go.Proofs.YtlplmdhlelgihaaGreatDoor

open Go.RowKit

set_option linter.unusedVariables false

set_option linter.unusedSimpArgs false

set_option maxRecDepth 20000

theorem valS_congr (X : VState) (i : Nat) (f g : VValidator → VValidator) (h : f (X.f11.z i) = g (X.f11.z i)) : valS X i f = valS X i g := by
  unfold valS
  rw [h]

theorem sloS_cor (i p : Nat) (x : VState) : cor (sloS x i p) = cor (sloS (cor x) i p) := by
  have h := slC_cor i x
  unfold sloS
  rw [balS_cor, h, ← balS_cor, f12_cor h]
  rfl

theorem sloS_sim {x X : VState} (i p : Nat) (h : SimF x X) : SimF (sloS x i p) (sloS X i p) := sim_by (F := fun x => sloS x i p) (sloS_cor i p) h

attribute [local go_sem ↓] lvState_eq svState_eq bdState_eq lvValidator_eq svValidator_eq ixValidator_eq ixU_eq

set_option maxHeartbeats 8000000 in
theorem slashOne_any (X : VState) (i p y : Nat) (w V : World) (hb : BK w y V X) (hR : Rg X) (hi : i < X.f11.n) (hp : p < X.f11.n) :
    Calls Tryz.prog 30 #[.pointer (some ⟨y, 0, none⟩), .int .u64 i, .int .u64 p] V fun e' V' => e' = .returned (.tuple #[]) ∧ BK w y V' (sloS X i p) := by
  have hll := letLeave_any X i y w V hb hR hi
  have h2 := hR.ok.o2.1
  have h2' := hR.sl
  have hRY := hR.lv i
  have hiY : i < (lvS X i).f11.n := by rw [(lvS_o X i).2.2.1]; exact hi
  have hA : slA X i = valS (lvS X i) i (slV (X.f2 / 4)) := rfl
  have hY2 := (lvS_o X i).1
  have hef : effS X i = ((lvS X i).f11.z i).f2 := by unfold effS; rw [eff_lvS]
  obtain ⟨Y, eY⟩ : ∃ Y, lvS X i = Y := ⟨_, rfl⟩
  rw [eY] at hll hRY hiY hA hY2 hef
  have hep := fun W => epoS_any Y W hRY.ok.o2.1 hRY.sl
  rw [hY2] at hep
  have hEI : (X.f2 / 4 % 8).toNat = (X.f2 / 4 % 8).toNat := rfl
  obtain ⟨E, eE⟩ : ∃ E, X.f2 / 4 = E := ⟨_, rfl⟩
  have hE0 : 0 ≤ E := by omega
  have hE1 : E < 274877906944 := by omega
  rw [eE] at hep hA
  have EE := hid eE
  have HEP := hid hep
  have HLL := hid hll
  have HR := hid hR
  have HRY := hid hRY
  have HI := hid hi
  have HIY := hid hiY
  have HP := hid hp
  have HA := hid hA
  have HEF0 := hid hef
  have k8 : IntKind.u64.wrap (E + 8) = E + 8 := by rw [IntKind.wrap_u64]; omega
  clear hep hb hR hi hp eE h2 h2' hll hRY hiY hA hY2 hef hEI
  go_enter Tryz.func30, Tryz.ntmps30
  go_upto_region 1 with (go_at_call 20; refine HLL.out.mono ?_; rintro e' w1 ⟨rfl, hb1⟩)
  have ld := lvState_run hb1.row
  have HB1 := hid hb1
  clear hb1 HLL
  go_upto_region 2 with (go_at_call 16; refine (HEP.out _).mono ?_; rintro e' w2 ⟨rfl, hb2⟩)
  have hb2' := HB1.out.below hb2
  obtain ⟨g, hg⟩ := own_some hb2'.cpd.o11 (by have := HIY.out; omega)
  have hvl := hb2'.vl hg
  have c0 := hvl.c11
  have ix := fun W => ixV_u W g Y.f11.n Y.f11.c i HIY.out
  have c81 := val_e3 (hvl.at_ i HIY.out)
  obtain ⟨RC, hRC⟩ := hvl.row
  have f81 := row_frozen hRC (86 * i + 81)
  have hb3 := hb2'.val (fun v => { v with f3 := true }) (.bool true) (val_put3 _ _) (by omega) hg HIY.out
  have HB3 := hid hb3
  have HG := hid hg
  clear hb2 hb2' hvl hRC hb3 hg HB1 ld HEP
  go_upto_region 3 with fail
  clear c0 ix
  go_upto_region 4 with fail
  obtain ⟨W3, hW3⟩ : ∃ W, w2.setCell ⟨g, 86 * i + 81, none⟩ (.bool true) = W := ⟨_, rfl⟩
  rw [hW3] at HB3 ⊢
  clear hW3 c81 f81
  have hi3 : i < (valS Y i fun v => { v with f3 := true }).f11.n := HIY.out
  have hv3 := HB3.out.vl HG.out
  have e7 := val_e7 (hv3.at_ i hi3)
  rw [valS_at] at e7
  obtain ⟨RC, hRC⟩ := hv3.row
  have f7 := row_frozen hRC (86 * i + 85)
  have hF7 := ((HRY.out.ok.o11 i HIY.out).2.2.2.2.2.2.2)
  obtain ⟨F7, eF7⟩ : ∃ F, (Y.f11.z i).f7 = F := ⟨_, rfl⟩
  rw [eF7] at hF7
  have e7' : W3.cell? ⟨g, 86 * i + 85, none⟩ = some (.int .u64 F7) := by rw [← eF7]; exact e7
  have hb4 : ∀ M, M = (if F7 < E + 8 then E + 8 else F7) → BK w y (W3.setCell ⟨g, 86 * i + 85, none⟩ (.int .u64 M)) (slA X i) := fun M hM => by
    have := HB3.out.val (fun v => { v with f7 := M }) (.int .u64 M) (val_put7 _ _) (by omega) HG.out hi3
    rw [valS_valS] at this
    rw [HA.out, valS_congr Y i (slV E) (fun v => { v with f3 := true, f7 := M }) (by rw [hM, ← eF7]; rfl)]
    exact this
  have HB4 := hid hb4
  clear e7 hv3 hRC hb4 HB3 hi3 eF7
  go_cut [6] from 8 (fun u wx => u = .int .u64 E ∧ BK w y wx (slA X i))
  case first =>
    by_cases hq : F7 < E + 8
    · have hm : max F7 (E + 8) = E + 8 := by omega
      have hq2 : F7 ≤ E + 8 := by omega
      have HB5 := hid (HB4.out (E + 8) (by rw [if_pos hq]))
      clear HB4
      go_wp2
      all_goals go_meet
      exact ⟨rfl, HB5.out⟩
    · have hm : max F7 (E + 8) = F7 := by omega
      have hq2 : E + 8 ≤ F7 := by omega
      have HB5 := hid (HB4.out F7 (by rw [if_neg hq]))
      clear HB4
      go_wp2
      all_goals go_meet
      exact ⟨rfl, HB5.out⟩
  case rest =>
    obtain ⟨rfl, hb5⟩ := hcut
    clear HB4 e7' f7 hF7 k8
    obtain ⟨W5, eW5⟩ : ∃ W, wc = W := ⟨_, rfl⟩
    rw [eW5] at hb5 ⊢
    clear eW5
    have hRA := HR.out.a i
    have hiA : i < (slA X i).f11.n := by rw [(slA_o X i).2.2.1]; exact HI.out
    have hgA : (slA X i).f11.a = some ⟨g, 0, none⟩ := by rw [HA.out]; exact HG.out
    obtain ⟨J, hJ, eJ⟩ : ∃ J : Nat, J < 8 ∧ E % 8 = (J : Int) := ⟨(E % 8).toNat, by omega, by omega⟩
    obtain ⟨F, eF⟩ : ∃ F, effS X i = F := ⟨_, rfl⟩
    have hBd : slB X i = s14 (slA X i) J (w64 ((slA X i).f14 J + F)) := by
      have : (X.f2 / 4 % 8).toNat = J := by rw [EE.out, eJ]; rfl
      unfold slB
      rw [this, eF]
    have hCd : slC X i = balS (slB X i) i (lesV ((slB X i).f12.z i) (F / 64)) := by unfold slC; rw [eF]
    have hOd : sloS X i p = balS (slC X i) p (w64 ((slC X i).f12.z p + F / 512)) := by unfold sloS; rw [eF]
    have hF := HR.out.ef i HI.out
    rw [show (X.f11.z i).f2 = F from eF] at hF
    obtain ⟨f0, f1⟩ := hF
    have hF80 : ∀ W, BK w y W (slA X i) → W.cell? ⟨g, 86 * i + 80, none⟩ = some (.int .u64 F) := fun W h => by
      have := val_eff ((h.vl hgA).at_ i hiA)
      rw [eff_slA] at this
      rw [← eF]
      exact this
    have c14 := cS14 hb5.row J hJ
    have f14 := row_frozen hb5.row (979 + J)
    have c80 := hF80 _ hb5
    have j1 : (J : Int) < 8 := by omega
    have j0 : (0 : Int) ≤ (J : Int) := by omega
    obtain ⟨S, eS⟩ : ∃ S, (slA X i).f14 J = S := ⟨_, rfl⟩
    rw [eS] at c14 hBd
    have kw : IntKind.u64.wrap (S + F) = w64 (S + F) := rfl
    have hb6 := hb5.sla (w64 (S + F)) hJ
    rw [← hBd] at hb6
    have HB6 := hid hb6
    have HCd := hid hCd
    have HOd := hid hOd
    have hgB : (slB X i).f11.a = some ⟨g, 0, none⟩ := hgA
    have hiB : i < (slB X i).f11.n := hiA
    have hefB : ((slB X i).f11.z i).f2 = F := by
      show ((slA X i).f11.z i).f2 = F
      rw [eff_slA]
      exact eF
    have HGB := hid hgB
    have HIB := hid hiB
    have HEB := hid hefB
    have EFF := hid eF
    clear hb6 eS hBd hCd hOd hb5 hF80 hgA hiA hgB hiB hefB eF HA HEF0 HRY HIY HG
    go_upto_region 5 with fail
    go_region
    obtain ⟨W6, hW6⟩ : ∃ W, (W5.setCell ⟨y, 979 + J, none⟩ (.int .u64 (w64 (S + F)))).drew = W := ⟨_, rfl⟩
    replace HB6 : Hid (BK w y W6 (slB X i)) := by rw [← hW6]; exact HB6.out.drew
    rw [hW6]
    clear hW6 c14 f14 c80 j0 j1 kw eJ
    have hRB := HR.out.b i
    have hi12 : i < (slB X i).f12.n := by have := hRB.ln; have := HIB.out; omega
    obtain ⟨g2, hg2⟩ := own_some HB6.out.cpd.o12 (by omega)
    have hbl := HB6.out.bl12 hg2
    obtain ⟨C2, hr2⟩ := hbl.row
    have hvl := HB6.out.vl HGB.out
    obtain ⟨C3, hr3⟩ := hvl.row
    have hne := rows_ne HB6.out.row hr2 (by decide)
    have hne2 := rows_ne hr3 hr2 (by decide)
    have hcg := hbl.at_ i hi12
    have hlt : g2 < W6.heap.size := some_ltK hr2
    have hc : ∀ W, Kept g2 W6 W → W.cell? ⟨y, 722, none⟩ = some (.slice (some ⟨g2, 0, none⟩) (slB X i).f12.n (slB X i).f12.c) := fun W h => (h.cell (some_ltK HB6.out.row) hne).trans hbl.c12
    have hef : ∀ W, Kept g2 W6 W → W.cell? ⟨g, 86 * i + 80, none⟩ = some (.int .u64 F) := fun W h => (h.cell (some_ltK hr3) hne2).trans ((val_eff (hvl.at_ i HIB.out)).trans (by rw [HEB.out]))
    have hix := fun W => ixN_u W g2 (slB X i).f12.n (slB X i).f12.c i hi12
    have hz := hRB.ok.o12 i hi12
    have kt : F.tdiv 64 = F / 64 := Int.tdiv_eq_ediv_of_nonneg f0
    have kq : IntKind.u64.wrap (F / 64) = F / 64 := by rw [IntKind.wrap_u64]; omega
    have hle := fun W => lessR_any ((slB X i).f12.z i) (F / 64) W hz.1 hz.2 (by omega) (by omega)
    have hB : ∀ T W, Up W6 W → BK w y (W.setCell ⟨g2, i, none⟩ (.int .u64 T)) (balS (slB X i) i T) := fun T W h => (HB6.out.below h).bal T hg2 hi12
    have hCd := HCd.out
    obtain ⟨B, eB⟩ : ∃ B, (slB X i).f12.z i = B := ⟨_, rfl⟩
    rw [eB] at hcg hle hCd
    obtain ⟨T, eT⟩ : ∃ T, lesV B (F / 64) = T := ⟨_, rfl⟩
    rw [eT] at hle hCd
    have hb7 := hB T
    rw [← hCd] at hb7
    have HB7 := hid hb7
    have HC := hid hc
    have HEF := hid hef
    have HG := hid hcg
    have HIX := hid hix
    have HLE := hid hle
    have HLG := hid hlt
    have HROW := hid hr2
    have HG2 := hid hg2
    clear hb7 hB hc hef hcg hix hle hlt hr2 hg2 hbl hvl hr3 hne hne2 hz hCd HCd eB eT hRB HEB HIB
    go_upto_region 6 with fail
    refine wp_region_noPanic ?_
    refine wp_region_held_drew (S := fun W => Kept g2 W6 W) (by kernel_rfl) ((Kept.refl _ _).drew) (fun hHeld => ?_)
    have hUd : Up W6 W6.drew := (Below.refl _ _).drew
    generalize W6.drew = wd at hHeld hUd ⊢
    refine tk 0 (v := ?v601) ?y601 hHeld ?r601
    case y601 => intro w hSw; go_simp; try with_reducible rfl
    refine tk 1 (v := ?v602) ?y602 hHeld ?r602
    case y602 => intro w hSw; go_simp; try with_reducible rfl
    refine tk 2 (v := ?v603) ?y603 hHeld ?r603
    case y603 => intro w hSw; go_simp; try with_reducible rfl
    refine tk 3 (v := ?v604) ?y604 hHeld ?r604
    case y604 => intro w hSw; have ld0 := HC.out w hSw; go_simp; try with_reducible rfl
    refine tk 4 (v := ?v605) ?y605 hHeld ?r605
    case y605 => intro w hSw; go_simp; try with_reducible rfl
    refine tk 5 (v := ?v606) ?y606 hHeld ?r606
    case y606 => intro w hSw; go_simp; try with_reducible rfl
    refine tk 6 (v := ?v607) ?y607 hHeld ?r607
    case y607 => intro w hSw; go_simp; try with_reducible rfl
    refine tk 7 (v := ?v608) ?y608 hHeld ?r608
    case y608 => intro w hSw; go_simp; try with_reducible rfl
    refine tk 8 (v := ?v609) ?y609 hHeld ?r609
    case y609 => intro w hSw; have ld0 := HC.out w hSw; go_simp; try with_reducible rfl
    refine tk 9 (v := ?v610) ?y610 hHeld ?r610
    case y610 => intro w hSw; go_simp; try with_reducible rfl
    refine tk 10 (v := ?v611) ?y611 hHeld ?r611
    case y611 => intro w hSw; have ld0 := HIX.out w; go_simp; try with_reducible rfl
    refine tk 12 (v := ?v612) ?y612 hHeld ?r612
    case y612 => intro w hSw; go_simp; try with_reducible rfl
    refine tk 13 (v := ?v613) ?y613 hHeld ?r613
    case y613 => intro w hSw; go_simp; try with_reducible rfl
    refine tk 14 (v := ?v614) ?y614 hHeld ?r614
    case y614 => intro w hSw; go_simp; try with_reducible rfl
    refine tk 15 (v := ?v615) ?y615 hHeld ?r615
    case y615 => intro w hSw; have ld0 := HEF.out w hSw; go_simp; try with_reducible rfl
    refine tk 16 (v := ?v616) ?y616 hHeld ?r616
    case y616 => intro w hSw; go_simp; try with_reducible rfl
    try simp only [Act.put, List.setIfInBounds_toArray, List.set_cons_zero, List.set_cons_succ, Array.toArray_toList, List.getElem_toArray, List.getElem_cons_zero, List.getElem_cons_succ]
    refine rd1 11 (fun K hK => ?_)
    have cg := (below_cell hUd HLG.out).trans HG.out
    go_simp
    refine hK.out _ _ hHeld (fun hHeld => ?_)
    clear hK K cg
    try simp only [Act.put, List.setIfInBounds_toArray, List.set_cons_zero, List.set_cons_succ, Array.toArray_toList, List.getElem_toArray, List.getElem_cons_zero, List.getElem_cons_succ]
    refine rd1 17 (fun K hK => ?_)
    go_simp
    refine (HLE.out wd).mono ?_
    rintro e' x1 ⟨rfl, hd1⟩
    obtain rfl := hd1
    dsimp only
    refine hK.out _ _ hHeld (fun hHeld => ?_)
    clear hK K
    try simp only [Act.put, List.setIfInBounds_toArray, List.set_cons_zero, List.set_cons_succ, Array.toArray_toList, List.getElem_toArray, List.getElem_cons_zero, List.getElem_cons_succ]
    refine tk 18 (v := ?v617) ?y617 hHeld ?r617
    case y617 => intro w hSw; have ld0 := HIX.out w; go_simp; try with_reducible rfl
    try simp only [Act.put, List.setIfInBounds_toArray, List.set_cons_zero, List.set_cons_succ, Array.toArray_toList, List.getElem_toArray, List.getElem_cons_zero, List.getElem_cons_succ]
    refine rd1 19 (fun K hK => ?_)
    have cg := (below_cell hUd HLG.out).trans HG.out
    have fg := row_frozen (upR hUd HROW.out) i
    go_simp
    have hce : Kept g2 W6 _ := hHeld.trans ((Kept.refl g2 x1).setCell i (.int .u64 T))
    refine hK.out _ _ hce (fun hHeld => ?_)
    clear hK K cg fg
    try simp only [Act.put, List.setIfInBounds_toArray, List.set_cons_zero, List.set_cons_succ, Array.toArray_toList, List.getElem_toArray, List.getElem_cons_zero, List.getElem_cons_succ]
    refine wpAnyH_done (by kernel_rfl) ?_ _
    refine NoPanic.normal ?_
    have hb7 := HB7.out _ hUd
    obtain ⟨W7, hW7⟩ : ∃ W, x1.setCell ⟨g2, i, none⟩ (.int .u64 T) = W := ⟨_, rfl⟩
    rw [hW7] at hb7 ⊢
    have hef7 := HEF.out
    clear hW7 HC HG HIX HLE HLG HROW HB7 kt kq hHeld hUd hef7 HEF
    have hgC : (slC X i).f11.a = some ⟨g, 0, none⟩ := HGB.out
    have hgC2 : (slC X i).f12.a = some ⟨g2, 0, none⟩ := HG2.out
    have hiC : i < (slC X i).f11.n := by show i < (slA X i).f11.n; rw [(slA_o X i).2.2.1]; exact HI.out
    have hpC : p < (slC X i).f12.n := by
      have e1 := (HR.out.c i HI.out).ln
      have e2 : (slC X i).f11.n = X.f11.n := (slA_o X i).2.2.1
      have := HP.out
      omega
    have hbl := hb7.bl12 hgC2
    obtain ⟨C2, hr2⟩ := hbl.row
    have c12 := hbl.c12
    have cp := hbl.at_ p hpC
    have fp := row_frozen hr2 p
    have ix := fun W => ixN_u W g2 (slC X i).f12.n (slC X i).f12.c p hpC
    have ce := val_eff ((hb7.vl hgC).at_ i hiC)
    rw [show ((slC X i).f11.z i).f2 = ((slA X i).f11.z i).f2 from rfl, eff_slA, show (X.f11.z i).f2 = effS X i from rfl, EFF.out] at ce
    have kt : F.tdiv 512 = F / 512 := Int.tdiv_eq_ediv_of_nonneg f0
    have kq : IntKind.u64.wrap (F / 512) = F / 512 := by rw [IntKind.wrap_u64]; omega
    have hb8 := hb7.bal (w64 ((slC X i).f12.z p + F / 512)) hgC2 hpC
    rw [← HOd.out] at hb8
    have kw : IntKind.u64.wrap ((slC X i).f12.z p + F / 512) = w64 ((slC X i).f12.z p + F / 512) := rfl
    have HB8 := hid hb8
    clear hb8 hb7 hbl hr2 HOd HGB HB6 HG2
    go_upto_region 7 with fail
    go_region
    go_end0
    exact ⟨rfl, HB8.out.drew⟩

end Go.Proofs.YtlplmdhlelgihaaGreatDoor
