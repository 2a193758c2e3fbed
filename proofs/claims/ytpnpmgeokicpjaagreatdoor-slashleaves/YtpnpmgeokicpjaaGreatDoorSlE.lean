/-
  The reference: who is slashed.
-/

import Derived.Test.YtpnpmgeokicpjaaGreatDoorSlD
import Derived.Test.YtpnpmgeokicpjaaGreatDoorPkD
import Derived.Test.YtpnpmgeokicpjaaGreatDoorLkM
import Derived.BigRegion

namespace Go.Proofs.YtpnpmgeokicpjaaGreatDoor

open Go.RowKit

set_option linter.unusedVariables false

set_option linter.unusedSimpArgs false

set_option maxRecDepth 20000

theorem ixU_u (w : World) (b off len cap i : Nat) (h : i < len) : (ixU (.slice (some ⟨b, off, none⟩) len cap) (.int .u64 i)).run Tryz.prog w = .ok (.pointer (some ⟨b, off + i, none⟩)) w := by
  unfold ixU Instr.indexAt
  have h1 : (0 : Int) ≤ (i : Int) ∧ (i : Int) < (len : Int) := by omega
  simp only [asIntOf, Sem.run_bind, Sem.run_pure, Result.andThen_ok, run_underlying Tryz.underlying37, if_pos h1, size_u64, Addr.add_mid, Int.toNat_natCast, Nat.mul_one]

theorem ixN_u (w : World) (b len cap i : Nat) (h : i < len) : (ixU (.slice (some ⟨b, 0, none⟩) len cap) (.int .u64 i)).run Tryz.prog w = .ok (.pointer (some ⟨b, i, none⟩)) w := by
  have := ixU_u w b 0 len cap i h
  rw [Nat.zero_add] at this
  exact this

/-- Where a state's balances lie. -/
structure Bl12 (y g : Nat) (W : World) (X : VState) : Prop where
  c12 : W.cell? ⟨y, 722, none⟩ = some (.slice (some ⟨g, 0, none⟩) X.f12.n X.f12.c)
  row : ∃ C, W.heap[g]? = some (.cells C 22)
  at_ : ∀ k, k < X.f12.n → W.cell? ⟨g, k, none⟩ = some (.int .u64 (X.f12.z k))

theorem BK.bl12 {w V : World} {y g : Nat} {X : VState} (h : BK w y V X) (hg : X.f12.a = some ⟨g, 0, none⟩) : Bl12 y g V X := by
  have c := cS12 h.row
  rw [hg] at c
  have o := h.cpd.o12
  rw [hg] at o
  refine ⟨c, (own_row o).2, fun k hk => ?_⟩
  rcases h.inW.i12 with h0 | ⟨b, off, ea, _, hr⟩
  · omega
  · rw [hg] at ea
    cases ea
    have := hr k hk
    rw [Nat.zero_add] at this
    exact this

theorem rows_nk {W : World} {y g : Nat} {C : Array Value} {X : VState} (h : W.heap[y]? = some (.cells (cel (sState X)) 49)) (hr : W.heap[g]? = some (.cells C 22)) : y ≠ g := fun e => by
  subst e
  rw [h] at hr
  injection hr with q
  injection q with _ q2
  exact absurd q2 (by decide)

attribute [local go_sem ↓] lvState_eq svState_eq bdState_eq lvValidator_eq svValidator_eq ixValidator_eq ixU_eq

set_option maxHeartbeats 4000000 in
theorem rtake_any (X : VState) (i y : Nat) (n : Int) (w V : World) (hb : BK w y V X) (hz : 0 ≤ X.f12.z i ∧ X.f12.z i < 18446744073709551616) (hi : i < X.f12.n) (h0 : 0 ≤ n) (h1 : n < 18446744073709551616) :
    Calls Tryz.prog 42 #[.pointer (some ⟨y, 0, none⟩), .int .u64 i, .int .u64 n] V fun e' V' => e' = .returned (.tuple #[]) ∧ BK w y V' (balS X i (lesV (X.f12.z i) n)) ∧ ∀ g, X.f12.a = some ⟨g, 0, none⟩ → Kept g V V' := by
  obtain ⟨g, hg⟩ := own_some hb.cpd.o12 (by omega)
  have hbl := hb.bl12 hg
  obtain ⟨C, hrow⟩ := hbl.row
  have hne := rows_nk hb.row hrow
  have hcg := hbl.at_ i hi
  have hlt : g < V.heap.size := some_ltK hrow
  have hc : ∀ W, Kept g V W → W.cell? ⟨y, 722, none⟩ = some (.slice (some ⟨g, 0, none⟩) X.f12.n X.f12.c) := fun W h => (h.cell (some_ltK hb.row) hne).trans hbl.c12
  have hix := fun W => ixN_u W g X.f12.n X.f12.c i hi
  have hle := fun W => rless_any (X.f12.z i) n W hz.1 hz.2 h0 h1
  have hB : ∀ T W, Up V W → BK w y (W.setCell ⟨g, i, none⟩ (.int .u64 T)) (balS X i T) := fun T W h => (hb.below h).bal T hg hi
  obtain ⟨B, eB⟩ : ∃ B, X.f12.z i = B := ⟨_, rfl⟩
  rw [eB] at hcg hle ⊢
  obtain ⟨T, eT⟩ : ∃ T, lesV B n = T := ⟨_, rfl⟩
  rw [eT] at hle ⊢
  have HB := hid (hB T)
  have HC := hid hc
  have HG := hid hcg
  have HIX := hid hix
  have HLE := hid hle
  have HLG := hid hlt
  have HGA := hid hg
  have HROW := hid hrow
  clear hb hbl hne hcg hlt hc hix hle hB eB eT hz hrow hg
  go_enter Tryz.func42, Tryz.ntmps42
  refine wp_region_noPanic ?_
  refine wp_region_held_drew (S := fun W => Kept g V W) (by kernel_rfl) ((Kept.refl _ _).drew) (fun hHeld => ?_)
  have hUd : Up V V.drew := (Below.refl _ _).drew
  generalize V.drew = wd at hHeld hUd ⊢
  refine tk 0 (v := ?v501) ?y501 hHeld ?r501
  case y501 => intro w hSw; go_simp; try with_reducible rfl
  refine tk 1 (v := ?v502) ?y502 hHeld ?r502
  case y502 => intro w hSw; go_simp; try with_reducible rfl
  refine tk 2 (v := ?v503) ?y503 hHeld ?r503
  case y503 => intro w hSw; go_simp; try with_reducible rfl
  refine tk 3 (v := ?v504) ?y504 hHeld ?r504
  case y504 => intro w hSw; have ld0 := HC.out w hSw; go_simp; try with_reducible rfl
  refine tk 4 (v := ?v505) ?y505 hHeld ?r505
  case y505 => intro w hSw; go_simp; try with_reducible rfl
  refine tk 5 (v := ?v506) ?y506 hHeld ?r506
  case y506 => intro w hSw; go_simp; try with_reducible rfl
  refine tk 6 (v := ?v507) ?y507 hHeld ?r507
  case y507 => intro w hSw; go_simp; try with_reducible rfl
  refine tk 7 (v := ?v508) ?y508 hHeld ?r508
  case y508 => intro w hSw; go_simp; try with_reducible rfl
  refine tk 8 (v := ?v509) ?y509 hHeld ?r509
  case y509 => intro w hSw; have ld0 := HC.out w hSw; go_simp; try with_reducible rfl
  refine tk 9 (v := ?v510) ?y510 hHeld ?r510
  case y510 => intro w hSw; go_simp; try with_reducible rfl
  refine tk 10 (v := ?v511) ?y511 hHeld ?r511
  case y511 => intro w hSw; have ld0 := HIX.out w; go_simp; try with_reducible rfl
  refine tk 12 (v := ?v512) ?y512 hHeld ?r512
  case y512 => intro w hSw; go_simp; try with_reducible rfl
  try simp only [Act.put, List.setIfInBounds_toArray, List.set_cons_zero, List.set_cons_succ, Array.toArray_toList, List.getElem_toArray, List.getElem_cons_zero, List.getElem_cons_succ]
  refine rd1 11 (fun K hK => ?_)
  have cg := (below_cell hUd HLG.out).trans HG.out
  go_simp
  refine hK.out _ _ hHeld (fun hHeld => ?_)
  clear hK K cg
  try simp only [Act.put, List.setIfInBounds_toArray, List.set_cons_zero, List.set_cons_succ, Array.toArray_toList, List.getElem_toArray, List.getElem_cons_zero, List.getElem_cons_succ]
  refine rd1 13 (fun K hK => ?_)
  go_simp
  refine (HLE.out wd).mono ?_
  rintro e' x1 ⟨rfl, hd1⟩
  obtain rfl := hd1
  dsimp only
  refine hK.out _ _ hHeld (fun hHeld => ?_)
  clear hK K
  try simp only [Act.put, List.setIfInBounds_toArray, List.set_cons_zero, List.set_cons_succ, Array.toArray_toList, List.getElem_toArray, List.getElem_cons_zero, List.getElem_cons_succ]
  refine tk 14 (v := ?v513) ?y513 hHeld ?r513
  case y513 => intro w hSw; have ld0 := HIX.out w; go_simp; try with_reducible rfl
  try simp only [Act.put, List.setIfInBounds_toArray, List.set_cons_zero, List.set_cons_succ, Array.toArray_toList, List.getElem_toArray, List.getElem_cons_zero, List.getElem_cons_succ]
  refine rd1 15 (fun K hK => ?_)
  have cg := (below_cell hUd HLG.out).trans HG.out
  have fg := row_frozen (upR hUd HROW.out) i
  go_simp
  have hce : Kept g V _ := hHeld.trans ((Kept.refl g x1).setCell i (.int .u64 T))
  refine hK.out _ _ hce (fun hHeld => ?_)
  clear hK K cg fg
  try simp only [Act.put, List.setIfInBounds_toArray, List.set_cons_zero, List.set_cons_succ, Array.toArray_toList, List.getElem_toArray, List.getElem_cons_zero, List.getElem_cons_succ]
  refine wpAnyH_done (by kernel_rfl) ?_ _
  refine NoPanic.normal ?_
  go_end0
  refine ⟨rfl, ?_, fun g' e => ?_⟩
  · exact HB.out _ hUd
  · rw [HGA.out] at e
    cases e
    exact hHeld

set_option maxHeartbeats 2000000 in
theorem rgive_any (X : VState) (i y : Nat) (n : Int) (w V : World) (hb : BK w y V X) (hi : i < X.f12.n) :
    Calls Tryz.prog 44 #[.pointer (some ⟨y, 0, none⟩), .int .u64 i, .int .u64 n] V fun e' V' => e' = .returned (.tuple #[]) ∧ BK w y V' (balS X i (w64 (X.f12.z i + n))) ∧ ∀ g, X.f12.a = some ⟨g, 0, none⟩ → Kept g V V' := by
  obtain ⟨g, hg⟩ := own_some hb.cpd.o12 (by omega)
  have hbl := hb.bl12 hg
  obtain ⟨C, hrow⟩ := hbl.row
  have c0 := hbl.c12
  have cg := hbl.at_ i hi
  have fg := row_frozen hrow i
  have hix := fun W => ixN_u W g X.f12.n X.f12.c i hi
  have HB := hid (hb.bal (w64 (X.f12.z i + n)) hg hi)
  have HGA := hid hg
  have kw : IntKind.u64.wrap (X.f12.z i + n) = w64 (X.f12.z i + n) := rfl
  clear hb hbl hrow hg
  go_enter Tryz.func44, Tryz.ntmps44
  go_wp2
  go_end0
  exact ⟨rfl, HB.out, fun g' e => by rw [HGA.out] at e; cases e; exact (Kept.refl g V).setCell _ _⟩

theorem BK.res {w V : World} {y : Nat} {Y : VState} (h : BK w y V Y) : Res w.heap.size V Y Y := ⟨.refl _, h.inW, h.cpd.nil, h.cpd.nw⟩

theorem svV_mid {w : World} {b : Nat} {C : Array Value} {t : TypeId} (h : w.heap[b]? = some (.cells C t)) (o : Nat) (v : VValidator) (hn : o + 86 ≤ C.size) : (svValidator ⟨b, o, none⟩ (.agg (cel (sValidator v)))).run Tryz.prog w = .ok () (w.setCells b o (celL (sValidator v))) :=
  run_storeVar_mid (P := Tryz.prog) w b o 60 (cel (sValidator v)) (by rw [cel_size]; exact there_row h o 86 hn) (by rw [cel_size]; kernel_rfl) (cel_one _)

theorem set_cel {w : World} {b p : Nat} {t : TypeId} {v v' : VValidator} {u : Value} (h : w.heap[b]? = some (.cells (cel (sValidator v)) t)) (e : (celL (sValidator v)).set p u = celL (sValidator v')) : (w.setCell ⟨b, p, none⟩ u).heap[b]? = some (.cells (cel (sValidator v')) t) := by
  rw [row_set h p u]
  unfold cel
  rw [List.setIfInBounds_toArray, e]

theorem own_len {w : World} {B k g n cap : Nat} {t : TypeId} {xs : List Value} (h : w.ownsRow B t k (.slice (some ⟨g, 0, none⟩) n cap) n xs) : ∃ C, w.heap[g]? = some (.cells C t) ∧ n * k ≤ C.size := by
  rcases h.2 with ⟨e, _⟩ | ⟨g', cap', cur, e, h1, h2, h3, h4, h5, h6⟩
  · cases e
  · cases e
    exact ⟨cur, h2, by rw [h5]; exact Nat.mul_le_mul_right _ h3⟩

set_option maxHeartbeats 8000000 in
theorem rslashing_any (X : VState) (i y : Nat) (w V : World) (hb : BK w y V X) (hR : Rg X) (hi : i < X.f11.n) (hC : Tab w 0 64 KW) (hyc : 0 ≠ y) :
    Calls Tryz.prog 21 #[.pointer (some ⟨y, 0, none⟩), .int .u64 i] V fun e' V' => e' = .returned (.int .i64 (slE X i)) ∧ BK w y V' (slS X i) := by
  have hep := repoch_any X V hR.ok.o2.1 hR.sl
  have ld := lvState_run hb.row
  have h2 := hR.ok.o2.1
  have h2' := hR.sl
  obtain ⟨E, eE⟩ : ∃ E, X.f2 / 4 = E := ⟨_, rfl⟩
  have hE0 : 0 ≤ E := by omega
  have hE1 : E < 274877906944 := by omega
  rw [eE] at hep
  have EE := hid eE
  have HEP := hid hep
  have HB := hid hb
  have HR := hid hR
  have HI := hid hi
  have HTC := hid hC
  have k8 : IntKind.u64.wrap (E + 8) = E + 8 := by rw [IntKind.wrap_u64]; omega
  clear hep hb hR hi hC eE h2 h2'
  go_enter Tryz.func21, Tryz.ntmps21
  go_upto_region 2 with (go_at_call 38; refine HEP.out.mono ?_; rintro e' w1 ⟨rfl, hb1⟩)
  have HLV := hid (rleaving_any X i y w w1 (HB.out.below hb1) HR.out HI.out)
  clear hb1 ld HB HEP
  go_upto_region 3 with (go_at_call 18; refine HLV.out.mono ?_; rintro e' w2 ⟨rfl, hb2⟩)
  clear HLV
  have hRY := HR.out.lv i
  have hiY : i < (lvS X i).f11.n := by rw [(lvS_o X i).2.2.1]; exact HI.out
  have hA : slA X i = valS (lvS X i) i (slV E) := by rw [← EE.out]; rfl
  obtain ⟨Y, eY⟩ : ∃ Y, lvS X i = Y := ⟨_, rfl⟩
  rw [eY] at hb2 hRY hiY hA
  obtain ⟨g, hg⟩ := own_some hb2.cpd.o11 (by omega)
  have hvl := hb2.vl hg
  have c0 := hvl.c11
  obtain ⟨v, ev⟩ : ∃ v, Y.f11.z i = v := ⟨_, rfl⟩
  have lv := lvValidator_at (hvl.at_ i hiY)
  rw [ev] at lv
  have ix := fun W => ixV_u W g Y.f11.n Y.f11.c i hiY
  obtain ⟨W3, hW3⟩ : ∃ W, w2.alloc (.cells (cel (sValidator v)) 60) = W := ⟨_, rfl⟩
  have sv := svValidator_newv w2 oValidator v
  rw [hW3] at sv
  have zv := zeroValidator
  have r3 : W3.heap[w2.heap.size]? = some (.cells (cel (sValidator v)) 60) := by rw [← hW3]; exact heap_new rfl
  have hU3 : Up w2 W3 := by rw [← hW3]; exact (Below.refl _ _).alloc (Nat.le_refl _) _
  obtain ⟨b, eb⟩ : ∃ b, w2.heap.size = b := ⟨_, rfl⟩
  rw [eb] at r3 sv
  have hbg : b ≠ g := by
    obtain ⟨C, hrc⟩ := hvl.row
    have := some_ltK hrc
    omega
  have HB2 := hid hb2
  have HG := hid hg
  have HRY := hid hRY
  have HIY := hid hiY
  have HA := hid hA
  have EV := hid ev
  have EB := hid eb
  have HU3 := hid hU3
  have R3 := hid r3
  have EY := hid eY
  have HIX := hid ix
  clear hb2 hRY hiY hA eY hg hvl ev hW3 r3 hU3
  go_upto_region 4 with fail
  clear sv lv c0 zv eb ix
  have c81 := seg_bo R3.out 3 v.f3 rfl 81 rfl
  have f81 := row_frozen R3.out 81
  have r4 := set_cel R3.out (val_put3 v true)
  have u4 : Up w2 (W3.setCell ⟨b, 81, none⟩ (.bool true)) := HU3.out.trans (((Kept.refl b W3).setCell 81 (.bool true)).below (Nat.le_of_eq EB.out) HU3.out.size)
  have R4 := hid r4
  have U4 := hid u4
  clear r4 u4
  go_upto_region 5 with fail
  obtain ⟨W4, hW4⟩ : ∃ W, W3.setCell ⟨b, 81, none⟩ (.bool true) = W := ⟨_, rfl⟩
  rw [hW4] at R4 U4 ⊢
  clear hW4 c81 f81 R3 HU3
  obtain ⟨F, eF⟩ : ∃ F, v.f2 = F := ⟨_, rfl⟩
  have hsl : (slV E v).f2 = F := eF
  have hF0 := (HRY.out.ef i HIY.out)
  rw [EV.out, eF] at hF0
  have HF := hid hF0
  have HSL := hid hsl
  have EFF : Hid (effS X i = F) := by unfold Hid effS; rw [← eF, ← EV.out, ← EY.out, eff_lvS]
  have c85 := seg_nu R4.out 7 v.f7 rfl 85 rfl
  have f85 := row_frozen R4.out 85
  have hvd : slV E v = { v with f3 := true, f7 := if v.f7 < E + 8 then E + 8 else v.f7 } := rfl
  have HVD := hid hvd
  clear hF0 hsl hvd eF
  obtain ⟨f7, e7⟩ : ∃ f, v.f7 = f := ⟨_, rfl⟩
  rw [e7] at c85 HVD
  go_upto_if 28 with fail
  go_cut [] from 9 (fun wx => wx.heap[b]? = some (.cells (cel (sValidator (slV E v))) 60) ∧ Up w2 wx)
  case first =>
    by_cases hq : f7 < E + 8
    · have r5 := set_cel (v := { v with f3 := true }) R4.out (val_put7 _ (E + 8))
      have hv5 := HVD.out
      rw [if_pos hq] at hv5
      have u5 : Up w2 (W4.setCell ⟨b, 85, none⟩ (.int .u64 (E + 8))) := U4.out.trans (((Kept.refl b W4).setCell 85 (.int .u64 (E + 8))).below (Nat.le_of_eq EB.out) U4.out.size)
      have R5 := hid r5
      have U5 := hid u5
      have HV5 := hid hv5
      clear r5 u5 hv5
      go_wp2
      go_meet
      exact ⟨by rw [HV5.out]; exact R5.out, U5.out⟩
    · have hv5 := HVD.out
      rw [if_neg hq, ← e7] at hv5
      have HV5 := hid hv5
      clear hv5
      go_wp2
      go_meet
      exact ⟨by rw [HV5.out]; exact R4.out, U4.out⟩
  case rest =>
    obtain ⟨r6, u6⟩ := hcut
    clear c85 f85 R4 U4 HVD
    obtain ⟨v6, e6⟩ : ∃ u, slV E v = u := ⟨_, rfl⟩
    rw [e6] at r6 HSL
    have hb6 := (HB2.out.below u6).drew
    have r6d : wc.drew.heap[b]? = some (.cells (cel (sValidator v6)) 60) := r6
    have c0 := ((HB2.out.below u6).vl HG.out).c11
    have hv6 := hb6.vl HG.out
    have lv := lvValidator_row r6d
    have o6 := hb6.cpd.o11
    rw [HG.out] at o6
    obtain ⟨C6, hr6, hs6⟩ := own_len o6
    have sv := svV_mid hr6 (86 * i) v6 (by have : i * 86 + 86 ≤ Y.f11.n * 86 := by (rw [← Nat.succ_mul]; exact Nat.mul_le_mul_right _ HIY.out)
                                           omega)
    have ix := HIX.out
    have hb7 := hb6.valW v6 HG.out HIY.out
    have eA7 : valS Y i (fun _ => v6) = slA X i := by rw [HA.out, ← e6, ← EV.out]; rfl
    rw [eA7] at hb7
    have r7 := ((setCells_kept (celL (sValidator v6)) (86 * i) (Kept.refl g wc.drew)).block b (some_ltK r6d) hbg).trans r6d
    have HB7 := hid hb7
    have R7 := hid r7
    clear hb6 hv6 o6 hr6 hs6 hb7 r7 r6 r6d u6 eA7 e6
    go_upto_region 7 with fail
    go_region
    obtain ⟨W7, hW7⟩ : ∃ W, wc.drew.setCells g (86 * i) (celL (sValidator v6)) = W := ⟨_, rfl⟩
    replace HB7 : Hid (BK w y W7 (slA X i)) := by rw [← hW7]; exact HB7.out
    replace R7 : Hid (W7.heap[b]? = some (.cells (cel (sValidator v6)) 60)) := by rw [← hW7]; exact R7.out
    rw [hW7]
    clear hW7 sv lv c0 ix HB2 HG HIX
    obtain ⟨J, hJ, eJ⟩ : ∃ J : Nat, J < 8 ∧ E % 8 = (J : Int) := ⟨(E % 8).toNat, by omega, by omega⟩
    have hBd : slB X i = s14 (slA X i) J (w64 ((slA X i).f14 J + F)) := by
      have : (X.f2 / 4 % 8).toNat = J := by rw [EE.out, eJ]; rfl
      unfold slB
      rw [this, EFF.out]
    have c14 := cS14 HB7.out.row J hJ
    have f14 := row_frozen HB7.out.row (979 + J)
    have c80 := seg_nu R7.out 2 v6.f2 rfl 80 rfl
    rw [HSL.out] at c80
    have j1 : (J : Int) < 8 := by omega
    have j0 : (0 : Int) ≤ (J : Int) := by omega
    obtain ⟨S, eS⟩ : ∃ S, (slA X i).f14 J = S := ⟨_, rfl⟩
    rw [eS] at c14 hBd
    have kw : IntKind.u64.wrap (S + F) = w64 (S + F) := rfl
    have hb8 := HB7.out.sla (w64 (S + F)) hJ
    rw [← hBd] at hb8
    have hby : b ≠ y := rows_ne R7.out HB7.out.row (by decide)
    have HB8 := hid hb8
    have R8 := hid ((heap_set_other (i := 979 + J) (v := .int .u64 (w64 (S + F))) hby).trans R7.out)
    clear hb8 eS hBd
    go_upto_region 8 with fail
    go_region
    obtain ⟨W8, hW8⟩ : ∃ W, (W7.setCell ⟨y, 979 + J, none⟩ (.int .u64 (w64 (S + F)))).drew = W := ⟨_, rfl⟩
    replace HB8 : Hid (BK w y W8 (slB X i)) := by rw [← hW8]; exact HB8.out.drew
    replace R8 : Hid (W8.heap[b]? = some (.cells (cel (sValidator v6)) 60)) := by rw [← hW8]; exact R8.out
    rw [hW8]
    clear hW8 c14 f14 c80 j0 j1 kw eJ HB7 R7
    have hRB := HR.out.b i
    have hi12 : i < (slB X i).f12.n := by
      have e1 := hRB.ln
      have e2 : (slB X i).f11.n = X.f11.n := (slA_o X i).2.2.1
      have := HI.out
      omega
    have c80 := seg_nu R8.out 2 v6.f2 rfl 80 rfl
    rw [HSL.out] at c80
    have f0 := HF.out.1
    have f1 := HF.out.2
    have kt : F.tdiv 64 = F / 64 := Int.tdiv_eq_ediv_of_nonneg f0
    have kq : IntKind.u64.wrap (F / 64) = F / 64 := by rw [IntKind.wrap_u64]; omega
    have hta := rtake_any (slB X i) i y (F / 64) w W8 HB8.out (hRB.ok.o12 i hi12) hi12 (by omega) (by omega)
    have hCd : slC X i = balS (slB X i) i (lesV ((slB X i).f12.z i) (F / 64)) := by unfold slC; rw [EFF.out]
    rw [← hCd] at hta
    obtain ⟨g2, hg2⟩ := own_some HB8.out.cpd.o12 (by omega)
    obtain ⟨C2, hr2⟩ := (HB8.out.bl12 hg2).row
    have hb2 : b ≠ g2 := rows_ne R8.out hr2 (by decide)
    have HTA := hid hta
    have HG2 := hid hg2
    clear hta hg2 hr2 hCd
    go_upto_region 10 with (go_at_call 42; refine HTA.out.mono ?_; rintro e' w9 ⟨rfl, hb9, hk9⟩)
    have r9 := ((hk9 g2 HG2.out).block b (some_ltK R8.out) hb2).trans R8.out
    have ld := lvState_run hb9.row
    have hRC := HR.out.c i HI.out
    have hpr := rprop_any (slC X i) w9 hRC.ok (hRC.lk hb9.inW) (hb9.kep.tab HTC.out hyc)
    have hSE : slE X i = prE (slC X i) := rfl
    have hSS : slS X i = if prE (slC X i) = 0 then balS (slC X i) (prV (slC X i)).toNat (w64 ((slC X i).f12.z (prV (slC X i)).toNat + F / 512)) else slC X i := by unfold slS slE slP; rw [EFF.out]
    have hin : prE (slC X i) = 0 → ∃ p : Nat, prV (slC X i) = (p : Int) ∧ p < (slC X i).f12.n := fun h => by
      obtain ⟨p, h1, h2⟩ := pr_in h
      exact ⟨p, h1, by have := hRC.ln; omega⟩
    obtain ⟨PE, ePE⟩ : ∃ e, prE (slC X i) = e := ⟨_, rfl⟩
    obtain ⟨PV, ePV⟩ : ∃ e, prV (slC X i) = e := ⟨_, rfl⟩
    rw [ePE] at hSE hSS hin
    rw [ePV] at hSS hin
    rw [ePE, ePV] at hpr
    have HPR := hid hpr
    have HSE := hid hSE
    have HSS := hid hSS
    have HIN := hid hin
    have HB9 := hid hb9
    have R9 := hid r9
    clear hpr hSE hSS hin hb9 hk9 r9 HTA HB8 R8 c80 kt kq ePE ePV hRC hRB
    go_upto_region 11 with (go_at_call 43; refine HPR.out.mono ?_; rintro e' w10 ⟨rfl, hb10⟩)
    have HB10 := hid (HB9.out.below hb10)
    have r10 := upR hb10 R9.out
    have c80 := seg_nu r10 2 v6.f2 rfl 80 rfl
    rw [HSL.out] at c80
    clear hb10 HB9 R9 ld HPR r10
    by_cases hp : PE = 0
    · subst hp
      obtain ⟨p, rfl, hp12⟩ := HIN.out rfl
      have kt : F.tdiv 512 = F / 512 := Int.tdiv_eq_ediv_of_nonneg f0
      have kq : IntKind.u64.wrap (F / 512) = F / 512 := by rw [IntKind.wrap_u64]; omega
      have hgi := rgive_any (slC X i) p y (F / 512) w w10 HB10.out hp12
      have HGI := hid hgi
      clear hgi hp12
      go_upto_region 14 with (go_at_call 44; refine HGI.out.mono ?_; rintro e' w11 ⟨rfl, hb11, hk11⟩)
      have HB11 := hid hb11
      clear hb11 hk11
      go_wp2
      go_ret
      refine ⟨ret_int HSE.out.symm, ?_⟩
      rw [HSS.out]
      simp only [if_true]
      exact HB11.out
    · have hp2 : (PE != 0) = true := by simp [hp]
      go_wp2
      go_ret
      refine ⟨ret_int HSE.out.symm, ?_⟩
      rw [HSS.out, if_neg hp]
      exact HB10.out

end Go.Proofs.YtpnpmgeokicpjaaGreatDoor
