/-
  What the document's Flags answers.
-/

import Derived.Test.YtmbgidfngefniaaVtB
import Derived.Test.YtmbgidfngefniaaLkM
import Derived.Test.YtmbgidfngefniaaStY
namespace Go.Proofs.Ytmbgidfngefniaa

open Go.RowKit

set_option linter.unusedVariables false

set_option linter.unusedSimpArgs false

set_option maxRecDepth 20000

attribute [local go_sem ↓] lvState_eq svState_eq bdState_eq sv24_eq lv24_eq lvData_eq lvCheckpoint_eq svK_eq lvF_eq svF_eq bdF_eq neoK_eq eqo_eq

set_option maxHeartbeats 8000000 in
theorem rtime_any (x : VState) (d : VData) (w : World) (hx : OkState x) (hk : Lk w x) (hd : OkData d) :
    Calls Try.prog 13 #[.agg (cel (sState x)), .agg (cel (sData d))] w fun e' w' => e' = .returned (.int .i64 (tmE x d)) ∧ Below w.heap.size w w' := by
  obtain ⟨W0, hW0, r0, r1, hB0, _⟩ := two_blocks x d w
  have hs := hk.sl.2
  have h67 : ∀ W, Up W0 W → W.cell? ⟨w.heap.size + 1, 67, none⟩ = some (.int .u64 d.f4.f0) := fun W h => dC67 (upR h r1)
  have h0 : ∀ W, Up W0 W → W.cell? ⟨w.heap.size + 1, 0, none⟩ = some (.int .u64 d.f0) := fun W h => dC0 (upR h r1)
  have h2 : ∀ W, Up W0 W → W.cell? ⟨w.heap.size, 33, none⟩ = some (.int .u64 x.f2) := fun W h => cS2 (upR h r0)
  have hlx : ∀ W, Up W0 W → (lvState ⟨w.heap.size, 0, none⟩).run Try.prog W = .ok (.agg (cel (sState x))) W := fun W h => lvState_run (upR h r0)
  have hep := fun W : World => repoch_any x W hx.o2.1 hs
  have hbe := fun (W : World) (h : Up W0 W) => rbefore_any x W (hk.below (upT hB0 h))
  have hp := hx.o2
  have hq := hd.1
  have hE : tmE x d = if (d.f4.f0 = x.f2 / 4 ∨ d.f4.f0 = lesV (x.f2 / 4) 1) ∧ d.f4.f0 = d.f0 / 4 then (if d.f0 < x.f2 ∧ x.f2 - d.f0 ≤ 4 then 0 else 31) else 29 := rfl
  generalize tmE x d = R at *
  obtain ⟨Q, hQ⟩ : ∃ Q, d.f0 / 4 = Q := ⟨_, rfl⟩
  have q1 : d.f0.tdiv 4 = Q := by rw [Int.tdiv_eq_ediv_of_nonneg hq.1]; exact hQ
  have q3 : IntKind.u64.wrap Q = Q := by rw [IntKind.wrap_u64]; omega
  have q4 := hq.1
  rw [hQ] at hE
  generalize lesV (x.f2 / 4) 1 = P at *
  generalize x.f2 / 4 = E at *
  generalize d.f4.f0 = T at *
  generalize d.f0 = S at *
  generalize x.f2 = p at *
  have HB := hid hB0
  have HW := hid hW0
  have H67 := hid h67
  have H0 := hid h0
  have H2 := hid h2
  have HLX := hid hlx
  have HEP := hid hep
  have HBE := hid hbe
  have lx := hlx W0 (Below.refl _ _)
  have l67 := h67 W0 (Below.refl _ _)
  clear hB0 hW0 r0 r1 h67 h0 h2 hlx hep hbe hx hd hs hk
  by_cases hT : T = E
  · subst hT
    by_cases hq4 : T = Q
    · subst hq4
      by_cases h1 : p ≤ S
      · have HR := hid (show R = 31 by rw [hE, if_pos ⟨Or.inl rfl, rfl⟩, if_neg (by omega)])
        clear hE hp hq
        go_enter Try.func13, Try.ntmps13
        go_upto_region 1 with fail
        rw [HW.out]
        clear HW
        go_upto_region 2 with fail
        go_wp2_with (go_at_call 27; refine (HEP.out W0).mono ?_; rintro e' w1 ⟨rfl, hb1⟩; have HU := hid hb1; clear hb1; have l0 := H0.out w1 HU.out; have l2 := H2.out w1 HU.out)
        go_ret
        exact ⟨ret_int HR.out.symm, upT HB.out HU.out⟩
      · have h1z : ¬ p ≤ S := h1
        have ws : IntKind.u64.wrap (p - S) = p - S := by rw [IntKind.wrap_u64]; omega
        by_cases h2 : 4 < p - S
        · have HR := hid (show R = 31 by rw [hE, if_pos ⟨Or.inl rfl, rfl⟩, if_neg (by omega)])
          clear hE hp hq
          go_enter Try.func13, Try.ntmps13
          go_upto_region 1 with fail
          rw [HW.out]
          clear HW
          go_upto_region 2 with fail
          go_wp2_with (go_at_call 27; refine (HEP.out W0).mono ?_; rintro e' w1 ⟨rfl, hb1⟩; have HU := hid hb1; clear hb1; have l0 := H0.out w1 HU.out; have l2 := H2.out w1 HU.out)
          go_ret
          exact ⟨ret_int HR.out.symm, upT HB.out HU.out⟩
        · have HR := hid (show R = 0 by rw [hE, if_pos ⟨Or.inl rfl, rfl⟩, if_pos (by omega)])
          clear hE hp hq
          go_enter Try.func13, Try.ntmps13
          go_upto_region 1 with fail
          rw [HW.out]
          clear HW
          go_upto_region 2 with fail
          go_wp2_with (go_at_call 27; refine (HEP.out W0).mono ?_; rintro e' w1 ⟨rfl, hb1⟩; have HU := hid hb1; clear hb1; have l0 := H0.out w1 HU.out; have l2 := H2.out w1 HU.out)
          go_ret
          exact ⟨ret_int HR.out.symm, upT HB.out HU.out⟩
    · have HR := hid (show R = 29 by rw [hE, if_neg (fun h => hq4 h.2)])
      have hq5 : (T != Q) = true := by simp [hq4]
      clear hE hp hq
      go_enter Try.func13, Try.ntmps13
      go_upto_region 1 with fail
      rw [HW.out]
      clear HW
      go_upto_region 2 with fail
      go_wp2_with (go_at_call 27; refine (HEP.out W0).mono ?_; rintro e' w1 ⟨rfl, hb1⟩; have HU := hid hb1; clear hb1; have l0 := H0.out w1 HU.out; have l2 := H2.out w1 HU.out)
      go_ret
      exact ⟨ret_int HR.out.symm, upT HB.out HU.out⟩
  · by_cases hT3 : T = P
    · have hT1 : (T == E) = false := by simp [hT]
      have hT2 : (T != E) = true := by simp [hT]
      subst hT3
      by_cases hq4 : T = Q
      · subst hq4
        by_cases h1 : p ≤ S
        · have HR := hid (show R = 31 by rw [hE, if_pos ⟨Or.inr rfl, rfl⟩, if_neg (by omega)])
          clear hE hp hq
          go_enter Try.func13, Try.ntmps13
          go_upto_region 1 with fail
          rw [HW.out]
          clear HW
          go_upto_region 2 with fail
          go_wp2_with (first
            | (go_at_call 28; refine (HBE.out w1 HU.out).mono ?_; rintro e' w2 ⟨rfl, hb2⟩; have HU2 := hid (upT HU.out hb2); clear hb2; have l0 := H0.out w2 HU2.out; have l2 := H2.out w2 HU2.out)
            | (go_at_call 27; refine (HEP.out W0).mono ?_; rintro e' w1 ⟨rfl, hb1⟩; have HU := hid hb1; clear hb1; have lx := HLX.out w1 HU.out))
          go_ret
          exact ⟨ret_int HR.out.symm, upT HB.out HU2.out⟩
        · have h1z : ¬ p ≤ S := h1
          have ws : IntKind.u64.wrap (p - S) = p - S := by rw [IntKind.wrap_u64]; omega
          by_cases h2 : 4 < p - S
          · have HR := hid (show R = 31 by rw [hE, if_pos ⟨Or.inr rfl, rfl⟩, if_neg (by omega)])
            clear hE hp hq
            go_enter Try.func13, Try.ntmps13
            go_upto_region 1 with fail
            rw [HW.out]
            clear HW
            go_upto_region 2 with fail
            go_wp2_with (first
              | (go_at_call 28; refine (HBE.out w1 HU.out).mono ?_; rintro e' w2 ⟨rfl, hb2⟩; have HU2 := hid (upT HU.out hb2); clear hb2; have l0 := H0.out w2 HU2.out; have l2 := H2.out w2 HU2.out)
              | (go_at_call 27; refine (HEP.out W0).mono ?_; rintro e' w1 ⟨rfl, hb1⟩; have HU := hid hb1; clear hb1; have lx := HLX.out w1 HU.out))
            go_ret
            exact ⟨ret_int HR.out.symm, upT HB.out HU2.out⟩
          · have HR := hid (show R = 0 by rw [hE, if_pos ⟨Or.inr rfl, rfl⟩, if_pos (by omega)])
            clear hE hp hq
            go_enter Try.func13, Try.ntmps13
            go_upto_region 1 with fail
            rw [HW.out]
            clear HW
            go_upto_region 2 with fail
            go_wp2_with (first
              | (go_at_call 28; refine (HBE.out w1 HU.out).mono ?_; rintro e' w2 ⟨rfl, hb2⟩; have HU2 := hid (upT HU.out hb2); clear hb2; have l0 := H0.out w2 HU2.out; have l2 := H2.out w2 HU2.out)
              | (go_at_call 27; refine (HEP.out W0).mono ?_; rintro e' w1 ⟨rfl, hb1⟩; have HU := hid hb1; clear hb1; have lx := HLX.out w1 HU.out))
            go_ret
            exact ⟨ret_int HR.out.symm, upT HB.out HU2.out⟩
      · have HR := hid (show R = 29 by rw [hE, if_neg (fun h => hq4 h.2)])
        have hq5 : (T != Q) = true := by simp [hq4]
        clear hE hp hq
        go_enter Try.func13, Try.ntmps13
        go_upto_region 1 with fail
        rw [HW.out]
        clear HW
        go_upto_region 2 with fail
        go_wp2_with (first
          | (go_at_call 28; refine (HBE.out w1 HU.out).mono ?_; rintro e' w2 ⟨rfl, hb2⟩; have HU2 := hid (upT HU.out hb2); clear hb2; have l0 := H0.out w2 HU2.out; have l2 := H2.out w2 HU2.out)
          | (go_at_call 27; refine (HEP.out W0).mono ?_; rintro e' w1 ⟨rfl, hb1⟩; have HU := hid hb1; clear hb1; have lx := HLX.out w1 HU.out))
        go_ret
        exact ⟨ret_int HR.out.symm, upT HB.out HU2.out⟩
    · have hT1 : (T != E) = true := by simp [hT]
      have hT4 : (T != P) = true := by simp [hT3]
      have HR := hid (show R = 29 by rw [hE, if_neg (fun h => h.1.elim hT hT3)])
      clear hE hp hq
      go_enter Try.func13, Try.ntmps13
      go_upto_region 1 with fail
      rw [HW.out]
      clear HW
      go_upto_region 2 with fail
      go_wp2_with (first
        | (go_at_call 28; refine (HBE.out w1 HU.out).mono ?_; rintro e' w2 ⟨rfl, hb2⟩; have HU2 := hid (upT HU.out hb2); clear hb2; have l0 := H0.out w2 HU2.out; have l2 := H2.out w2 HU2.out)
        | (go_at_call 27; refine (HEP.out W0).mono ?_; rintro e' w1 ⟨rfl, hb1⟩; have HU := hid hb1; clear hb1; have lx := HLX.out w1 HU.out))
      go_ret
      exact ⟨ret_int HR.out.symm, upT HB.out HU2.out⟩

set_option maxHeartbeats 8000000 in
theorem rflg_any (x : VState) (d : VData) (w : World) (hx : OkState x) (hs : x.f2 < 1099511627776) (hd : OkData d) (ht : tmE x d = 0) :
    Calls Try.prog 14 #[.agg (cel (sState x)), .agg (cel (sData d))] w fun e' w' => e' = .returned (.tuple #[.agg (if eqK d.f3 (soV x d.f4.f0) = true then woV x d else b3 false false false), .int .i64 (if eqK d.f3 (soV x d.f4.f0) = true then 0 else 33)]) ∧ Below w.heap.size w w' := by
  obtain ⟨V0, hV0, q0, q1, hB0, zV⟩ := two_blocks x d w
  obtain ⟨X0, hX0⟩ : ∃ W, V0.alloc (.cells (b3 false false false) 53) = W := ⟨_, rfl⟩
  have hB1 : Up V0 X0 := by rw [← hX0]; exact (Below.refl _ _).alloc (Nat.le_refl _) _
  obtain ⟨W0, hW0⟩ : ∃ W, X0.alloc (.cells (cel (sCheckpoint x.f18)) 42) = W := ⟨_, rfl⟩
  have hB2 : Up X0 W0 := by rw [← hW0]; exact (Below.refl _ _).alloc (Nat.le_refl _) _
  have zX : X0.heap.size = w.heap.size + 3 := by rw [← hX0]; simp; omega
  have p1 := upR hB1 q0
  have r0 := upR hB2 (upR hB1 q0)
  have r1 := upR hB2 (upR hB1 q1)
  have r2 : W0.heap[w.heap.size + 2]? = some (.cells (b3 false false false) 53) := upR hB2 (by rw [← hX0]; exact heap_new (by omega))
  have r3 : W0.heap[w.heap.size + 3]? = some (.cells (cel (sCheckpoint x.f18)) 42) := by rw [← hW0]; exact heap_new (by omega)
  obtain ⟨t1, t2, t3⟩ := tmE_ok ht
  have p0 := hx.o2.1
  have s0 := hd.1.1
  obtain ⟨D, hD⟩ : ∃ D, x.f2 - d.f0 = D := ⟨_, rfl⟩
  have hDw : IntKind.u64.wrap D = D := by rw [IntKind.wrap_u64]; omega
  have h67 : ∀ W, Up X0 W → W.cell? ⟨w.heap.size + 1, 67, none⟩ = some (.int .u64 d.f4.f0) := fun W h => dC67 (upR h (upR hB1 q1))
  have h0 : ∀ W, Up X0 W → W.cell? ⟨w.heap.size + 1, 0, none⟩ = some (.int .u64 d.f0) := fun W h => dC0 (upR h (upR hB1 q1))
  have hs2 : ∀ W, Up X0 W → W.cell? ⟨w.heap.size, 33, none⟩ = some (.int .u64 x.f2) := fun W h => cS2 (upR h p1)
  have h2 : ∀ W, Up X0 W → (lv24 ⟨w.heap.size + 1, 2, none⟩).run Try.prog W = .ok (.agg (vs .u8 32 d.f2)) W := fun W h => dR2 (upR h (upR hB1 q1))
  have h68 : ∀ W, Up X0 W → (lv24 ⟨w.heap.size + 1, 68, none⟩).run Try.prog W = .ok (.agg (vs .u8 32 d.f4.f1)) W := fun W h => dR68 (upR h (upR hB1 q1))
  have hlx : ∀ W, Up X0 W → (lvState ⟨w.heap.size, 0, none⟩).run Try.prog W = .ok (.agg (cel (sState x))) W := fun W h => lvState_run (upR h p1)
  have hl3 : ∀ W, Up X0 W → (lvCheckpoint ⟨w.heap.size + 1, 34, none⟩).run Try.prog W = .ok (.agg (cel (sCheckpoint d.f3))) W := fun W h => dK3 (upR h (upR hB1 q1))
  have hl19 : ∀ W, Up X0 W → (lvCheckpoint ⟨w.heap.size, 1026, none⟩).run Try.prog W = .ok (.agg (cel (sCheckpoint x.f19))) W := fun W h => lS19 (upR h p1)
  have hep := fun W : World => repoch_any x W hx.o2.1 hs
  have hr1 : ∀ W, Up X0 W → _ := fun W (_ : Up X0 W) => rrootat_any x (d.f4.f0 * 4) W hx (by omega)
  have hr2 : ∀ W, Up X0 W → _ := fun W (_ : Up X0 W) => rrootat_any x d.f0 W hx s0
  have hnk := fun W : World => neoK_run W d.f3 (soV x d.f4.f0) hd.2.2.2.1 (soV_ok hx d.f4.f0)
  have hsv : soV x d.f4.f0 = if d.f4.f0 = x.f2 / 4 then x.f19 else x.f18 := rfl
  obtain ⟨M, hM⟩ : ∃ M, d.f4.f0 * 4 = M := ⟨_, rfl⟩
  have hMw : IntKind.u64.wrap M = M := by rw [IntKind.wrap_u64]; omega
  have hwo : woV x d = b3 (decide (D ≤ 2)) (eqR d.f4.f1 (rtV x M)) (eqR d.f4.f1 (rtV x M) && (eqR d.f2 (rtV x d.f0) && decide (D = 1))) := by unfold woV wo0 wo2 wo1; rw [hD, hM]
  rw [hM] at hr1
  obtain ⟨SV, eSV⟩ : ∃ s, soV x d.f4.f0 = s := ⟨_, rfl⟩
  obtain ⟨KB, eKB⟩ : ∃ s, eqK d.f3 SV = s := ⟨_, rfl⟩
  rw [eSV] at hsv ⊢
  rw [eSV, eKB] at hnk
  rw [eKB]
  have l18 := lS18 p1
  have kv := svK_newv X0 oK x.f18
  have k19 := fun (W : World) (h : W.heap[w.heap.size + 3]? = some (.cells (cel (sCheckpoint x.f18)) 42)) => svK_run h x.f19
  generalize x.f18 = K18 at *
  generalize x.f19 = K19 at *
  generalize woV x d = WV at *
  generalize rtV x M = RA at *
  generalize rtE x M = EA at *
  generalize rtV x d.f0 = RB at *
  generalize rtE x d.f0 = EB at *
  generalize x.f2 / 4 = E at *
  obtain ⟨RC, eRC⟩ : ∃ r, d.f4.f1 = r := ⟨_, rfl⟩
  obtain ⟨RD, eRD⟩ : ∃ r, d.f2 = r := ⟨_, rfl⟩
  obtain ⟨T, eT⟩ : ∃ r, d.f4.f0 = r := ⟨_, rfl⟩
  obtain ⟨DK, eDK⟩ : ∃ r, d.f3 = r := ⟨_, rfl⟩
  obtain ⟨S, eS⟩ : ∃ r, d.f0 = r := ⟨_, rfl⟩
  obtain ⟨p, ep⟩ : ∃ r, x.f2 = r := ⟨_, rfl⟩
  rw [eRC, eRD] at hwo
  rw [eRC] at h68
  rw [eRD] at h2
  rw [eT] at hM hsv
  simp only [eT] at h67
  simp only [eDK] at hl3 hnk
  simp only [eS] at h0 hr2
  simp only [ep] at hs2
  rw [eS, ep] at hD
  have qa := fun W => eqo_run W RC RA
  have qb := fun W => eqo_run W RD RB
  generalize eqR RC RA = BA at *
  generalize eqR RD RB = BB at *
  have HB := hid (upT hB0 hB1)
  have HV0 := hid hV0
  have HX0 := hid hX0
  have HW0 := hid hW0
  have HB2 := hid hB2
  have ZX := hid zX
  have H67 := hid h67
  have H0 := hid h0
  have HS2 := hid hs2
  have H2 := hid h2
  have H68 := hid h68
  have HLX := hid hlx
  have HL3 := hid hl3
  have HL19 := hid hl19
  have HEP := hid hep
  have HR1 := hid hr1
  have HR2 := hid hr2
  have HNK := hid hnk
  have K9 := hid k19
  have HSV := hid hsv
  have R2 := hid r2
  have R3 := hid r3
  have HWO := hid hwo
  clear hB0 hB1 hB2 hV0 hX0 hW0 q0 q1 p1 r0 r1 r2 r3 h67 h0 hs2 h2 h68 hlx hl3 hl19 hep hr1 hr2 hnk k19 hsv hwo hx hs hd ht t1 t2 t3 p0 s0 eRC eRD eT eDK eS ep eSV eKB zV zX
  have zf := zeroF
  have zr := zero_root
  have zk := zeroK
  by_cases hT : T = E
  · subst hT
    cases KB
    · go_enter Try.func14, Try.ntmps14
      go_upto_region 1 with fail
      rw [HV0.out, HX0.out]
      clear HX0 HV0 zf
      have zx := ZX.out
      rw [zx] at kv
      go_upto_region 2 with fail
      rw [HW0.out]
      clear HW0 zk kv l18 zx
      refine wp_region_noPanic ?_
      refine wp_region_held_drew (S := fun W => Up W0 W) (by kernel_rfl) ((Below.refl W0.heap.size W0).drew) (fun hHeld => ?_)
      refine tk 0 (v := ?v701) ?y701 hHeld ?r701
      case y701 => intro w hSw; go_simp; try with_reducible rfl
      refine tk 1 (v := ?v702) ?y702 hHeld ?r702
      case y702 => intro w hSw; go_simp; try with_reducible rfl
      refine tk 2 (v := ?v703) ?y703 hHeld ?r703
      case y703 => intro w hSw; have ld0 := H67.out _ (upT HB2.out hSw); go_simp; try with_reducible rfl
      refine tk 3 (v := ?v704) ?y704 hHeld ?r704
      case y704 => intro w hSw; have ld0 := HLX.out _ (upT HB2.out hSw); go_simp; try with_reducible rfl
      try simp only [Act.put, List.setIfInBounds_toArray, List.set_cons_zero, List.set_cons_succ, Array.toArray_toList, List.getElem_toArray, List.getElem_cons_zero, List.getElem_cons_succ]
      refine wpAnyH_ready (rs := [4]) (by kernel_rfl) (by simp) ?_
      refine AllReadyH.cons rfl (fun K hK => ?_) AllReadyH.nil
      go_simp
      refine (HEP.out _).mono ?_
      rintro e' v0 ⟨rfl, hb0⟩
      dsimp only
      refine hK.out _ _ (upT hHeld hb0) (fun hHeld => ?_)
      clear hK K
      try simp only [Act.put, List.setIfInBounds_toArray, List.set_cons_zero, List.set_cons_succ, Array.toArray_toList, List.getElem_toArray, List.getElem_cons_zero, List.getElem_cons_succ]
      refine tk 5 (v := ?v705) ?y705 hHeld ?r705
      case y705 => intro w hSw; go_simp; try with_reducible rfl
      try simp only [Act.put, List.setIfInBounds_toArray, List.set_cons_zero, List.set_cons_succ, Array.toArray_toList, List.getElem_toArray, List.getElem_cons_zero, List.getElem_cons_succ]
      refine wpAnyH_done (by kernel_rfl) ?_ _
      refine NoPanic.normal ?_
      have hw0 : Up W0 v0 := hHeld
      clear hHeld hb0
      have l19 := HL19.out v0 (upT HB2.out hw0)
      have ks := K9.out v0 (upR hw0 R3.out)
      go_upto_region 4 with fail
      obtain ⟨Z0, hZ0⟩ : ∃ W, v0.setRow (w.heap.size + 3) (cel (sCheckpoint K19)) = W := ⟨_, rfl⟩
      rw [hZ0]
      have z3 : Z0.heap[w.heap.size + 3]? = some (.cells (cel (sCheckpoint K19)) 42) := by rw [← hZ0]; exact setRow_at (upR hw0 R3.out)
      have z2 : Z0.heap[w.heap.size + 2]? = some (.cells (b3 false false false) 53) := by rw [← hZ0, setRow_other (by omega)]; exact upR hw0 R2.out
      have HU0 := hid (show Up X0 Z0 from by rw [← hZ0]; exact below_row (upT HB2.out hw0) (by rw [ZX.out]; omega) _)
      have Z2 := hid z2
      have lk := lvK_row z3
      clear hZ0 z3 z2 hw0 ks l19
      obtain rfl : SV = K19 := by rw [HSV.out, if_pos rfl]
      have l3 := HL3.out Z0 HU0.out
      have nk := HNK.out Z0
      clear HNK K9 HB2 ZX HSV R2 R3 HL19 HEP
      have bz := bdF_0
      have sv := svF_run Z2.out false false false
      go_wp2
      exact retFs 4 5 (w.heap.size + 2) _ _ _ 53 (.int .i64 33) rfl rfl rfl rfl (setRow_at Z2.out) ⟨rfl, below_row (upT HB.out HU0.out) (by omega) _⟩
    · cases BA
      · go_enter Try.func14, Try.ntmps14
        go_upto_region 1 with fail
        rw [HV0.out, HX0.out]
        clear HX0 HV0 zf
        have zx := ZX.out
        rw [zx] at kv
        go_upto_region 2 with fail
        rw [HW0.out]
        clear HW0 zk kv l18 zx
        refine wp_region_noPanic ?_
        refine wp_region_held_drew (S := fun W => Up W0 W) (by kernel_rfl) ((Below.refl W0.heap.size W0).drew) (fun hHeld => ?_)
        refine tk 0 (v := ?v706) ?y706 hHeld ?r706
        case y706 => intro w hSw; go_simp; try with_reducible rfl
        refine tk 1 (v := ?v707) ?y707 hHeld ?r707
        case y707 => intro w hSw; go_simp; try with_reducible rfl
        refine tk 2 (v := ?v708) ?y708 hHeld ?r708
        case y708 => intro w hSw; have ld0 := H67.out _ (upT HB2.out hSw); go_simp; try with_reducible rfl
        refine tk 3 (v := ?v709) ?y709 hHeld ?r709
        case y709 => intro w hSw; have ld0 := HLX.out _ (upT HB2.out hSw); go_simp; try with_reducible rfl
        try simp only [Act.put, List.setIfInBounds_toArray, List.set_cons_zero, List.set_cons_succ, Array.toArray_toList, List.getElem_toArray, List.getElem_cons_zero, List.getElem_cons_succ]
        refine wpAnyH_ready (rs := [4]) (by kernel_rfl) (by simp) ?_
        refine AllReadyH.cons rfl (fun K hK => ?_) AllReadyH.nil
        go_simp
        refine (HEP.out _).mono ?_
        rintro e' v0 ⟨rfl, hb0⟩
        dsimp only
        refine hK.out _ _ (upT hHeld hb0) (fun hHeld => ?_)
        clear hK K
        try simp only [Act.put, List.setIfInBounds_toArray, List.set_cons_zero, List.set_cons_succ, Array.toArray_toList, List.getElem_toArray, List.getElem_cons_zero, List.getElem_cons_succ]
        refine tk 5 (v := ?v710) ?y710 hHeld ?r710
        case y710 => intro w hSw; go_simp; try with_reducible rfl
        try simp only [Act.put, List.setIfInBounds_toArray, List.set_cons_zero, List.set_cons_succ, Array.toArray_toList, List.getElem_toArray, List.getElem_cons_zero, List.getElem_cons_succ]
        refine wpAnyH_done (by kernel_rfl) ?_ _
        refine NoPanic.normal ?_
        have hw0 : Up W0 v0 := hHeld
        clear hHeld hb0
        have l19 := HL19.out v0 (upT HB2.out hw0)
        have ks := K9.out v0 (upR hw0 R3.out)
        go_upto_region 4 with fail
        obtain ⟨Z0, hZ0⟩ : ∃ W, v0.setRow (w.heap.size + 3) (cel (sCheckpoint K19)) = W := ⟨_, rfl⟩
        rw [hZ0]
        have z3 : Z0.heap[w.heap.size + 3]? = some (.cells (cel (sCheckpoint K19)) 42) := by rw [← hZ0]; exact setRow_at (upR hw0 R3.out)
        have z2 : Z0.heap[w.heap.size + 2]? = some (.cells (b3 false false false) 53) := by rw [← hZ0, setRow_other (by omega)]; exact upR hw0 R2.out
        have HU0 := hid (show Up X0 Z0 from by rw [← hZ0]; exact below_row (upT HB2.out hw0) (by rw [ZX.out]; omega) _)
        have Z2 := hid z2
        have lk := lvK_row z3
        clear hZ0 z3 z2 hw0 ks l19
        obtain rfl : SV = K19 := by rw [HSV.out, if_pos rfl]
        have l3 := HL3.out Z0 HU0.out
        have nk := HNK.out Z0
        clear HNK K9 HB2 ZX HSV R2 R3 HL19 HEP
        have l0 := H0.out Z0 HU0.out
        have l33 := HS2.out Z0 HU0.out
        have v24a := fun W => sv24_newv W (fun _ => 0) RA
        have v24b := fun W => sv24_newv W (fun _ => 0) RB
        go_upto_region 7 with fail
        clear l33 l0 l3 lk nk
        have lx := HLX.out Z0 HU0.out
        have l67 := H67.out Z0 HU0.out
        go_upto_region 8 with (go_at_call 29; refine (HR1.out _ HU0.out).mono ?_; rintro e' v1 ⟨rfl, hb1⟩)
        obtain ⟨W1, y1, hW1, ey1, r1, hd1, _⟩ := upN2 hb1 (.cells (vs .u8 32 RA) 24)
        rw [hW1, ey1]
        have HU1 := hid (upT HU0.out (upT hb1 hd1))
        have R1 := hid r1
        clear hW1 ey1 r1
        have Z21 := hid (upR (upT hb1 hd1) Z2.out)
        clear lx l67 v24a hd1 hb1
        have lx := HLX.out W1 HU1.out
        have l0 := H0.out W1 HU1.out
        go_upto_region 9 with (go_at_call 29; refine (HR2.out _ HU1.out).mono ?_; rintro e' v2 ⟨rfl, hb2⟩)
        obtain ⟨W2, y2, hW2, ey2, r2, hd2, _⟩ := upN2 hb2 (.cells (vs .u8 32 RB) 24)
        rw [hW2, ey2]
        have HU2 := hid (upT HU1.out (upT hb2 hd2))
        have R2 := hid r2
        clear hW2 ey2 r2
        have R12 := hid (upR (upT hb2 hd2) R1.out)
        have Z22 := hid (upR (upT hb2 hd2) Z21.out)
        clear lx l0 v24b hd2 hb2 zr
        have la := lv24_run R12.out
        have lb := lv24_run R2.out
        have l68 := H68.out W2 HU2.out
        have l2 := H2.out W2 HU2.out
        have b3v := fun W a b c => bdF_3 W a b c
        have sv := fun a b c => svF_run Z22.out a b c
        go_wp2
        exact retFs 4 5 (w.heap.size + 2) _ _ _ 53 (.int .i64 0) rfl rfl rfl rfl (setRow_at Z22.out) ⟨by rw [HWO.out]; rfl, below_row (upT HB.out HU2.out) (by omega) _⟩
      · cases BB
        · go_enter Try.func14, Try.ntmps14
          go_upto_region 1 with fail
          rw [HV0.out, HX0.out]
          clear HX0 HV0 zf
          have zx := ZX.out
          rw [zx] at kv
          go_upto_region 2 with fail
          rw [HW0.out]
          clear HW0 zk kv l18 zx
          refine wp_region_noPanic ?_
          refine wp_region_held_drew (S := fun W => Up W0 W) (by kernel_rfl) ((Below.refl W0.heap.size W0).drew) (fun hHeld => ?_)
          refine tk 0 (v := ?v711) ?y711 hHeld ?r711
          case y711 => intro w hSw; go_simp; try with_reducible rfl
          refine tk 1 (v := ?v712) ?y712 hHeld ?r712
          case y712 => intro w hSw; go_simp; try with_reducible rfl
          refine tk 2 (v := ?v713) ?y713 hHeld ?r713
          case y713 => intro w hSw; have ld0 := H67.out _ (upT HB2.out hSw); go_simp; try with_reducible rfl
          refine tk 3 (v := ?v714) ?y714 hHeld ?r714
          case y714 => intro w hSw; have ld0 := HLX.out _ (upT HB2.out hSw); go_simp; try with_reducible rfl
          try simp only [Act.put, List.setIfInBounds_toArray, List.set_cons_zero, List.set_cons_succ, Array.toArray_toList, List.getElem_toArray, List.getElem_cons_zero, List.getElem_cons_succ]
          refine wpAnyH_ready (rs := [4]) (by kernel_rfl) (by simp) ?_
          refine AllReadyH.cons rfl (fun K hK => ?_) AllReadyH.nil
          go_simp
          refine (HEP.out _).mono ?_
          rintro e' v0 ⟨rfl, hb0⟩
          dsimp only
          refine hK.out _ _ (upT hHeld hb0) (fun hHeld => ?_)
          clear hK K
          try simp only [Act.put, List.setIfInBounds_toArray, List.set_cons_zero, List.set_cons_succ, Array.toArray_toList, List.getElem_toArray, List.getElem_cons_zero, List.getElem_cons_succ]
          refine tk 5 (v := ?v715) ?y715 hHeld ?r715
          case y715 => intro w hSw; go_simp; try with_reducible rfl
          try simp only [Act.put, List.setIfInBounds_toArray, List.set_cons_zero, List.set_cons_succ, Array.toArray_toList, List.getElem_toArray, List.getElem_cons_zero, List.getElem_cons_succ]
          refine wpAnyH_done (by kernel_rfl) ?_ _
          refine NoPanic.normal ?_
          have hw0 : Up W0 v0 := hHeld
          clear hHeld hb0
          have l19 := HL19.out v0 (upT HB2.out hw0)
          have ks := K9.out v0 (upR hw0 R3.out)
          go_upto_region 4 with fail
          obtain ⟨Z0, hZ0⟩ : ∃ W, v0.setRow (w.heap.size + 3) (cel (sCheckpoint K19)) = W := ⟨_, rfl⟩
          rw [hZ0]
          have z3 : Z0.heap[w.heap.size + 3]? = some (.cells (cel (sCheckpoint K19)) 42) := by rw [← hZ0]; exact setRow_at (upR hw0 R3.out)
          have z2 : Z0.heap[w.heap.size + 2]? = some (.cells (b3 false false false) 53) := by rw [← hZ0, setRow_other (by omega)]; exact upR hw0 R2.out
          have HU0 := hid (show Up X0 Z0 from by rw [← hZ0]; exact below_row (upT HB2.out hw0) (by rw [ZX.out]; omega) _)
          have Z2 := hid z2
          have lk := lvK_row z3
          clear hZ0 z3 z2 hw0 ks l19
          obtain rfl : SV = K19 := by rw [HSV.out, if_pos rfl]
          have l3 := HL3.out Z0 HU0.out
          have nk := HNK.out Z0
          clear HNK K9 HB2 ZX HSV R2 R3 HL19 HEP
          have l0 := H0.out Z0 HU0.out
          have l33 := HS2.out Z0 HU0.out
          have v24a := fun W => sv24_newv W (fun _ => 0) RA
          have v24b := fun W => sv24_newv W (fun _ => 0) RB
          go_upto_region 7 with fail
          clear l33 l0 l3 lk nk
          have lx := HLX.out Z0 HU0.out
          have l67 := H67.out Z0 HU0.out
          go_upto_region 8 with (go_at_call 29; refine (HR1.out _ HU0.out).mono ?_; rintro e' v1 ⟨rfl, hb1⟩)
          obtain ⟨W1, y1, hW1, ey1, r1, hd1, _⟩ := upN2 hb1 (.cells (vs .u8 32 RA) 24)
          rw [hW1, ey1]
          have HU1 := hid (upT HU0.out (upT hb1 hd1))
          have R1 := hid r1
          clear hW1 ey1 r1
          have Z21 := hid (upR (upT hb1 hd1) Z2.out)
          clear lx l67 v24a hd1 hb1
          have lx := HLX.out W1 HU1.out
          have l0 := H0.out W1 HU1.out
          go_upto_region 9 with (go_at_call 29; refine (HR2.out _ HU1.out).mono ?_; rintro e' v2 ⟨rfl, hb2⟩)
          obtain ⟨W2, y2, hW2, ey2, r2, hd2, _⟩ := upN2 hb2 (.cells (vs .u8 32 RB) 24)
          rw [hW2, ey2]
          have HU2 := hid (upT HU1.out (upT hb2 hd2))
          have R2 := hid r2
          clear hW2 ey2 r2
          have R12 := hid (upR (upT hb2 hd2) R1.out)
          have Z22 := hid (upR (upT hb2 hd2) Z21.out)
          clear lx l0 v24b hd2 hb2 zr
          have la := lv24_run R12.out
          have lb := lv24_run R2.out
          have l68 := H68.out W2 HU2.out
          have l2 := H2.out W2 HU2.out
          have b3v := fun W a b c => bdF_3 W a b c
          have sv := fun a b c => svF_run Z22.out a b c
          go_wp2
          exact retFs 4 5 (w.heap.size + 2) _ _ _ 53 (.int .i64 0) rfl rfl rfl rfl (setRow_at Z22.out) ⟨by rw [HWO.out]; rfl, below_row (upT HB.out HU2.out) (by omega) _⟩
        · by_cases hD1 : D = 1
          · subst hD1
            go_enter Try.func14, Try.ntmps14
            go_upto_region 1 with fail
            rw [HV0.out, HX0.out]
            clear HX0 HV0 zf
            have zx := ZX.out
            rw [zx] at kv
            go_upto_region 2 with fail
            rw [HW0.out]
            clear HW0 zk kv l18 zx
            refine wp_region_noPanic ?_
            refine wp_region_held_drew (S := fun W => Up W0 W) (by kernel_rfl) ((Below.refl W0.heap.size W0).drew) (fun hHeld => ?_)
            refine tk 0 (v := ?v716) ?y716 hHeld ?r716
            case y716 => intro w hSw; go_simp; try with_reducible rfl
            refine tk 1 (v := ?v717) ?y717 hHeld ?r717
            case y717 => intro w hSw; go_simp; try with_reducible rfl
            refine tk 2 (v := ?v718) ?y718 hHeld ?r718
            case y718 => intro w hSw; have ld0 := H67.out _ (upT HB2.out hSw); go_simp; try with_reducible rfl
            refine tk 3 (v := ?v719) ?y719 hHeld ?r719
            case y719 => intro w hSw; have ld0 := HLX.out _ (upT HB2.out hSw); go_simp; try with_reducible rfl
            try simp only [Act.put, List.setIfInBounds_toArray, List.set_cons_zero, List.set_cons_succ, Array.toArray_toList, List.getElem_toArray, List.getElem_cons_zero, List.getElem_cons_succ]
            refine wpAnyH_ready (rs := [4]) (by kernel_rfl) (by simp) ?_
            refine AllReadyH.cons rfl (fun K hK => ?_) AllReadyH.nil
            go_simp
            refine (HEP.out _).mono ?_
            rintro e' v0 ⟨rfl, hb0⟩
            dsimp only
            refine hK.out _ _ (upT hHeld hb0) (fun hHeld => ?_)
            clear hK K
            try simp only [Act.put, List.setIfInBounds_toArray, List.set_cons_zero, List.set_cons_succ, Array.toArray_toList, List.getElem_toArray, List.getElem_cons_zero, List.getElem_cons_succ]
            refine tk 5 (v := ?v720) ?y720 hHeld ?r720
            case y720 => intro w hSw; go_simp; try with_reducible rfl
            try simp only [Act.put, List.setIfInBounds_toArray, List.set_cons_zero, List.set_cons_succ, Array.toArray_toList, List.getElem_toArray, List.getElem_cons_zero, List.getElem_cons_succ]
            refine wpAnyH_done (by kernel_rfl) ?_ _
            refine NoPanic.normal ?_
            have hw0 : Up W0 v0 := hHeld
            clear hHeld hb0
            have l19 := HL19.out v0 (upT HB2.out hw0)
            have ks := K9.out v0 (upR hw0 R3.out)
            go_upto_region 4 with fail
            obtain ⟨Z0, hZ0⟩ : ∃ W, v0.setRow (w.heap.size + 3) (cel (sCheckpoint K19)) = W := ⟨_, rfl⟩
            rw [hZ0]
            have z3 : Z0.heap[w.heap.size + 3]? = some (.cells (cel (sCheckpoint K19)) 42) := by rw [← hZ0]; exact setRow_at (upR hw0 R3.out)
            have z2 : Z0.heap[w.heap.size + 2]? = some (.cells (b3 false false false) 53) := by rw [← hZ0, setRow_other (by omega)]; exact upR hw0 R2.out
            have HU0 := hid (show Up X0 Z0 from by rw [← hZ0]; exact below_row (upT HB2.out hw0) (by rw [ZX.out]; omega) _)
            have Z2 := hid z2
            have lk := lvK_row z3
            clear hZ0 z3 z2 hw0 ks l19
            obtain rfl : SV = K19 := by rw [HSV.out, if_pos rfl]
            have l3 := HL3.out Z0 HU0.out
            have nk := HNK.out Z0
            clear HNK K9 HB2 ZX HSV R2 R3 HL19 HEP
            have l0 := H0.out Z0 HU0.out
            have l33 := HS2.out Z0 HU0.out
            have v24a := fun W => sv24_newv W (fun _ => 0) RA
            have v24b := fun W => sv24_newv W (fun _ => 0) RB
            go_upto_region 7 with fail
            clear l33 l0 l3 lk nk
            have lx := HLX.out Z0 HU0.out
            have l67 := H67.out Z0 HU0.out
            go_upto_region 8 with (go_at_call 29; refine (HR1.out _ HU0.out).mono ?_; rintro e' v1 ⟨rfl, hb1⟩)
            obtain ⟨W1, y1, hW1, ey1, r1, hd1, _⟩ := upN2 hb1 (.cells (vs .u8 32 RA) 24)
            rw [hW1, ey1]
            have HU1 := hid (upT HU0.out (upT hb1 hd1))
            have R1 := hid r1
            clear hW1 ey1 r1
            have Z21 := hid (upR (upT hb1 hd1) Z2.out)
            clear lx l67 v24a hd1 hb1
            have lx := HLX.out W1 HU1.out
            have l0 := H0.out W1 HU1.out
            go_upto_region 9 with (go_at_call 29; refine (HR2.out _ HU1.out).mono ?_; rintro e' v2 ⟨rfl, hb2⟩)
            obtain ⟨W2, y2, hW2, ey2, r2, hd2, _⟩ := upN2 hb2 (.cells (vs .u8 32 RB) 24)
            rw [hW2, ey2]
            have HU2 := hid (upT HU1.out (upT hb2 hd2))
            have R2 := hid r2
            clear hW2 ey2 r2
            have R12 := hid (upR (upT hb2 hd2) R1.out)
            have Z22 := hid (upR (upT hb2 hd2) Z21.out)
            clear lx l0 v24b hd2 hb2 zr
            have la := lv24_run R12.out
            have lb := lv24_run R2.out
            have l68 := H68.out W2 HU2.out
            have l2 := H2.out W2 HU2.out
            have b3v := fun W a b c => bdF_3 W a b c
            have sv := fun a b c => svF_run Z22.out a b c
            go_wp2
            exact retFs 4 5 (w.heap.size + 2) _ _ _ 53 (.int .i64 0) rfl rfl rfl rfl (setRow_at Z22.out) ⟨by rw [HWO.out]; rfl, below_row (upT HB.out HU2.out) (by omega) _⟩
          · have hD3 : (D == 1) = false := by simp [hD1]
            go_enter Try.func14, Try.ntmps14
            go_upto_region 1 with fail
            rw [HV0.out, HX0.out]
            clear HX0 HV0 zf
            have zx := ZX.out
            rw [zx] at kv
            go_upto_region 2 with fail
            rw [HW0.out]
            clear HW0 zk kv l18 zx
            refine wp_region_noPanic ?_
            refine wp_region_held_drew (S := fun W => Up W0 W) (by kernel_rfl) ((Below.refl W0.heap.size W0).drew) (fun hHeld => ?_)
            refine tk 0 (v := ?v721) ?y721 hHeld ?r721
            case y721 => intro w hSw; go_simp; try with_reducible rfl
            refine tk 1 (v := ?v722) ?y722 hHeld ?r722
            case y722 => intro w hSw; go_simp; try with_reducible rfl
            refine tk 2 (v := ?v723) ?y723 hHeld ?r723
            case y723 => intro w hSw; have ld0 := H67.out _ (upT HB2.out hSw); go_simp; try with_reducible rfl
            refine tk 3 (v := ?v724) ?y724 hHeld ?r724
            case y724 => intro w hSw; have ld0 := HLX.out _ (upT HB2.out hSw); go_simp; try with_reducible rfl
            try simp only [Act.put, List.setIfInBounds_toArray, List.set_cons_zero, List.set_cons_succ, Array.toArray_toList, List.getElem_toArray, List.getElem_cons_zero, List.getElem_cons_succ]
            refine wpAnyH_ready (rs := [4]) (by kernel_rfl) (by simp) ?_
            refine AllReadyH.cons rfl (fun K hK => ?_) AllReadyH.nil
            go_simp
            refine (HEP.out _).mono ?_
            rintro e' v0 ⟨rfl, hb0⟩
            dsimp only
            refine hK.out _ _ (upT hHeld hb0) (fun hHeld => ?_)
            clear hK K
            try simp only [Act.put, List.setIfInBounds_toArray, List.set_cons_zero, List.set_cons_succ, Array.toArray_toList, List.getElem_toArray, List.getElem_cons_zero, List.getElem_cons_succ]
            refine tk 5 (v := ?v725) ?y725 hHeld ?r725
            case y725 => intro w hSw; go_simp; try with_reducible rfl
            try simp only [Act.put, List.setIfInBounds_toArray, List.set_cons_zero, List.set_cons_succ, Array.toArray_toList, List.getElem_toArray, List.getElem_cons_zero, List.getElem_cons_succ]
            refine wpAnyH_done (by kernel_rfl) ?_ _
            refine NoPanic.normal ?_
            have hw0 : Up W0 v0 := hHeld
            clear hHeld hb0
            have l19 := HL19.out v0 (upT HB2.out hw0)
            have ks := K9.out v0 (upR hw0 R3.out)
            go_upto_region 4 with fail
            obtain ⟨Z0, hZ0⟩ : ∃ W, v0.setRow (w.heap.size + 3) (cel (sCheckpoint K19)) = W := ⟨_, rfl⟩
            rw [hZ0]
            have z3 : Z0.heap[w.heap.size + 3]? = some (.cells (cel (sCheckpoint K19)) 42) := by rw [← hZ0]; exact setRow_at (upR hw0 R3.out)
            have z2 : Z0.heap[w.heap.size + 2]? = some (.cells (b3 false false false) 53) := by rw [← hZ0, setRow_other (by omega)]; exact upR hw0 R2.out
            have HU0 := hid (show Up X0 Z0 from by rw [← hZ0]; exact below_row (upT HB2.out hw0) (by rw [ZX.out]; omega) _)
            have Z2 := hid z2
            have lk := lvK_row z3
            clear hZ0 z3 z2 hw0 ks l19
            obtain rfl : SV = K19 := by rw [HSV.out, if_pos rfl]
            have l3 := HL3.out Z0 HU0.out
            have nk := HNK.out Z0
            clear HNK K9 HB2 ZX HSV R2 R3 HL19 HEP
            have l0 := H0.out Z0 HU0.out
            have l33 := HS2.out Z0 HU0.out
            have v24a := fun W => sv24_newv W (fun _ => 0) RA
            have v24b := fun W => sv24_newv W (fun _ => 0) RB
            go_upto_region 7 with fail
            clear l33 l0 l3 lk nk
            have lx := HLX.out Z0 HU0.out
            have l67 := H67.out Z0 HU0.out
            go_upto_region 8 with (go_at_call 29; refine (HR1.out _ HU0.out).mono ?_; rintro e' v1 ⟨rfl, hb1⟩)
            obtain ⟨W1, y1, hW1, ey1, r1, hd1, _⟩ := upN2 hb1 (.cells (vs .u8 32 RA) 24)
            rw [hW1, ey1]
            have HU1 := hid (upT HU0.out (upT hb1 hd1))
            have R1 := hid r1
            clear hW1 ey1 r1
            have Z21 := hid (upR (upT hb1 hd1) Z2.out)
            clear lx l67 v24a hd1 hb1
            have lx := HLX.out W1 HU1.out
            have l0 := H0.out W1 HU1.out
            go_upto_region 9 with (go_at_call 29; refine (HR2.out _ HU1.out).mono ?_; rintro e' v2 ⟨rfl, hb2⟩)
            obtain ⟨W2, y2, hW2, ey2, r2, hd2, _⟩ := upN2 hb2 (.cells (vs .u8 32 RB) 24)
            rw [hW2, ey2]
            have HU2 := hid (upT HU1.out (upT hb2 hd2))
            have R2 := hid r2
            clear hW2 ey2 r2
            have R12 := hid (upR (upT hb2 hd2) R1.out)
            have Z22 := hid (upR (upT hb2 hd2) Z21.out)
            clear lx l0 v24b hd2 hb2 zr
            have la := lv24_run R12.out
            have lb := lv24_run R2.out
            have l68 := H68.out W2 HU2.out
            have l2 := H2.out W2 HU2.out
            have b3v := fun W a b c => bdF_3 W a b c
            have sv := fun a b c => svF_run Z22.out a b c
            go_wp2
            exact retFs 4 5 (w.heap.size + 2) _ _ _ 53 (.int .i64 0) rfl rfl rfl rfl (setRow_at Z22.out) ⟨by rw [HWO.out]; rw [decide_eq_false hD1]; rfl, below_row (upT HB.out HU2.out) (by omega) _⟩
  · have hT2 : (T == E) = false := by simp [hT]
    cases KB
    · go_enter Try.func14, Try.ntmps14
      go_upto_region 1 with fail
      rw [HV0.out, HX0.out]
      clear HX0 HV0 zf
      have zx := ZX.out
      rw [zx] at kv
      go_upto_region 2 with fail
      rw [HW0.out]
      clear HW0 zk kv l18 zx
      refine wp_region_noPanic ?_
      refine wp_region_held_drew (S := fun W => Up W0 W) (by kernel_rfl) ((Below.refl W0.heap.size W0).drew) (fun hHeld => ?_)
      refine tk 0 (v := ?v726) ?y726 hHeld ?r726
      case y726 => intro w hSw; go_simp; try with_reducible rfl
      refine tk 1 (v := ?v727) ?y727 hHeld ?r727
      case y727 => intro w hSw; go_simp; try with_reducible rfl
      refine tk 2 (v := ?v728) ?y728 hHeld ?r728
      case y728 => intro w hSw; have ld0 := H67.out _ (upT HB2.out hSw); go_simp; try with_reducible rfl
      refine tk 3 (v := ?v729) ?y729 hHeld ?r729
      case y729 => intro w hSw; have ld0 := HLX.out _ (upT HB2.out hSw); go_simp; try with_reducible rfl
      try simp only [Act.put, List.setIfInBounds_toArray, List.set_cons_zero, List.set_cons_succ, Array.toArray_toList, List.getElem_toArray, List.getElem_cons_zero, List.getElem_cons_succ]
      refine wpAnyH_ready (rs := [4]) (by kernel_rfl) (by simp) ?_
      refine AllReadyH.cons rfl (fun K hK => ?_) AllReadyH.nil
      go_simp
      refine (HEP.out _).mono ?_
      rintro e' v0 ⟨rfl, hb0⟩
      dsimp only
      refine hK.out _ _ (upT hHeld hb0) (fun hHeld => ?_)
      clear hK K
      try simp only [Act.put, List.setIfInBounds_toArray, List.set_cons_zero, List.set_cons_succ, Array.toArray_toList, List.getElem_toArray, List.getElem_cons_zero, List.getElem_cons_succ]
      refine tk 5 (v := ?v730) ?y730 hHeld ?r730
      case y730 => intro w hSw; go_simp; try with_reducible rfl
      try simp only [Act.put, List.setIfInBounds_toArray, List.set_cons_zero, List.set_cons_succ, Array.toArray_toList, List.getElem_toArray, List.getElem_cons_zero, List.getElem_cons_succ]
      refine wpAnyH_done (by kernel_rfl) ?_ _
      refine NoPanic.normal ?_
      have hw0 : Up W0 v0 := hHeld
      clear hHeld hb0
      obtain ⟨Z0, hZ0⟩ : ∃ W, v0 = W := ⟨_, rfl⟩
      rw [hZ0] at hw0
      go_upto_region 4 with fail
      rw [hZ0]
      have HU0 := hid (upT HB2.out hw0)
      have Z2 := hid (upR hw0 R2.out)
      have lk := lvK_row (upR hw0 R3.out)
      clear hw0 hZ0
      obtain rfl : SV = K18 := by rw [HSV.out, if_neg hT]
      have l3 := HL3.out Z0 HU0.out
      have nk := HNK.out Z0
      clear HNK K9 HB2 ZX HSV R2 R3 HL19 HEP
      have bz := bdF_0
      have sv := svF_run Z2.out false false false
      go_wp2
      exact retFs 4 5 (w.heap.size + 2) _ _ _ 53 (.int .i64 33) rfl rfl rfl rfl (setRow_at Z2.out) ⟨rfl, below_row (upT HB.out HU0.out) (by omega) _⟩
    · cases BA
      · go_enter Try.func14, Try.ntmps14
        go_upto_region 1 with fail
        rw [HV0.out, HX0.out]
        clear HX0 HV0 zf
        have zx := ZX.out
        rw [zx] at kv
        go_upto_region 2 with fail
        rw [HW0.out]
        clear HW0 zk kv l18 zx
        refine wp_region_noPanic ?_
        refine wp_region_held_drew (S := fun W => Up W0 W) (by kernel_rfl) ((Below.refl W0.heap.size W0).drew) (fun hHeld => ?_)
        refine tk 0 (v := ?v731) ?y731 hHeld ?r731
        case y731 => intro w hSw; go_simp; try with_reducible rfl
        refine tk 1 (v := ?v732) ?y732 hHeld ?r732
        case y732 => intro w hSw; go_simp; try with_reducible rfl
        refine tk 2 (v := ?v733) ?y733 hHeld ?r733
        case y733 => intro w hSw; have ld0 := H67.out _ (upT HB2.out hSw); go_simp; try with_reducible rfl
        refine tk 3 (v := ?v734) ?y734 hHeld ?r734
        case y734 => intro w hSw; have ld0 := HLX.out _ (upT HB2.out hSw); go_simp; try with_reducible rfl
        try simp only [Act.put, List.setIfInBounds_toArray, List.set_cons_zero, List.set_cons_succ, Array.toArray_toList, List.getElem_toArray, List.getElem_cons_zero, List.getElem_cons_succ]
        refine wpAnyH_ready (rs := [4]) (by kernel_rfl) (by simp) ?_
        refine AllReadyH.cons rfl (fun K hK => ?_) AllReadyH.nil
        go_simp
        refine (HEP.out _).mono ?_
        rintro e' v0 ⟨rfl, hb0⟩
        dsimp only
        refine hK.out _ _ (upT hHeld hb0) (fun hHeld => ?_)
        clear hK K
        try simp only [Act.put, List.setIfInBounds_toArray, List.set_cons_zero, List.set_cons_succ, Array.toArray_toList, List.getElem_toArray, List.getElem_cons_zero, List.getElem_cons_succ]
        refine tk 5 (v := ?v735) ?y735 hHeld ?r735
        case y735 => intro w hSw; go_simp; try with_reducible rfl
        try simp only [Act.put, List.setIfInBounds_toArray, List.set_cons_zero, List.set_cons_succ, Array.toArray_toList, List.getElem_toArray, List.getElem_cons_zero, List.getElem_cons_succ]
        refine wpAnyH_done (by kernel_rfl) ?_ _
        refine NoPanic.normal ?_
        have hw0 : Up W0 v0 := hHeld
        clear hHeld hb0
        obtain ⟨Z0, hZ0⟩ : ∃ W, v0 = W := ⟨_, rfl⟩
        rw [hZ0] at hw0
        go_upto_region 4 with fail
        rw [hZ0]
        have HU0 := hid (upT HB2.out hw0)
        have Z2 := hid (upR hw0 R2.out)
        have lk := lvK_row (upR hw0 R3.out)
        clear hw0 hZ0
        obtain rfl : SV = K18 := by rw [HSV.out, if_neg hT]
        have l3 := HL3.out Z0 HU0.out
        have nk := HNK.out Z0
        clear HNK K9 HB2 ZX HSV R2 R3 HL19 HEP
        have l0 := H0.out Z0 HU0.out
        have l33 := HS2.out Z0 HU0.out
        have v24a := fun W => sv24_newv W (fun _ => 0) RA
        have v24b := fun W => sv24_newv W (fun _ => 0) RB
        go_upto_region 7 with fail
        clear l33 l0 l3 lk nk
        have lx := HLX.out Z0 HU0.out
        have l67 := H67.out Z0 HU0.out
        go_upto_region 8 with (go_at_call 29; refine (HR1.out _ HU0.out).mono ?_; rintro e' v1 ⟨rfl, hb1⟩)
        obtain ⟨W1, y1, hW1, ey1, r1, hd1, _⟩ := upN2 hb1 (.cells (vs .u8 32 RA) 24)
        rw [hW1, ey1]
        have HU1 := hid (upT HU0.out (upT hb1 hd1))
        have R1 := hid r1
        clear hW1 ey1 r1
        have Z21 := hid (upR (upT hb1 hd1) Z2.out)
        clear lx l67 v24a hd1 hb1
        have lx := HLX.out W1 HU1.out
        have l0 := H0.out W1 HU1.out
        go_upto_region 9 with (go_at_call 29; refine (HR2.out _ HU1.out).mono ?_; rintro e' v2 ⟨rfl, hb2⟩)
        obtain ⟨W2, y2, hW2, ey2, r2, hd2, _⟩ := upN2 hb2 (.cells (vs .u8 32 RB) 24)
        rw [hW2, ey2]
        have HU2 := hid (upT HU1.out (upT hb2 hd2))
        have R2 := hid r2
        clear hW2 ey2 r2
        have R12 := hid (upR (upT hb2 hd2) R1.out)
        have Z22 := hid (upR (upT hb2 hd2) Z21.out)
        clear lx l0 v24b hd2 hb2 zr
        have la := lv24_run R12.out
        have lb := lv24_run R2.out
        have l68 := H68.out W2 HU2.out
        have l2 := H2.out W2 HU2.out
        have b3v := fun W a b c => bdF_3 W a b c
        have sv := fun a b c => svF_run Z22.out a b c
        go_wp2
        exact retFs 4 5 (w.heap.size + 2) _ _ _ 53 (.int .i64 0) rfl rfl rfl rfl (setRow_at Z22.out) ⟨by rw [HWO.out]; rfl, below_row (upT HB.out HU2.out) (by omega) _⟩
      · cases BB
        · go_enter Try.func14, Try.ntmps14
          go_upto_region 1 with fail
          rw [HV0.out, HX0.out]
          clear HX0 HV0 zf
          have zx := ZX.out
          rw [zx] at kv
          go_upto_region 2 with fail
          rw [HW0.out]
          clear HW0 zk kv l18 zx
          refine wp_region_noPanic ?_
          refine wp_region_held_drew (S := fun W => Up W0 W) (by kernel_rfl) ((Below.refl W0.heap.size W0).drew) (fun hHeld => ?_)
          refine tk 0 (v := ?v736) ?y736 hHeld ?r736
          case y736 => intro w hSw; go_simp; try with_reducible rfl
          refine tk 1 (v := ?v737) ?y737 hHeld ?r737
          case y737 => intro w hSw; go_simp; try with_reducible rfl
          refine tk 2 (v := ?v738) ?y738 hHeld ?r738
          case y738 => intro w hSw; have ld0 := H67.out _ (upT HB2.out hSw); go_simp; try with_reducible rfl
          refine tk 3 (v := ?v739) ?y739 hHeld ?r739
          case y739 => intro w hSw; have ld0 := HLX.out _ (upT HB2.out hSw); go_simp; try with_reducible rfl
          try simp only [Act.put, List.setIfInBounds_toArray, List.set_cons_zero, List.set_cons_succ, Array.toArray_toList, List.getElem_toArray, List.getElem_cons_zero, List.getElem_cons_succ]
          refine wpAnyH_ready (rs := [4]) (by kernel_rfl) (by simp) ?_
          refine AllReadyH.cons rfl (fun K hK => ?_) AllReadyH.nil
          go_simp
          refine (HEP.out _).mono ?_
          rintro e' v0 ⟨rfl, hb0⟩
          dsimp only
          refine hK.out _ _ (upT hHeld hb0) (fun hHeld => ?_)
          clear hK K
          try simp only [Act.put, List.setIfInBounds_toArray, List.set_cons_zero, List.set_cons_succ, Array.toArray_toList, List.getElem_toArray, List.getElem_cons_zero, List.getElem_cons_succ]
          refine tk 5 (v := ?v740) ?y740 hHeld ?r740
          case y740 => intro w hSw; go_simp; try with_reducible rfl
          try simp only [Act.put, List.setIfInBounds_toArray, List.set_cons_zero, List.set_cons_succ, Array.toArray_toList, List.getElem_toArray, List.getElem_cons_zero, List.getElem_cons_succ]
          refine wpAnyH_done (by kernel_rfl) ?_ _
          refine NoPanic.normal ?_
          have hw0 : Up W0 v0 := hHeld
          clear hHeld hb0
          obtain ⟨Z0, hZ0⟩ : ∃ W, v0 = W := ⟨_, rfl⟩
          rw [hZ0] at hw0
          go_upto_region 4 with fail
          rw [hZ0]
          have HU0 := hid (upT HB2.out hw0)
          have Z2 := hid (upR hw0 R2.out)
          have lk := lvK_row (upR hw0 R3.out)
          clear hw0 hZ0
          obtain rfl : SV = K18 := by rw [HSV.out, if_neg hT]
          have l3 := HL3.out Z0 HU0.out
          have nk := HNK.out Z0
          clear HNK K9 HB2 ZX HSV R2 R3 HL19 HEP
          have l0 := H0.out Z0 HU0.out
          have l33 := HS2.out Z0 HU0.out
          have v24a := fun W => sv24_newv W (fun _ => 0) RA
          have v24b := fun W => sv24_newv W (fun _ => 0) RB
          go_upto_region 7 with fail
          clear l33 l0 l3 lk nk
          have lx := HLX.out Z0 HU0.out
          have l67 := H67.out Z0 HU0.out
          go_upto_region 8 with (go_at_call 29; refine (HR1.out _ HU0.out).mono ?_; rintro e' v1 ⟨rfl, hb1⟩)
          obtain ⟨W1, y1, hW1, ey1, r1, hd1, _⟩ := upN2 hb1 (.cells (vs .u8 32 RA) 24)
          rw [hW1, ey1]
          have HU1 := hid (upT HU0.out (upT hb1 hd1))
          have R1 := hid r1
          clear hW1 ey1 r1
          have Z21 := hid (upR (upT hb1 hd1) Z2.out)
          clear lx l67 v24a hd1 hb1
          have lx := HLX.out W1 HU1.out
          have l0 := H0.out W1 HU1.out
          go_upto_region 9 with (go_at_call 29; refine (HR2.out _ HU1.out).mono ?_; rintro e' v2 ⟨rfl, hb2⟩)
          obtain ⟨W2, y2, hW2, ey2, r2, hd2, _⟩ := upN2 hb2 (.cells (vs .u8 32 RB) 24)
          rw [hW2, ey2]
          have HU2 := hid (upT HU1.out (upT hb2 hd2))
          have R2 := hid r2
          clear hW2 ey2 r2
          have R12 := hid (upR (upT hb2 hd2) R1.out)
          have Z22 := hid (upR (upT hb2 hd2) Z21.out)
          clear lx l0 v24b hd2 hb2 zr
          have la := lv24_run R12.out
          have lb := lv24_run R2.out
          have l68 := H68.out W2 HU2.out
          have l2 := H2.out W2 HU2.out
          have b3v := fun W a b c => bdF_3 W a b c
          have sv := fun a b c => svF_run Z22.out a b c
          go_wp2
          exact retFs 4 5 (w.heap.size + 2) _ _ _ 53 (.int .i64 0) rfl rfl rfl rfl (setRow_at Z22.out) ⟨by rw [HWO.out]; rfl, below_row (upT HB.out HU2.out) (by omega) _⟩
        · by_cases hD1 : D = 1
          · subst hD1
            go_enter Try.func14, Try.ntmps14
            go_upto_region 1 with fail
            rw [HV0.out, HX0.out]
            clear HX0 HV0 zf
            have zx := ZX.out
            rw [zx] at kv
            go_upto_region 2 with fail
            rw [HW0.out]
            clear HW0 zk kv l18 zx
            refine wp_region_noPanic ?_
            refine wp_region_held_drew (S := fun W => Up W0 W) (by kernel_rfl) ((Below.refl W0.heap.size W0).drew) (fun hHeld => ?_)
            refine tk 0 (v := ?v741) ?y741 hHeld ?r741
            case y741 => intro w hSw; go_simp; try with_reducible rfl
            refine tk 1 (v := ?v742) ?y742 hHeld ?r742
            case y742 => intro w hSw; go_simp; try with_reducible rfl
            refine tk 2 (v := ?v743) ?y743 hHeld ?r743
            case y743 => intro w hSw; have ld0 := H67.out _ (upT HB2.out hSw); go_simp; try with_reducible rfl
            refine tk 3 (v := ?v744) ?y744 hHeld ?r744
            case y744 => intro w hSw; have ld0 := HLX.out _ (upT HB2.out hSw); go_simp; try with_reducible rfl
            try simp only [Act.put, List.setIfInBounds_toArray, List.set_cons_zero, List.set_cons_succ, Array.toArray_toList, List.getElem_toArray, List.getElem_cons_zero, List.getElem_cons_succ]
            refine wpAnyH_ready (rs := [4]) (by kernel_rfl) (by simp) ?_
            refine AllReadyH.cons rfl (fun K hK => ?_) AllReadyH.nil
            go_simp
            refine (HEP.out _).mono ?_
            rintro e' v0 ⟨rfl, hb0⟩
            dsimp only
            refine hK.out _ _ (upT hHeld hb0) (fun hHeld => ?_)
            clear hK K
            try simp only [Act.put, List.setIfInBounds_toArray, List.set_cons_zero, List.set_cons_succ, Array.toArray_toList, List.getElem_toArray, List.getElem_cons_zero, List.getElem_cons_succ]
            refine tk 5 (v := ?v745) ?y745 hHeld ?r745
            case y745 => intro w hSw; go_simp; try with_reducible rfl
            try simp only [Act.put, List.setIfInBounds_toArray, List.set_cons_zero, List.set_cons_succ, Array.toArray_toList, List.getElem_toArray, List.getElem_cons_zero, List.getElem_cons_succ]
            refine wpAnyH_done (by kernel_rfl) ?_ _
            refine NoPanic.normal ?_
            have hw0 : Up W0 v0 := hHeld
            clear hHeld hb0
            obtain ⟨Z0, hZ0⟩ : ∃ W, v0 = W := ⟨_, rfl⟩
            rw [hZ0] at hw0
            go_upto_region 4 with fail
            rw [hZ0]
            have HU0 := hid (upT HB2.out hw0)
            have Z2 := hid (upR hw0 R2.out)
            have lk := lvK_row (upR hw0 R3.out)
            clear hw0 hZ0
            obtain rfl : SV = K18 := by rw [HSV.out, if_neg hT]
            have l3 := HL3.out Z0 HU0.out
            have nk := HNK.out Z0
            clear HNK K9 HB2 ZX HSV R2 R3 HL19 HEP
            have l0 := H0.out Z0 HU0.out
            have l33 := HS2.out Z0 HU0.out
            have v24a := fun W => sv24_newv W (fun _ => 0) RA
            have v24b := fun W => sv24_newv W (fun _ => 0) RB
            go_upto_region 7 with fail
            clear l33 l0 l3 lk nk
            have lx := HLX.out Z0 HU0.out
            have l67 := H67.out Z0 HU0.out
            go_upto_region 8 with (go_at_call 29; refine (HR1.out _ HU0.out).mono ?_; rintro e' v1 ⟨rfl, hb1⟩)
            obtain ⟨W1, y1, hW1, ey1, r1, hd1, _⟩ := upN2 hb1 (.cells (vs .u8 32 RA) 24)
            rw [hW1, ey1]
            have HU1 := hid (upT HU0.out (upT hb1 hd1))
            have R1 := hid r1
            clear hW1 ey1 r1
            have Z21 := hid (upR (upT hb1 hd1) Z2.out)
            clear lx l67 v24a hd1 hb1
            have lx := HLX.out W1 HU1.out
            have l0 := H0.out W1 HU1.out
            go_upto_region 9 with (go_at_call 29; refine (HR2.out _ HU1.out).mono ?_; rintro e' v2 ⟨rfl, hb2⟩)
            obtain ⟨W2, y2, hW2, ey2, r2, hd2, _⟩ := upN2 hb2 (.cells (vs .u8 32 RB) 24)
            rw [hW2, ey2]
            have HU2 := hid (upT HU1.out (upT hb2 hd2))
            have R2 := hid r2
            clear hW2 ey2 r2
            have R12 := hid (upR (upT hb2 hd2) R1.out)
            have Z22 := hid (upR (upT hb2 hd2) Z21.out)
            clear lx l0 v24b hd2 hb2 zr
            have la := lv24_run R12.out
            have lb := lv24_run R2.out
            have l68 := H68.out W2 HU2.out
            have l2 := H2.out W2 HU2.out
            have b3v := fun W a b c => bdF_3 W a b c
            have sv := fun a b c => svF_run Z22.out a b c
            go_wp2
            exact retFs 4 5 (w.heap.size + 2) _ _ _ 53 (.int .i64 0) rfl rfl rfl rfl (setRow_at Z22.out) ⟨by rw [HWO.out]; rfl, below_row (upT HB.out HU2.out) (by omega) _⟩
          · have hD3 : (D == 1) = false := by simp [hD1]
            go_enter Try.func14, Try.ntmps14
            go_upto_region 1 with fail
            rw [HV0.out, HX0.out]
            clear HX0 HV0 zf
            have zx := ZX.out
            rw [zx] at kv
            go_upto_region 2 with fail
            rw [HW0.out]
            clear HW0 zk kv l18 zx
            refine wp_region_noPanic ?_
            refine wp_region_held_drew (S := fun W => Up W0 W) (by kernel_rfl) ((Below.refl W0.heap.size W0).drew) (fun hHeld => ?_)
            refine tk 0 (v := ?v746) ?y746 hHeld ?r746
            case y746 => intro w hSw; go_simp; try with_reducible rfl
            refine tk 1 (v := ?v747) ?y747 hHeld ?r747
            case y747 => intro w hSw; go_simp; try with_reducible rfl
            refine tk 2 (v := ?v748) ?y748 hHeld ?r748
            case y748 => intro w hSw; have ld0 := H67.out _ (upT HB2.out hSw); go_simp; try with_reducible rfl
            refine tk 3 (v := ?v749) ?y749 hHeld ?r749
            case y749 => intro w hSw; have ld0 := HLX.out _ (upT HB2.out hSw); go_simp; try with_reducible rfl
            try simp only [Act.put, List.setIfInBounds_toArray, List.set_cons_zero, List.set_cons_succ, Array.toArray_toList, List.getElem_toArray, List.getElem_cons_zero, List.getElem_cons_succ]
            refine wpAnyH_ready (rs := [4]) (by kernel_rfl) (by simp) ?_
            refine AllReadyH.cons rfl (fun K hK => ?_) AllReadyH.nil
            go_simp
            refine (HEP.out _).mono ?_
            rintro e' v0 ⟨rfl, hb0⟩
            dsimp only
            refine hK.out _ _ (upT hHeld hb0) (fun hHeld => ?_)
            clear hK K
            try simp only [Act.put, List.setIfInBounds_toArray, List.set_cons_zero, List.set_cons_succ, Array.toArray_toList, List.getElem_toArray, List.getElem_cons_zero, List.getElem_cons_succ]
            refine tk 5 (v := ?v750) ?y750 hHeld ?r750
            case y750 => intro w hSw; go_simp; try with_reducible rfl
            try simp only [Act.put, List.setIfInBounds_toArray, List.set_cons_zero, List.set_cons_succ, Array.toArray_toList, List.getElem_toArray, List.getElem_cons_zero, List.getElem_cons_succ]
            refine wpAnyH_done (by kernel_rfl) ?_ _
            refine NoPanic.normal ?_
            have hw0 : Up W0 v0 := hHeld
            clear hHeld hb0
            obtain ⟨Z0, hZ0⟩ : ∃ W, v0 = W := ⟨_, rfl⟩
            rw [hZ0] at hw0
            go_upto_region 4 with fail
            rw [hZ0]
            have HU0 := hid (upT HB2.out hw0)
            have Z2 := hid (upR hw0 R2.out)
            have lk := lvK_row (upR hw0 R3.out)
            clear hw0 hZ0
            obtain rfl : SV = K18 := by rw [HSV.out, if_neg hT]
            have l3 := HL3.out Z0 HU0.out
            have nk := HNK.out Z0
            clear HNK K9 HB2 ZX HSV R2 R3 HL19 HEP
            have l0 := H0.out Z0 HU0.out
            have l33 := HS2.out Z0 HU0.out
            have v24a := fun W => sv24_newv W (fun _ => 0) RA
            have v24b := fun W => sv24_newv W (fun _ => 0) RB
            go_upto_region 7 with fail
            clear l33 l0 l3 lk nk
            have lx := HLX.out Z0 HU0.out
            have l67 := H67.out Z0 HU0.out
            go_upto_region 8 with (go_at_call 29; refine (HR1.out _ HU0.out).mono ?_; rintro e' v1 ⟨rfl, hb1⟩)
            obtain ⟨W1, y1, hW1, ey1, r1, hd1, _⟩ := upN2 hb1 (.cells (vs .u8 32 RA) 24)
            rw [hW1, ey1]
            have HU1 := hid (upT HU0.out (upT hb1 hd1))
            have R1 := hid r1
            clear hW1 ey1 r1
            have Z21 := hid (upR (upT hb1 hd1) Z2.out)
            clear lx l67 v24a hd1 hb1
            have lx := HLX.out W1 HU1.out
            have l0 := H0.out W1 HU1.out
            go_upto_region 9 with (go_at_call 29; refine (HR2.out _ HU1.out).mono ?_; rintro e' v2 ⟨rfl, hb2⟩)
            obtain ⟨W2, y2, hW2, ey2, r2, hd2, _⟩ := upN2 hb2 (.cells (vs .u8 32 RB) 24)
            rw [hW2, ey2]
            have HU2 := hid (upT HU1.out (upT hb2 hd2))
            have R2 := hid r2
            clear hW2 ey2 r2
            have R12 := hid (upR (upT hb2 hd2) R1.out)
            have Z22 := hid (upR (upT hb2 hd2) Z21.out)
            clear lx l0 v24b hd2 hb2 zr
            have la := lv24_run R12.out
            have lb := lv24_run R2.out
            have l68 := H68.out W2 HU2.out
            have l2 := H2.out W2 HU2.out
            have b3v := fun W a b c => bdF_3 W a b c
            have sv := fun a b c => svF_run Z22.out a b c
            go_wp2
            exact retFs 4 5 (w.heap.size + 2) _ _ _ 53 (.int .i64 0) rfl rfl rfl rfl (setRow_at Z22.out) ⟨by rw [HWO.out]; rw [decide_eq_false hD1]; rfl, below_row (upT HB.out HU2.out) (by omega) _⟩

set_option maxHeartbeats 4000000 in
theorem rflags_any (x : VState) (d : VData) (w : World) (hx : OkState x) (hw : InW w x) (hd : OkData d) :
    Calls Try.prog 7 #[.agg (cel (sState x)), .agg (cel (sData d))] w fun e' w' => e' = .returned (.tuple #[.agg (flV x d), .int .i64 (flE x d)]) ∧ Below w.heap.size w w' := by
  obtain ⟨V0, hV0, q0, q1, hB0, zV⟩ := two_blocks x d w
  obtain ⟨W0, hW0⟩ : ∃ W, V0.alloc (.cells (b3 false false false) 53) = W := ⟨_, rfl⟩
  have hB1 : Up V0 W0 := by rw [← hW0]; exact (Below.refl _ _).alloc (Nat.le_refl _) _
  have r2 : W0.heap[w.heap.size + 2]? = some (.cells (b3 false false false) 53) := by rw [← hW0]; exact heap_new (by omega)
  have hlx : ∀ W, Up W0 W → (lvState ⟨w.heap.size, 0, none⟩).run Try.prog W = .ok (.agg (cel (sState x))) W := fun W h => lvState_run (upR h (upR hB1 q0))
  have hld : ∀ W, Up W0 W → (lvData ⟨w.heap.size + 1, 0, none⟩).run Try.prog W = .ok (.agg (cel (sData d))) W := fun W h => lvD_row (upR h (upR hB1 q1))
  have hw0 := hw.below (upT hB0 hB1)
  have hri := rright_any x W0 hx.r' hw0.r' ⟨hx.o10.1, hx.o4.1.1, hx.o18.1.1, hx.o19.1.1, hx.o20.1.1⟩
  have lx := hlx W0 (Below.refl _ _)
  have hfl : flE x d = if rightB x = true then (if tmE x d = 0 then (if eqK d.f3 (soV x d.f4.f0) = true then 0 else 33) else tmE x d) else 1 := rfl
  have hfv : flV x d = if flE x d = 0 then woV x d else b3 false false false := rfl
  have HB := hid (upT hB0 hB1)
  have HV0 := hid hV0
  have HW0 := hid hW0
  have HLX := hid hlx
  have HLD := hid hld
  have R2 := hid r2
  have zf := zeroF
  have bz := bdF_0
  cases hR : rightB x
  · rw [hR] at hri hfl
    rw [if_neg (by decide)] at hfl
    rw [hfl, if_neg (by decide)] at hfv
    have HRI := hid hri
    rw [hfl, hfv]
    clear hfl hfv hR hri hw hw0 hx hd hB0 hB1 hV0 hW0 q0 q1 r2 hlx hld zV
    go_enter Try.func7, Try.ntmps7
    go_upto_region 1 with fail
    rw [HV0.out, HW0.out]
    clear HW0 HV0 zf
    go_wp2_with (go_at_call 8; refine HRI.out.mono ?_; rintro e' w1 ⟨rfl, hb1⟩; have sv := svF_run (upR hb1 R2.out) false false false)
    exact retFs 4 5 (w.heap.size + 2) _ _ _ 53 (.int .i64 1) rfl rfl rfl rfl (setRow_at (upR hb1 R2.out)) ⟨rfl, below_row (upT HB.out hb1) (by omega) _⟩
  · have hs := (rightB_out hR).c7
    have hct := fun (W : World) (h : Up W0 W) => rtime_any x d W hx ((rightB_out hR).lk hx (hw0.below h)) hd
    rw [hR] at hri hfl
    rw [if_pos rfl] at hfl
    have HRI := hid hri
    obtain ⟨K, hK⟩ : ∃ k, tmE x d = k := ⟨_, rfl⟩
    by_cases hK0 : K = 0
    · subst hK0
      have hf := fun W : World => rflg_any x d W hx hs hd hK
      rw [if_pos hK] at hfl
      rw [hfl] at hfv
      rw [hK] at hct
      obtain ⟨KB, eKB⟩ : ∃ s, eqK d.f3 (soV x d.f4.f0) = s := ⟨_, rfl⟩
      rw [eKB] at hfl hfv
      simp only [eKB] at hf
      have HCT := hid hct
      have e1 : flV x d = if KB = true then woV x d else b3 false false false := by
        rw [hfv]
        cases KB <;> rfl
      rw [hfl, e1]
      obtain ⟨f0, f1, f2, ef⟩ : ∃ a b c, (if KB = true then woV x d else b3 false false false) = b3 a b c := by
        cases KB
        · exact ⟨_, _, _, rfl⟩
        · exact ⟨_, _, _, rfl⟩
      rw [ef]
      simp only [ef] at hf
      have HF := hid hf
      obtain ⟨FE, eFE⟩ : ∃ v : Int, (if KB = true then 0 else 33) = v := ⟨_, rfl⟩
      rw [eFE]
      rw [eFE] at HF
      clear hfl hfv hR hri hw hw0 hx hd hB0 hB1 hV0 hW0 q0 q1 r2 hlx hld zV hf hct hK hs e1 ef eFE eKB
      go_enter Try.func7, Try.ntmps7
      go_upto_region 1 with fail
      rw [HV0.out, HW0.out]
      clear HW0 HV0 zf
      go_upto_region 3 with (go_at_call 8; refine HRI.out.mono ?_; rintro e' w1 ⟨rfl, hb1⟩)
      have lx := HLX.out w1 hb1
      have ld := HLD.out w1 hb1
      have HU1 := hid hb1
      clear hb1 HRI
      go_upto_region 6 with (go_at_call 13; refine (HCT.out w1 HU1.out).mono ?_; rintro e' w2 ⟨rfl, hb2⟩)
      have HU2 := hid (upT HU1.out hb2)
      clear lx ld hb2
      have lx := HLX.out w2 HU2.out
      have ld := HLD.out w2 HU2.out
      go_wp2_with (go_at_call 14; refine (HF.out w2).mono ?_; rintro e' w3 ⟨rfl, hb3⟩; have sv := svF_run (upR (upT HU2.out hb3) R2.out) f0 f1 f2)
      exact retFs 4 5 (w.heap.size + 2) _ _ _ 53 (.int .i64 FE) rfl rfl rfl rfl (setRow_at (upR (upT HU2.out hb3) R2.out)) ⟨rfl, below_row (upT HB.out (upT HU2.out hb3)) (by omega) _⟩
    · rw [if_neg (by rw [hK]; exact hK0), hK] at hfl
      rw [hfl, if_neg hK0] at hfv
      rw [hK] at hct
      rw [hfl, hfv]
      have HCT := hid hct
      have hK2 : (K != 0) = true := by simp [hK0]
      clear hfl hfv hR hri hw hw0 hx hd hB0 hB1 hV0 hW0 q0 q1 r2 hlx hld zV hct hK hs hK0
      go_enter Try.func7, Try.ntmps7
      go_upto_region 1 with fail
      rw [HV0.out, HW0.out]
      clear HW0 HV0 zf
      go_upto_region 3 with (go_at_call 8; refine HRI.out.mono ?_; rintro e' w1 ⟨rfl, hb1⟩)
      have lx := HLX.out w1 hb1
      have ld := HLD.out w1 hb1
      have HU1 := hid hb1
      clear hb1 HRI
      go_wp2_with (go_at_call 13; refine (HCT.out w1 HU1.out).mono ?_; rintro e' w2 ⟨rfl, hb2⟩; have sv := svF_run (upR (upT HU1.out hb2) R2.out) false false false; have HU2 := hid (upT HU1.out hb2); clear hb2)
      exact retFs 4 5 (w.heap.size + 2) _ _ _ 53 (.int .i64 K) rfl rfl rfl rfl (setRow_at (upR HU2.out R2.out)) ⟨rfl, below_row (upT HB.out HU2.out) (by omega) _⟩

end Go.Proofs.Ytmbgidfngefniaa
