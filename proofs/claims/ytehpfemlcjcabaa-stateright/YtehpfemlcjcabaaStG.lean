/-
  What EncState answers.
-/

import Derived.Test.YtehpfemlcjcabaaStF
namespace Go.Proofs.Ytehpfemlcjcabaa

open Go.RowKit

set_option linter.unusedVariables false

set_option linter.unusedSimpArgs false

set_option maxRecDepth 20000

attribute [local go_sem ↓] bsP_eq bsI_eq lvState_eq svState_eq lvFork_eq lvHeader_eq lvEth1_eq lvCheckpoint_eq lvCommittee_eq

set_option maxHeartbeats 8000000 in
theorem encState_ok (x : VState) (w : World) (hx : OkState x) (hw : InW w x) (hf : fitB x = true) (hn : x.f7.n ≤ 1024 ∧ x.f9.n ≤ 8 ∧ x.f11.n ≤ 65536 ∧ x.f12.n ≤ 65536 ∧ x.f15.n ≤ 65536 ∧ x.f16.n ≤ 65536 ∧ x.f21.n ≤ 65536) :
    Calls Try.prog 11 #[.agg (cel (sState x))] w fun e w' => ∃ v, e = .returned (.tuple #[v, .int .i64 0]) ∧ w'.ownsRow w.heap.size 5 1 v (tL x) (Z.iv (Z.layC zS (pF x) (pL x) 24)) ∧ Below w.heap.size w w' := by
  obtain ⟨W0, hW0⟩ : ∃ W, w.alloc (.cells (cel (sState x)) 49) = W := ⟨_, rfl⟩
  have hB0 : Below w.heap.size w W0 := by rw [← hW0]; exact (Below.refl _ _).alloc (Nat.le_refl _) _
  have r0 : W0.heap[w.heap.size]? = some (.cells (cel (sState x)) 49) := by rw [← hW0]; exact heap_new rfl
  have z0 : w.heap.size < W0.heap.size := by rw [← hW0]; simp
  obtain ⟨y, ey⟩ : ∃ y, w.heap.size = y := ⟨_, rfl⟩
  have lvw : (lvState ⟨y, 0, none⟩).run Try.prog W0 = .ok (.agg (cel (sState x))) W0 := by rw [← ey]; exact lvState_run r0
  have hfit := fit_any x W0
  rw [hf] at hfit
  have HFIT := hid hfit
  have HX := hid hx
  have HN := hid hn
  have hry : ∀ X, Below W0.heap.size W0 X → X.heap[y]? = some (.cells (cel (sState x)) 49) := fun X h => by rw [← ey]; exact (h.block _ z0).trans r0
  have HIN : Hid (∀ X, Below W0.heap.size W0 X → InW X x) := fun X h => hw.below (hB0.trans (h.mono hB0.size))
  have HL0 : Hid (∀ X, Below W0.heap.size W0 X → X.cell? ⟨y, 0, none⟩ = some (.int .u64 x.f0)) := fun X h => cS0 (hry X h)
  have HB1 : Hid (∀ X, Below W0.heap.size W0 X → Bys X (some ⟨y, 1, none⟩) 32 32 x.f1) := fun X h => cS1 (hry X h)
  have HL2 : Hid (∀ X, Below W0.heap.size W0 X → X.cell? ⟨y, 33, none⟩ = some (.int .u64 x.f2)) := fun X h => cS2 (hry X h)
  have HL3 : Hid (∀ X, Below W0.heap.size W0 X → (lvFork ⟨y, 34, none⟩).run Try.prog X = .ok (.agg (cel (sFork x.f3))) X) := fun X h => lS3 (hry X h)
  have HL4 : Hid (∀ X, Below W0.heap.size W0 X → (lvHeader ⟨y, 43, none⟩).run Try.prog X = .ok (.agg (cel (sHeader x.f4))) X) := fun X h => lS4 (hry X h)
  have HB5 : Hid (∀ X, Below W0.heap.size W0 X → Bys X (some ⟨y, 141, none⟩) 256 256 x.f5) := fun X h => cS5 (hry X h)
  have HB6 : Hid (∀ X, Below W0.heap.size W0 X → Bys X (some ⟨y, 397, none⟩) 256 256 x.f6) := fun X h => cS6 (hry X h)
  have HL7 : Hid (∀ X, Below W0.heap.size W0 X → X.cell? ⟨y, 653, none⟩ = some (.slice x.f7.a x.f7.n x.f7.c)) := fun X h => cS7 (hry X h)
  have HL8 : Hid (∀ X, Below W0.heap.size W0 X → (lvEth1 ⟨y, 654, none⟩).run Try.prog X = .ok (.agg (cel (sEth1 x.f8))) X) := fun X h => lS8 (hry X h)
  have HL9 : Hid (∀ X, Below W0.heap.size W0 X → X.cell? ⟨y, 719, none⟩ = some (.slice x.f9.a x.f9.n x.f9.c)) := fun X h => cS9 (hry X h)
  have HL10 : Hid (∀ X, Below W0.heap.size W0 X → X.cell? ⟨y, 720, none⟩ = some (.int .u64 x.f10)) := fun X h => cS10 (hry X h)
  have HL11 : Hid (∀ X, Below W0.heap.size W0 X → X.cell? ⟨y, 721, none⟩ = some (.slice x.f11.a x.f11.n x.f11.c)) := fun X h => cS11 (hry X h)
  have HL12 : Hid (∀ X, Below W0.heap.size W0 X → X.cell? ⟨y, 722, none⟩ = some (.slice x.f12.a x.f12.n x.f12.c)) := fun X h => cS12 (hry X h)
  have HB13 : Hid (∀ X, Below W0.heap.size W0 X → Bys X (some ⟨y, 723, none⟩) 256 256 x.f13) := fun X h => cS13 (hry X h)
  have HB14 : Hid (∀ X, Below W0.heap.size W0 X → Z.Nms .u64 X (some ⟨y, 979, none⟩) 8 x.f14) := fun X h => seg_na (hry X h)
  have HL15 : Hid (∀ X, Below W0.heap.size W0 X → X.cell? ⟨y, 987, none⟩ = some (.slice x.f15.a x.f15.n x.f15.c)) := fun X h => cS15 (hry X h)
  have HL16 : Hid (∀ X, Below W0.heap.size W0 X → X.cell? ⟨y, 988, none⟩ = some (.slice x.f16.a x.f16.n x.f16.c)) := fun X h => cS16 (hry X h)
  have HB17 : Hid (∀ X, Below W0.heap.size W0 X → Z.Bls X (some ⟨y, 989, none⟩) 4 4 x.f17) := fun X h => seg_bits (hry X h)
  have HL18 : Hid (∀ X, Below W0.heap.size W0 X → (lvCheckpoint ⟨y, 993, none⟩).run Try.prog X = .ok (.agg (cel (sCheckpoint x.f18))) X) := fun X h => lS18 (hry X h)
  have HL19 : Hid (∀ X, Below W0.heap.size W0 X → (lvCheckpoint ⟨y, 1026, none⟩).run Try.prog X = .ok (.agg (cel (sCheckpoint x.f19))) X) := fun X h => lS19 (hry X h)
  have HL20 : Hid (∀ X, Below W0.heap.size W0 X → (lvCheckpoint ⟨y, 1059, none⟩).run Try.prog X = .ok (.agg (cel (sCheckpoint x.f20))) X) := fun X h => lS20 (hry X h)
  have HL21 : Hid (∀ X, Below W0.heap.size W0 X → X.cell? ⟨y, 1092, none⟩ = some (.slice x.f21.a x.f21.n x.f21.c)) := fun X h => cS21 (hry X h)
  have HL22 : Hid (∀ X, Below W0.heap.size W0 X → (lvCommittee ⟨y, 1093, none⟩).run Try.prog X = .ok (.agg (cel (sCommittee x.f22))) X) := fun X h => lS22 (hry X h)
  have HL23 : Hid (∀ X, Below W0.heap.size W0 X → (lvCommittee ⟨y, 1525, none⟩).run Try.prog X = .ok (.agg (cel (sCommittee x.f23))) X) := fun X h => lS23 (hry X h)
  have HB0w := hid hB0
  have EY := hid ey
  obtain ⟨V, eV⟩ : ∃ V, Z.iv (Z.layC zS (pF x) (pL x) 24) = V := ⟨_, rfl⟩
  obtain ⟨TL, eTL⟩ : ∃ T, tL x = T := ⟨_, rfl⟩
  have hTL : tL x < 4294967296 := by rw [tL_is]; omega
  have hFL : ∀ (P : World) gp gs (ps : List Pt), ps.map ptb = qS x → P.heap[gp]? = some (.cells (ps.map ptv).toArray 39) → P.heap[gs]? = some (.cells (vs .i64 24 zS) 3) → (∀ r, r < 24 → Bys P (ps.getD r nilP).1 (ps.getD r nilP).2.1 (ps.getD r nilP).2.2.1 (ps.getD r nilP).2.2.2) → Calls Try.prog 22 #[.slice (some ⟨gp, 0, none⟩) 24 24, .slice (some ⟨gs, 0, none⟩) 24 24] P fun e w' => ∃ v, e = .returned (.tuple #[v, .int .i64 0]) ∧ w'.ownsRow P.heap.size 5 1 v TL V ∧ Below P.heap.size P w' := fun P gp gs ps h0 h1 h2 h3 => by
    rw [← eV, ← eTL]
    refine slay x ps gp gs P h0 h1 h2 h3 (fun r hr => ?_) hTL
    rcases r with _ | _ | _ | _ | _ | _ | _ | _ | _ | _ | _ | _ | _ | _ | _ | _ | _ | _ | _ | _ | _ | _ | _ | _ | r
    · show 8 ≤ 9223372036854775807; omega
    · show 32 ≤ 9223372036854775807; omega
    · show 8 ≤ 9223372036854775807; omega
    · show 16 ≤ 9223372036854775807; omega
    · show 112 ≤ 9223372036854775807; omega
    · show 256 ≤ 9223372036854775807; omega
    · show 256 ≤ 9223372036854775807; omega
    · show 32 * x.f7.n ≤ 9223372036854775807; omega
    · show 72 ≤ 9223372036854775807; omega
    · show 72 * x.f9.n ≤ 9223372036854775807; omega
    · show 8 ≤ 9223372036854775807; omega
    · show 121 * x.f11.n ≤ 9223372036854775807; omega
    · show 8 * x.f12.n ≤ 9223372036854775807; omega
    · show 256 ≤ 9223372036854775807; omega
    · show 64 ≤ 9223372036854775807; omega
    · show x.f15.n ≤ 9223372036854775807; omega
    · show x.f16.n ≤ 9223372036854775807; omega
    · show 1 ≤ 9223372036854775807; omega
    · show 40 ≤ 9223372036854775807; omega
    · show 40 ≤ 9223372036854775807; omega
    · show 40 ≤ 9223372036854775807; omega
    · show 8 * x.f21.n ≤ 9223372036854775807; omega
    · show 432 ≤ 9223372036854775807; omega
    · show 432 ≤ 9223372036854775807; omega
    · omega
  rw [eV, eTL]
  have HFL := hid hFL
  clear hB0 r0 hry hx hw hFL eV eTL hTL hfit hf hn
  go_enter Try.func11, Try.ntmps11
  go_upto_region 1 with fail
  clear hW0 ey z0
  go_upto_region 3 with (go_at_call 13; refine HFIT.out.mono ?_; rintro e w1 ⟨rfl, hb1⟩; have S0 : Hid (Below W0.heap.size W0 w1.drew) := hb1.drew; clear hb1)
  clear lvw HFIT
  refine wp_region_noPanic ?_
  refine wp_region_held_drew (S := fun X => Below W0.heap.size W0 X) (by kernel_rfl) (S0.out) (fun hHeld => ?_)
  refine tk 0 (v := ?v1) ?y1 hHeld ?r1
  case y1 => intro w hSw; go_simp; try with_reducible rfl
  refine tk 1 (v := ?v2) ?y2 hHeld ?r2
  case y2 => intro w hSw; have ld := HL0.out _ hSw; go_simp; try with_reducible rfl
  refine tk 3 (v := ?v3) ?y3 hHeld ?r3
  case y3 => intro w hSw; go_simp; try with_reducible rfl
  refine tk 4 (v := ?v4) ?y4 hHeld ?r4
  case y4 => intro w hSw; go_simp; try with_reducible rfl
  refine tk 5 (v := ?v5) ?y5 hHeld ?r5
  case y5 => intro w hSw; go_simp; try with_reducible rfl
  refine tk 6 (v := ?v6) ?y6 hHeld ?r6
  case y6 => intro w hSw; have ld := HL2.out _ hSw; go_simp; try with_reducible rfl
  refine tk 8 (v := ?v7) ?y7 hHeld ?r7
  case y7 => intro w hSw; go_simp; try with_reducible rfl
  refine tk 9 (v := ?v8) ?y8 hHeld ?r8
  case y8 => intro w hSw; have ld := HL3.out _ hSw; go_simp; try with_reducible rfl
  refine tk 11 (v := ?v9) ?y9 hHeld ?r9
  case y9 => intro w hSw; go_simp; try with_reducible rfl
  refine tk 12 (v := ?v10) ?y10 hHeld ?r10
  case y10 => intro w hSw; have ld := HL4.out _ hSw; go_simp; try with_reducible rfl
  refine tk 14 (v := ?v11) ?y11 hHeld ?r11
  case y11 => intro w hSw; go_simp; try with_reducible rfl
  refine tk 15 (v := ?v12) ?y12 hHeld ?r12
  case y12 => intro w hSw; go_simp; try with_reducible rfl
  refine tk 17 (v := ?v13) ?y13 hHeld ?r13
  case y13 => intro w hSw; go_simp; try with_reducible rfl
  refine tk 18 (v := ?v14) ?y14 hHeld ?r14
  case y14 => intro w hSw; go_simp; try with_reducible rfl
  refine tk 20 (v := ?v15) ?y15 hHeld ?r15
  case y15 => intro w hSw; go_simp; try with_reducible rfl
  refine tk 21 (v := ?v16) ?y16 hHeld ?r16
  case y16 => intro w hSw; have ld := HL7.out _ hSw; go_simp; try with_reducible rfl
  refine tk 23 (v := ?v17) ?y17 hHeld ?r17
  case y17 => intro w hSw; go_simp; try with_reducible rfl
  refine tk 24 (v := ?v18) ?y18 hHeld ?r18
  case y18 => intro w hSw; have ld := HL8.out _ hSw; go_simp; try with_reducible rfl
  refine tk 26 (v := ?v19) ?y19 hHeld ?r19
  case y19 => intro w hSw; go_simp; try with_reducible rfl
  refine tk 27 (v := ?v20) ?y20 hHeld ?r20
  case y20 => intro w hSw; have ld := HL9.out _ hSw; go_simp; try with_reducible rfl
  refine tk 29 (v := ?v21) ?y21 hHeld ?r21
  case y21 => intro w hSw; go_simp; try with_reducible rfl
  refine tk 30 (v := ?v22) ?y22 hHeld ?r22
  case y22 => intro w hSw; have ld := HL10.out _ hSw; go_simp; try with_reducible rfl
  refine tk 32 (v := ?v23) ?y23 hHeld ?r23
  case y23 => intro w hSw; go_simp; try with_reducible rfl
  refine tk 33 (v := ?v24) ?y24 hHeld ?r24
  case y24 => intro w hSw; have ld := HL11.out _ hSw; go_simp; try with_reducible rfl
  refine tk 35 (v := ?v25) ?y25 hHeld ?r25
  case y25 => intro w hSw; go_simp; try with_reducible rfl
  refine tk 36 (v := ?v26) ?y26 hHeld ?r26
  case y26 => intro w hSw; have ld := HL12.out _ hSw; go_simp; try with_reducible rfl
  refine tk 38 (v := ?v27) ?y27 hHeld ?r27
  case y27 => intro w hSw; go_simp; try with_reducible rfl
  refine tk 39 (v := ?v28) ?y28 hHeld ?r28
  case y28 => intro w hSw; go_simp; try with_reducible rfl
  refine tk 41 (v := ?v29) ?y29 hHeld ?r29
  case y29 => intro w hSw; go_simp; try with_reducible rfl
  refine tk 42 (v := ?v30) ?y30 hHeld ?r30
  case y30 => intro w hSw; go_simp; try with_reducible rfl
  refine tk 44 (v := ?v31) ?y31 hHeld ?r31
  case y31 => intro w hSw; go_simp; try with_reducible rfl
  refine tk 45 (v := ?v32) ?y32 hHeld ?r32
  case y32 => intro w hSw; have ld := HL15.out _ hSw; go_simp; try with_reducible rfl
  refine tk 46 (v := ?v33) ?y33 hHeld ?r33
  case y33 => intro w hSw; go_simp; try with_reducible rfl
  refine tk 47 (v := ?v34) ?y34 hHeld ?r34
  case y34 => intro w hSw; have ld := HL16.out _ hSw; go_simp; try with_reducible rfl
  refine tk 48 (v := ?v35) ?y35 hHeld ?r35
  case y35 => intro w hSw; go_simp; try with_reducible rfl
  refine tk 49 (v := ?v36) ?y36 hHeld ?r36
  case y36 => intro w hSw; go_simp; try with_reducible rfl
  refine tk 51 (v := ?v37) ?y37 hHeld ?r37
  case y37 => intro w hSw; go_simp; try with_reducible rfl
  refine tk 52 (v := ?v38) ?y38 hHeld ?r38
  case y38 => intro w hSw; have ld := HL18.out _ hSw; go_simp; try with_reducible rfl
  refine tk 54 (v := ?v39) ?y39 hHeld ?r39
  case y39 => intro w hSw; go_simp; try with_reducible rfl
  refine tk 55 (v := ?v40) ?y40 hHeld ?r40
  case y40 => intro w hSw; have ld := HL19.out _ hSw; go_simp; try with_reducible rfl
  refine tk 57 (v := ?v41) ?y41 hHeld ?r41
  case y41 => intro w hSw; go_simp; try with_reducible rfl
  refine tk 58 (v := ?v42) ?y42 hHeld ?r42
  case y42 => intro w hSw; have ld := HL20.out _ hSw; go_simp; try with_reducible rfl
  refine tk 60 (v := ?v43) ?y43 hHeld ?r43
  case y43 => intro w hSw; go_simp; try with_reducible rfl
  refine tk 61 (v := ?v44) ?y44 hHeld ?r44
  case y44 => intro w hSw; have ld := HL21.out _ hSw; go_simp; try with_reducible rfl
  refine tk 63 (v := ?v45) ?y45 hHeld ?r45
  case y45 => intro w hSw; go_simp; try with_reducible rfl
  refine tk 64 (v := ?v46) ?y46 hHeld ?r46
  case y46 => intro w hSw; have ld := HL22.out _ hSw; go_simp; try with_reducible rfl
  refine tk 66 (v := ?v47) ?y47 hHeld ?r47
  case y47 => intro w hSw; go_simp; try with_reducible rfl
  refine tk 67 (v := ?v48) ?y48 hHeld ?r48
  case y48 => intro w hSw; have ld := HL23.out _ hSw; go_simp; try with_reducible rfl
  try simp only [Act.put, List.setIfInBounds_toArray, List.set_cons_zero, List.set_cons_succ, Array.toArray_toList, List.getElem_toArray, List.getElem_cons_zero, List.getElem_cons_succ]
  refine wpAnyH_ready (rs := [2]) (by kernel_rfl) (by simp) ?_
  refine AllReadyH.cons rfl (fun K hK => ?_) AllReadyH.nil
  go_simp
  refine (nbytesS x.f0 _ HX.out.o0.1 HX.out.o0.2).mono ?_
  rintro e X1 ⟨g0, rfl, hb0, hg0, hr0⟩
  dsimp only
  have S1 := hid (S0.out.trans (hb0.mono S0.out.size))
  have K0 := hid hb0
  have R0 := hid (show ∀ X, Below X1.heap.size X1 X → Bys X (some ⟨g0, 0, none⟩) 8 8 (nmB x.f0) from fun X h => (bys_new hr0 (by omega)).below h)
  clear hb0 hr0 hg0
  refine hK.out _ _ (S1.out) (fun hHeld => ?_)
  clear hK K
  try simp only [Act.put, List.setIfInBounds_toArray, List.set_cons_zero, List.set_cons_succ, Array.toArray_toList, List.getElem_toArray, List.getElem_cons_zero, List.getElem_cons_succ]
  refine wpAnyH_ready (rs := [7]) (by kernel_rfl) (by simp) ?_
  refine AllReadyH.cons rfl (fun K hK => ?_) AllReadyH.nil
  go_simp
  refine (nbytesS x.f2 _ HX.out.o2.1 HX.out.o2.2).mono ?_
  rintro e X2 ⟨g2, rfl, hb2, hg2, hr2⟩
  dsimp only
  have S2 := hid (S1.out.trans (hb2.mono S1.out.size))
  have K1 := hid hb2
  have R2 := hid (show ∀ X, Below X2.heap.size X2 X → Bys X (some ⟨g2, 0, none⟩) 8 8 (nmB x.f2) from fun X h => (bys_new hr2 (by omega)).below h)
  clear hb2 hr2 hg2
  refine hK.out _ _ (S2.out) (fun hHeld => ?_)
  clear hK K
  try simp only [Act.put, List.setIfInBounds_toArray, List.set_cons_zero, List.set_cons_succ, Array.toArray_toList, List.getElem_toArray, List.getElem_cons_zero, List.getElem_cons_succ]
  refine wpAnyH_ready (rs := [10]) (by kernel_rfl) (by simp) ?_
  refine AllReadyH.cons rfl (fun K hK => ?_) AllReadyH.nil
  go_simp
  refine (encFork_any x.f3 _ HX.out.o3).mono ?_
  rintro e X3 ⟨v3, rfl, ho3, hb3⟩
  dsimp only
  have S3 := hid (S2.out.trans (hb3.mono S2.out.size))
  have K2 := hid hb3
  obtain ⟨a3, c3, rfl, hr3⟩ := own_at ho3
  have R3 := hid (show ∀ X, Below X3.heap.size X3 X → Bys X a3 (16) c3 (ct7 (eFork x.f3)) from fun X h => hr3.below h)
  clear hb3 hr3 ho3
  refine hK.out _ _ (S3.out) (fun hHeld => ?_)
  clear hK K
  try simp only [Act.put, List.setIfInBounds_toArray, List.set_cons_zero, List.set_cons_succ, Array.toArray_toList, List.getElem_toArray, List.getElem_cons_zero, List.getElem_cons_succ]
  refine wpAnyH_ready (rs := [13]) (by kernel_rfl) (by simp) ?_
  refine AllReadyH.cons rfl (fun K hK => ?_) AllReadyH.nil
  go_simp
  refine (encHeader_any x.f4 _ HX.out.o4).mono ?_
  rintro e X4 ⟨v4, rfl, ho4, hb4⟩
  dsimp only
  have S4 := hid (S3.out.trans (hb4.mono S3.out.size))
  have K3 := hid hb4
  obtain ⟨a4, c4, rfl, hr4⟩ := own_at ho4
  have R4 := hid (show ∀ X, Below X4.heap.size X4 X → Bys X a4 (112) c4 (ct7 (eHeader x.f4)) from fun X h => hr4.below h)
  clear hb4 hr4 ho4
  refine hK.out _ _ (S4.out) (fun hHeld => ?_)
  clear hK K
  try simp only [Act.put, List.setIfInBounds_toArray, List.set_cons_zero, List.set_cons_succ, Array.toArray_toList, List.getElem_toArray, List.getElem_cons_zero, List.getElem_cons_succ]
  refine wpAnyH_ready (rs := [16]) (by kernel_rfl) (by simp) ?_
  refine AllReadyH.cons rfl (fun K hK => ?_) AllReadyH.nil
  go_simp
  refine (rtsS x.f5 (some ⟨y, 141, none⟩) 8 8 _ (rts_of_bys (n := 8) (HB5.out _ S4.out)) (by omega)).mono ?_
  rintro e X5 ⟨v5, rfl, ho5, hb5⟩
  dsimp only
  have S5 := hid (S4.out.trans (hb5.mono S4.out.size))
  have K4 := hid hb5
  obtain ⟨a5, c5, rfl, hr5⟩ := own_at ho5
  have R5 := hid (show ∀ X, Below X5.heap.size X5 X → Bys X a5 (256) c5 (x.f5) from fun X h => hr5.below h)
  clear hb5 hr5 ho5
  refine hK.out _ _ (S5.out) (fun hHeld => ?_)
  clear hK K
  try simp only [Act.put, List.setIfInBounds_toArray, List.set_cons_zero, List.set_cons_succ, Array.toArray_toList, List.getElem_toArray, List.getElem_cons_zero, List.getElem_cons_succ]
  refine wpAnyH_ready (rs := [19]) (by kernel_rfl) (by simp) ?_
  refine AllReadyH.cons rfl (fun K hK => ?_) AllReadyH.nil
  go_simp
  refine (rtsS x.f6 (some ⟨y, 397, none⟩) 8 8 _ (rts_of_bys (n := 8) (HB6.out _ S5.out)) (by omega)).mono ?_
  rintro e X6 ⟨v6, rfl, ho6, hb6⟩
  dsimp only
  have S6 := hid (S5.out.trans (hb6.mono S5.out.size))
  have K5 := hid hb6
  obtain ⟨a6, c6, rfl, hr6⟩ := own_at ho6
  have R6 := hid (show ∀ X, Below X6.heap.size X6 X → Bys X a6 (256) c6 (x.f6) from fun X h => hr6.below h)
  clear hb6 hr6 ho6
  refine hK.out _ _ (S6.out) (fun hHeld => ?_)
  clear hK K
  try simp only [Act.put, List.setIfInBounds_toArray, List.set_cons_zero, List.set_cons_succ, Array.toArray_toList, List.getElem_toArray, List.getElem_cons_zero, List.getElem_cons_succ]
  refine wpAnyH_ready (rs := [22]) (by kernel_rfl) (by simp) ?_
  refine AllReadyH.cons rfl (fun K hK => ?_) AllReadyH.nil
  go_simp
  refine (rtsS x.f7.z x.f7.a x.f7.n x.f7.c _ (HIN.out _ S6.out).i7 (by have := HN.out; omega)).mono ?_
  rintro e X7 ⟨v7, rfl, ho7, hb7⟩
  dsimp only
  have S7 := hid (S6.out.trans (hb7.mono S6.out.size))
  have K6 := hid hb7
  obtain ⟨a7, c7, rfl, hr7⟩ := own_at ho7
  have R7 := hid (show ∀ X, Below X7.heap.size X7 X → Bys X a7 (32 * x.f7.n) c7 (x.f7.z) from fun X h => hr7.below h)
  clear hb7 hr7 ho7
  refine hK.out _ _ (S7.out) (fun hHeld => ?_)
  clear hK K
  try simp only [Act.put, List.setIfInBounds_toArray, List.set_cons_zero, List.set_cons_succ, Array.toArray_toList, List.getElem_toArray, List.getElem_cons_zero, List.getElem_cons_succ]
  refine wpAnyH_ready (rs := [25]) (by kernel_rfl) (by simp) ?_
  refine AllReadyH.cons rfl (fun K hK => ?_) AllReadyH.nil
  go_simp
  refine (encEth1_any x.f8 _ HX.out.o8).mono ?_
  rintro e X8 ⟨v8, rfl, ho8, hb8⟩
  dsimp only
  have S8 := hid (S7.out.trans (hb8.mono S7.out.size))
  have K7 := hid hb8
  obtain ⟨a8, c8, rfl, hr8⟩ := own_at ho8
  have R8 := hid (show ∀ X, Below X8.heap.size X8 X → Bys X a8 (72) c8 (ct7 (eEth1 x.f8)) from fun X h => hr8.below h)
  clear hb8 hr8 ho8
  refine hK.out _ _ (S8.out) (fun hHeld => ?_)
  clear hK K
  try simp only [Act.put, List.setIfInBounds_toArray, List.set_cons_zero, List.set_cons_succ, Array.toArray_toList, List.getElem_toArray, List.getElem_cons_zero, List.getElem_cons_succ]
  refine wpAnyH_ready (rs := [28]) (by kernel_rfl) (by simp) ?_
  refine AllReadyH.cons rfl (fun K hK => ?_) AllReadyH.nil
  go_simp
  refine (lstEth1 x.f9.z x.f9.a x.f9.n x.f9.c _ (HIN.out _ S8.out).i9 HX.out.o9 (by have := HN.out; omega)).mono ?_
  rintro e X9 ⟨v9, rfl, ho9, hb9⟩
  dsimp only
  have S9 := hid (S8.out.trans (hb9.mono S8.out.size))
  have K8 := hid hb9
  obtain ⟨a9, c9, rfl, hr9⟩ := own_at ho9
  have R9 := hid (show ∀ X, Below X9.heap.size X9 X → Bys X a9 (72 * x.f9.n) c9 (eB 72 fun i => ct7 (eEth1 (x.f9.z i))) from fun X h => hr9.below h)
  clear hb9 hr9 ho9
  refine hK.out _ _ (S9.out) (fun hHeld => ?_)
  clear hK K
  try simp only [Act.put, List.setIfInBounds_toArray, List.set_cons_zero, List.set_cons_succ, Array.toArray_toList, List.getElem_toArray, List.getElem_cons_zero, List.getElem_cons_succ]
  refine wpAnyH_ready (rs := [31]) (by kernel_rfl) (by simp) ?_
  refine AllReadyH.cons rfl (fun K hK => ?_) AllReadyH.nil
  go_simp
  refine (nbytesS x.f10 _ HX.out.o10.1 HX.out.o10.2).mono ?_
  rintro e X10 ⟨g10, rfl, hb10, hg10, hr10⟩
  dsimp only
  have S10 := hid (S9.out.trans (hb10.mono S9.out.size))
  have K9 := hid hb10
  have R10 := hid (show ∀ X, Below X10.heap.size X10 X → Bys X (some ⟨g10, 0, none⟩) 8 8 (nmB x.f10) from fun X h => (bys_new hr10 (by omega)).below h)
  clear hb10 hr10 hg10
  refine hK.out _ _ (S10.out) (fun hHeld => ?_)
  clear hK K
  try simp only [Act.put, List.setIfInBounds_toArray, List.set_cons_zero, List.set_cons_succ, Array.toArray_toList, List.getElem_toArray, List.getElem_cons_zero, List.getElem_cons_succ]
  refine wpAnyH_ready (rs := [34]) (by kernel_rfl) (by simp) ?_
  refine AllReadyH.cons rfl (fun K hK => ?_) AllReadyH.nil
  go_simp
  refine (lstValidator x.f11.z x.f11.a x.f11.n x.f11.c _ (HIN.out _ S10.out).i11 HX.out.o11 (by have := HN.out; omega)).mono ?_
  rintro e X11 ⟨v11, rfl, ho11, hb11⟩
  dsimp only
  have S11 := hid (S10.out.trans (hb11.mono S10.out.size))
  have K10 := hid hb11
  obtain ⟨a11, c11, rfl, hr11⟩ := own_at ho11
  have R11 := hid (show ∀ X, Below X11.heap.size X11 X → Bys X a11 (121 * x.f11.n) c11 (eB 121 fun i => ct7 (eValidator (x.f11.z i))) from fun X h => hr11.below h)
  clear hb11 hr11 ho11
  refine hK.out _ _ (S11.out) (fun hHeld => ?_)
  clear hK K
  try simp only [Act.put, List.setIfInBounds_toArray, List.set_cons_zero, List.set_cons_succ, Array.toArray_toList, List.getElem_toArray, List.getElem_cons_zero, List.getElem_cons_succ]
  refine wpAnyH_ready (rs := [37]) (by kernel_rfl) (by simp) ?_
  refine AllReadyH.cons rfl (fun K hK => ?_) AllReadyH.nil
  go_simp
  refine (numsS x.f12.z x.f12.a x.f12.n x.f12.c _ (HIN.out _ S11.out).i12 HX.out.o12 (by have := HN.out; omega)).mono ?_
  rintro e X12 ⟨v12, rfl, ho12, hb12⟩
  dsimp only
  have S12 := hid (S11.out.trans (hb12.mono S11.out.size))
  have K11 := hid hb12
  obtain ⟨a12, c12, rfl, hr12⟩ := own_at ho12
  have R12 := hid (show ∀ X, Below X12.heap.size X12 X → Bys X a12 (8 * x.f12.n) c12 (eB 8 fun i => nmB (x.f12.z i)) from fun X h => hr12.below h)
  clear hb12 hr12 ho12
  refine hK.out _ _ (S12.out) (fun hHeld => ?_)
  clear hK K
  try simp only [Act.put, List.setIfInBounds_toArray, List.set_cons_zero, List.set_cons_succ, Array.toArray_toList, List.getElem_toArray, List.getElem_cons_zero, List.getElem_cons_succ]
  refine wpAnyH_ready (rs := [40]) (by kernel_rfl) (by simp) ?_
  refine AllReadyH.cons rfl (fun K hK => ?_) AllReadyH.nil
  go_simp
  refine (rtsS x.f13 (some ⟨y, 723, none⟩) 8 8 _ (rts_of_bys (n := 8) (HB13.out _ S12.out)) (by omega)).mono ?_
  rintro e X13 ⟨v13, rfl, ho13, hb13⟩
  dsimp only
  have S13 := hid (S12.out.trans (hb13.mono S12.out.size))
  have K12 := hid hb13
  obtain ⟨a13, c13, rfl, hr13⟩ := own_at ho13
  have R13 := hid (show ∀ X, Below X13.heap.size X13 X → Bys X a13 (256) c13 (x.f13) from fun X h => hr13.below h)
  clear hb13 hr13 ho13
  refine hK.out _ _ (S13.out) (fun hHeld => ?_)
  clear hK K
  try simp only [Act.put, List.setIfInBounds_toArray, List.set_cons_zero, List.set_cons_succ, Array.toArray_toList, List.getElem_toArray, List.getElem_cons_zero, List.getElem_cons_succ]
  refine wpAnyH_ready (rs := [43]) (by kernel_rfl) (by simp) ?_
  refine AllReadyH.cons rfl (fun K hK => ?_) AllReadyH.nil
  go_simp
  refine (numsS x.f14 (some ⟨y, 979, none⟩) 8 8 _ (HB14.out _ S13.out) HX.out.o14 (by omega)).mono ?_
  rintro e X14 ⟨v14, rfl, ho14, hb14⟩
  dsimp only
  have S14 := hid (S13.out.trans (hb14.mono S13.out.size))
  have K13 := hid hb14
  obtain ⟨a14, c14, rfl, hr14⟩ := own_at ho14
  have R14 := hid (show ∀ X, Below X14.heap.size X14 X → Bys X a14 (64) c14 (eB 8 fun i => nmB (x.f14 i)) from fun X h => hr14.below h)
  clear hb14 hr14 ho14
  refine hK.out _ _ (S14.out) (fun hHeld => ?_)
  clear hK K
  try simp only [Act.put, List.setIfInBounds_toArray, List.set_cons_zero, List.set_cons_succ, Array.toArray_toList, List.getElem_toArray, List.getElem_cons_zero, List.getElem_cons_succ]
  refine wpAnyH_ready (rs := [50]) (by kernel_rfl) (by simp) ?_
  refine AllReadyH.cons rfl (fun K hK => ?_) AllReadyH.nil
  go_simp
  refine (Z.vector_any x.f17 (some ⟨y, 989, none⟩) 4 4 _ (HB17.out _ S14.out) (by omega)).mono ?_
  rintro e X15 ⟨rfl, hr17, hb17, _⟩
  dsimp only
  have S15 := hid (S14.out.trans (hb17.mono S14.out.size))
  have K14 := hid hb17
  obtain ⟨g17, eg17⟩ : ∃ g, X14.heap.size = g := ⟨_, rfl⟩
  rw [eg17] at hr17 ⊢
  have R17 := hid (show ∀ X, Below X15.heap.size X15 X → Bys X (some ⟨g17, 0, none⟩) 1 1 (fun q => (Z.byt x.f17 4 q : Int)) from fun X h => (bys_new (n := 1) hr17 (by omega)).below h)
  clear hb17 hr17 eg17
  refine hK.out _ _ (S15.out) (fun hHeld => ?_)
  clear hK K
  try simp only [Act.put, List.setIfInBounds_toArray, List.set_cons_zero, List.set_cons_succ, Array.toArray_toList, List.getElem_toArray, List.getElem_cons_zero, List.getElem_cons_succ]
  refine wpAnyH_ready (rs := [53]) (by kernel_rfl) (by simp) ?_
  refine AllReadyH.cons rfl (fun K hK => ?_) AllReadyH.nil
  go_simp
  refine (encCheckpoint_any x.f18 _ HX.out.o18).mono ?_
  rintro e X16 ⟨v18, rfl, ho18, hb18⟩
  dsimp only
  have S16 := hid (S15.out.trans (hb18.mono S15.out.size))
  have K15 := hid hb18
  obtain ⟨a18, c18, rfl, hr18⟩ := own_at ho18
  have R18 := hid (show ∀ X, Below X16.heap.size X16 X → Bys X a18 (40) c18 (ct7 (eCheckpoint x.f18)) from fun X h => hr18.below h)
  clear hb18 hr18 ho18
  refine hK.out _ _ (S16.out) (fun hHeld => ?_)
  clear hK K
  try simp only [Act.put, List.setIfInBounds_toArray, List.set_cons_zero, List.set_cons_succ, Array.toArray_toList, List.getElem_toArray, List.getElem_cons_zero, List.getElem_cons_succ]
  refine wpAnyH_ready (rs := [56]) (by kernel_rfl) (by simp) ?_
  refine AllReadyH.cons rfl (fun K hK => ?_) AllReadyH.nil
  go_simp
  refine (encCheckpoint_any x.f19 _ HX.out.o19).mono ?_
  rintro e X17 ⟨v19, rfl, ho19, hb19⟩
  dsimp only
  have S17 := hid (S16.out.trans (hb19.mono S16.out.size))
  have K16 := hid hb19
  obtain ⟨a19, c19, rfl, hr19⟩ := own_at ho19
  have R19 := hid (show ∀ X, Below X17.heap.size X17 X → Bys X a19 (40) c19 (ct7 (eCheckpoint x.f19)) from fun X h => hr19.below h)
  clear hb19 hr19 ho19
  refine hK.out _ _ (S17.out) (fun hHeld => ?_)
  clear hK K
  try simp only [Act.put, List.setIfInBounds_toArray, List.set_cons_zero, List.set_cons_succ, Array.toArray_toList, List.getElem_toArray, List.getElem_cons_zero, List.getElem_cons_succ]
  refine wpAnyH_ready (rs := [59]) (by kernel_rfl) (by simp) ?_
  refine AllReadyH.cons rfl (fun K hK => ?_) AllReadyH.nil
  go_simp
  refine (encCheckpoint_any x.f20 _ HX.out.o20).mono ?_
  rintro e X18 ⟨v20, rfl, ho20, hb20⟩
  dsimp only
  have S18 := hid (S17.out.trans (hb20.mono S17.out.size))
  have K17 := hid hb20
  obtain ⟨a20, c20, rfl, hr20⟩ := own_at ho20
  have R20 := hid (show ∀ X, Below X18.heap.size X18 X → Bys X a20 (40) c20 (ct7 (eCheckpoint x.f20)) from fun X h => hr20.below h)
  clear hb20 hr20 ho20
  refine hK.out _ _ (S18.out) (fun hHeld => ?_)
  clear hK K
  try simp only [Act.put, List.setIfInBounds_toArray, List.set_cons_zero, List.set_cons_succ, Array.toArray_toList, List.getElem_toArray, List.getElem_cons_zero, List.getElem_cons_succ]
  refine wpAnyH_ready (rs := [62]) (by kernel_rfl) (by simp) ?_
  refine AllReadyH.cons rfl (fun K hK => ?_) AllReadyH.nil
  go_simp
  refine (numsS x.f21.z x.f21.a x.f21.n x.f21.c _ (HIN.out _ S18.out).i21 HX.out.o21 (by have := HN.out; omega)).mono ?_
  rintro e X19 ⟨v21, rfl, ho21, hb21⟩
  dsimp only
  have S19 := hid (S18.out.trans (hb21.mono S18.out.size))
  have K18 := hid hb21
  obtain ⟨a21, c21, rfl, hr21⟩ := own_at ho21
  have R21 := hid (show ∀ X, Below X19.heap.size X19 X → Bys X a21 (8 * x.f21.n) c21 (eB 8 fun i => nmB (x.f21.z i)) from fun X h => hr21.below h)
  clear hb21 hr21 ho21
  refine hK.out _ _ (S19.out) (fun hHeld => ?_)
  clear hK K
  try simp only [Act.put, List.setIfInBounds_toArray, List.set_cons_zero, List.set_cons_succ, Array.toArray_toList, List.getElem_toArray, List.getElem_cons_zero, List.getElem_cons_succ]
  refine wpAnyH_ready (rs := [65]) (by kernel_rfl) (by simp) ?_
  refine AllReadyH.cons rfl (fun K hK => ?_) AllReadyH.nil
  go_simp
  refine (encCommittee_any x.f22 _ HX.out.o22).mono ?_
  rintro e X20 ⟨v22, rfl, ho22, hb22⟩
  dsimp only
  have S20 := hid (S19.out.trans (hb22.mono S19.out.size))
  have K19 := hid hb22
  obtain ⟨a22, c22, rfl, hr22⟩ := own_at ho22
  have R22 := hid (show ∀ X, Below X20.heap.size X20 X → Bys X a22 (432) c22 (ct7 (eCommittee x.f22)) from fun X h => hr22.below h)
  clear hb22 hr22 ho22
  refine hK.out _ _ (S20.out) (fun hHeld => ?_)
  clear hK K
  try simp only [Act.put, List.setIfInBounds_toArray, List.set_cons_zero, List.set_cons_succ, Array.toArray_toList, List.getElem_toArray, List.getElem_cons_zero, List.getElem_cons_succ]
  refine wpAnyH_ready (rs := [68]) (by kernel_rfl) (by simp) ?_
  refine AllReadyH.cons rfl (fun K hK => ?_) AllReadyH.nil
  go_simp
  refine (encCommittee_any x.f23 _ HX.out.o23).mono ?_
  rintro e X21 ⟨v23, rfl, ho23, hb23⟩
  dsimp only
  have S21 := hid (S20.out.trans (hb23.mono S20.out.size))
  have K20 := hid hb23
  obtain ⟨a23, c23, rfl, hr23⟩ := own_at ho23
  have R23 := hid (show ∀ X, Below X21.heap.size X21 X → Bys X a23 (432) c23 (ct7 (eCommittee x.f23)) from fun X h => hr23.below h)
  clear hb23 hr23 ho23
  refine hK.out _ _ (S21.out) (fun hHeld => ?_)
  clear hK K
  try simp only [Act.put, List.setIfInBounds_toArray, List.set_cons_zero, List.set_cons_succ, Array.toArray_toList, List.getElem_toArray, List.getElem_cons_zero, List.getElem_cons_succ]
  have B21 := hid (Below.refl X21.heap.size X21)
  have B20 := hid (K20.out.trans (B21.out.mono K20.out.size))
  have B19 := hid (K19.out.trans (B20.out.mono K19.out.size))
  have B18 := hid (K18.out.trans (B19.out.mono K18.out.size))
  have B17 := hid (K17.out.trans (B18.out.mono K17.out.size))
  have B16 := hid (K16.out.trans (B17.out.mono K16.out.size))
  have B15 := hid (K15.out.trans (B16.out.mono K15.out.size))
  have B14 := hid (K14.out.trans (B15.out.mono K14.out.size))
  have B13 := hid (K13.out.trans (B14.out.mono K13.out.size))
  have B12 := hid (K12.out.trans (B13.out.mono K12.out.size))
  have B11 := hid (K11.out.trans (B12.out.mono K11.out.size))
  have B10 := hid (K10.out.trans (B11.out.mono K10.out.size))
  have B9 := hid (K9.out.trans (B10.out.mono K9.out.size))
  have B8 := hid (K8.out.trans (B9.out.mono K8.out.size))
  have B7 := hid (K7.out.trans (B8.out.mono K7.out.size))
  have B6 := hid (K6.out.trans (B7.out.mono K6.out.size))
  have B5 := hid (K5.out.trans (B6.out.mono K5.out.size))
  have B4 := hid (K4.out.trans (B5.out.mono K4.out.size))
  have B3 := hid (K3.out.trans (B4.out.mono K3.out.size))
  have B2 := hid (K2.out.trans (B3.out.mono K2.out.size))
  have B1 := hid (K1.out.trans (B2.out.mono K1.out.size))
  have hbs : ∀ P : World, (bsP 24 #[(0, Value.slice (some ⟨g0, 0, none⟩) (8) (8)), (1, Value.slice (some ⟨y, 1, none⟩) (32) (32)), (2, Value.slice (some ⟨g2, 0, none⟩) (8) (8)), (3, Value.slice (a3) (16) (c3)), (4, Value.slice (a4) (112) (c4)), (5, Value.slice (a5) (256) (c5)), (6, Value.slice (a6) (256) (c6)), (7, Value.slice (a7) (32 * x.f7.n) (c7)), (8, Value.slice (a8) (72) (c8)), (9, Value.slice (a9) (72 * x.f9.n) (c9)), (10, Value.slice (some ⟨g10, 0, none⟩) (8) (8)), (11, Value.slice (a11) (121 * x.f11.n) (c11)), (12, Value.slice (a12) (8 * x.f12.n) (c12)), (13, Value.slice (a13) (256) (c13)), (14, Value.slice (a14) (64) (c14)), (15, Value.slice (x.f15.a) (x.f15.n) (x.f15.c)), (16, Value.slice (x.f16.a) (x.f16.n) (x.f16.c)), (17, Value.slice (some ⟨g17, 0, none⟩) (1) (1)), (18, Value.slice (a18) (40) (c18)), (19, Value.slice (a19) (40) (c19)), (20, Value.slice (a20) (40) (c20)), (21, Value.slice (a21) (8 * x.f21.n) (c21)), (22, Value.slice (a22) (432) (c22)), (23, Value.slice (a23) (432) (c23))]).run Try.prog P = .ok (.slice (some ⟨P.heap.size, 0, none⟩) 24 24) (P.alloc (.cells (([(some ⟨g0, 0, none⟩, 8, 8, nmB x.f0), (some ⟨y, 1, none⟩, 32, 32, x.f1), (some ⟨g2, 0, none⟩, 8, 8, nmB x.f2), (a3, 16, c3, ct7 (eFork x.f3)), (a4, 112, c4, ct7 (eHeader x.f4)), (a5, 256, c5, x.f5), (a6, 256, c6, x.f6), (a7, 32 * x.f7.n, c7, x.f7.z), (a8, 72, c8, ct7 (eEth1 x.f8)), (a9, 72 * x.f9.n, c9, eB 72 fun i => ct7 (eEth1 (x.f9.z i))), (some ⟨g10, 0, none⟩, 8, 8, nmB x.f10), (a11, 121 * x.f11.n, c11, eB 121 fun i => ct7 (eValidator (x.f11.z i))), (a12, 8 * x.f12.n, c12, eB 8 fun i => nmB (x.f12.z i)), (a13, 256, c13, x.f13), (a14, 64, c14, eB 8 fun i => nmB (x.f14 i)), (x.f15.a, x.f15.n, x.f15.c, x.f15.z), (x.f16.a, x.f16.n, x.f16.c, x.f16.z), (some ⟨g17, 0, none⟩, 1, 1, fun q => (Z.byt x.f17 4 q : Int)), (a18, 40, c18, ct7 (eCheckpoint x.f18)), (a19, 40, c19, ct7 (eCheckpoint x.f19)), (a20, 40, c20, ct7 (eCheckpoint x.f20)), (a21, 8 * x.f21.n, c21, eB 8 fun i => nmB (x.f21.z i)), (a22, 432, c22, ct7 (eCommittee x.f22)), (a23, 432, c23, ct7 (eCommittee x.f23))] : List Pt).map ptv).toArray 39)) := fun P => bsP_24 P (some ⟨g0, 0, none⟩, 8, 8, nmB x.f0) (some ⟨y, 1, none⟩, 32, 32, x.f1) (some ⟨g2, 0, none⟩, 8, 8, nmB x.f2) (a3, 16, c3, ct7 (eFork x.f3)) (a4, 112, c4, ct7 (eHeader x.f4)) (a5, 256, c5, x.f5) (a6, 256, c6, x.f6) (a7, 32 * x.f7.n, c7, x.f7.z) (a8, 72, c8, ct7 (eEth1 x.f8)) (a9, 72 * x.f9.n, c9, eB 72 fun i => ct7 (eEth1 (x.f9.z i))) (some ⟨g10, 0, none⟩, 8, 8, nmB x.f10) (a11, 121 * x.f11.n, c11, eB 121 fun i => ct7 (eValidator (x.f11.z i))) (a12, 8 * x.f12.n, c12, eB 8 fun i => nmB (x.f12.z i)) (a13, 256, c13, x.f13) (a14, 64, c14, eB 8 fun i => nmB (x.f14 i)) (x.f15.a, x.f15.n, x.f15.c, x.f15.z) (x.f16.a, x.f16.n, x.f16.c, x.f16.z) (some ⟨g17, 0, none⟩, 1, 1, fun q => (Z.byt x.f17 4 q : Int)) (a18, 40, c18, ct7 (eCheckpoint x.f18)) (a19, 40, c19, ct7 (eCheckpoint x.f19)) (a20, 40, c20, ct7 (eCheckpoint x.f20)) (a21, 8 * x.f21.n, c21, eB 8 fun i => nmB (x.f21.z i)) (a22, 432, c22, ct7 (eCommittee x.f22)) (a23, 432, c23, ct7 (eCommittee x.f23))
  obtain ⟨ps, eps⟩ : ∃ ps, ([(some ⟨g0, 0, none⟩, 8, 8, nmB x.f0), (some ⟨y, 1, none⟩, 32, 32, x.f1), (some ⟨g2, 0, none⟩, 8, 8, nmB x.f2), (a3, 16, c3, ct7 (eFork x.f3)), (a4, 112, c4, ct7 (eHeader x.f4)), (a5, 256, c5, x.f5), (a6, 256, c6, x.f6), (a7, 32 * x.f7.n, c7, x.f7.z), (a8, 72, c8, ct7 (eEth1 x.f8)), (a9, 72 * x.f9.n, c9, eB 72 fun i => ct7 (eEth1 (x.f9.z i))), (some ⟨g10, 0, none⟩, 8, 8, nmB x.f10), (a11, 121 * x.f11.n, c11, eB 121 fun i => ct7 (eValidator (x.f11.z i))), (a12, 8 * x.f12.n, c12, eB 8 fun i => nmB (x.f12.z i)), (a13, 256, c13, x.f13), (a14, 64, c14, eB 8 fun i => nmB (x.f14 i)), (x.f15.a, x.f15.n, x.f15.c, x.f15.z), (x.f16.a, x.f16.n, x.f16.c, x.f16.z), (some ⟨g17, 0, none⟩, 1, 1, fun q => (Z.byt x.f17 4 q : Int)), (a18, 40, c18, ct7 (eCheckpoint x.f18)), (a19, 40, c19, ct7 (eCheckpoint x.f19)), (a20, 40, c20, ct7 (eCheckpoint x.f20)), (a21, 8 * x.f21.n, c21, eB 8 fun i => nmB (x.f21.z i)), (a22, 432, c22, ct7 (eCommittee x.f22)), (a23, 432, c23, ct7 (eCommittee x.f23))] : List Pt) = ps := ⟨_, rfl⟩
  have hq : ps.map ptb = qS x := by rw [← eps]; rfl
  have hby : ∀ P, Below X21.heap.size X21 P → ∀ r, r < 24 → Bys P (ps.getD r nilP).1 (ps.getD r nilP).2.1 (ps.getD r nilP).2.2.1 (ps.getD r nilP).2.2.2 := fun P hP r hr => by
    rw [← eps]
    rcases r with _ | _ | _ | _ | _ | _ | _ | _ | _ | _ | _ | _ | _ | _ | _ | _ | _ | _ | _ | _ | _ | _ | _ | _ | r
    · exact R0.out P (B1.out.trans (hP.mono B1.out.size))
    · exact HB1.out P (S21.out.trans (hP.mono S21.out.size))
    · exact R2.out P (B2.out.trans (hP.mono B2.out.size))
    · exact R3.out P (B3.out.trans (hP.mono B3.out.size))
    · exact R4.out P (B4.out.trans (hP.mono B4.out.size))
    · exact R5.out P (B5.out.trans (hP.mono B5.out.size))
    · exact R6.out P (B6.out.trans (hP.mono B6.out.size))
    · exact R7.out P (B7.out.trans (hP.mono B7.out.size))
    · exact R8.out P (B8.out.trans (hP.mono B8.out.size))
    · exact R9.out P (B9.out.trans (hP.mono B9.out.size))
    · exact R10.out P (B10.out.trans (hP.mono B10.out.size))
    · exact R11.out P (B11.out.trans (hP.mono B11.out.size))
    · exact R12.out P (B12.out.trans (hP.mono B12.out.size))
    · exact R13.out P (B13.out.trans (hP.mono B13.out.size))
    · exact R14.out P (B14.out.trans (hP.mono B14.out.size))
    · exact (HIN.out P (S21.out.trans (hP.mono S21.out.size))).i15
    · exact (HIN.out P (S21.out.trans (hP.mono S21.out.size))).i16
    · exact R17.out P (B15.out.trans (hP.mono B15.out.size))
    · exact R18.out P (B16.out.trans (hP.mono B16.out.size))
    · exact R19.out P (B17.out.trans (hP.mono B17.out.size))
    · exact R20.out P (B18.out.trans (hP.mono B18.out.size))
    · exact R21.out P (B19.out.trans (hP.mono B19.out.size))
    · exact R22.out P (B20.out.trans (hP.mono B20.out.size))
    · exact R23.out P (B21.out.trans (hP.mono B21.out.size))
    · omega
  obtain ⟨CP, eCP⟩ : ∃ CP, (ps.map ptv).toArray = CP := ⟨_, rfl⟩
  have HFM : Hid (∀ (P : World) gp gs, Below X21.heap.size X21 P → P.heap[gp]? = some (.cells CP 39) → P.heap[gs]? = some (.cells (vs .i64 24 zS) 3) → Calls Try.prog 22 #[.slice (some ⟨gp, 0, none⟩) 24 24, .slice (some ⟨gs, 0, none⟩) 24 24] P fun e w' => ∃ v, e = .returned (.tuple #[v, .int .i64 0]) ∧ w'.ownsRow P.heap.size 5 1 v TL V ∧ Below P.heap.size P w') := fun P gp gs hP h1 h2 => HFL.out P gp gs ps hq (by rw [eCP]; exact h1) h2 (hby P hP)
  rw [eps, eCP] at hbs
  have HBS := hid hbs
  clear hbs eCP eps hq hby R0 R2 R3 R4 R5 R6 R7 R8 R9 R10 R11 R12 R13 R14 R17 R18 R19 R20 R21 R22 R23
  refine wpAnyH_ready (rs := [69, 70]) (by kernel_rfl) (by simp) ?_
  refine AllReadyH.cons rfl (fun K hK => ?_) (AllReadyH.cons rfl (fun K hK => ?_) AllReadyH.nil)
  · have bs := HBS.out X21
    go_simp
    have hQ : Below X21.heap.size X21 (X21.alloc (.cells CP 39)) := (Below.refl _ _).alloc (Nat.le_refl _) _
    have HQ := hid hQ
    clear hQ
    refine hK.out _ _ (S21.out.trans (HQ.out.mono S21.out.size)) (fun hHeld => ?_)
    clear hK K bs
    try simp only [Act.put, List.setIfInBounds_toArray, List.set_cons_zero, List.set_cons_succ, Array.toArray_toList, List.getElem_toArray, List.getElem_cons_zero, List.getElem_cons_succ]
    refine wpAnyH_ready (rs := [70]) (by kernel_rfl) (by simp) ?_
    refine AllReadyH.cons rfl (fun K hK => ?_) AllReadyH.nil
    go_simp
    refine (fsz_any _).mono ?_
    rintro e P ⟨rfl, hP⟩
    dsimp only
    have HP : Hid (Below X21.heap.size X21 P) := by rw [hP]; exact HQ.out.alloc (by simp) _
    have FL := hid (HFM.out P X21.heap.size (X21.heap.size + 1) HP.out (by rw [hP]; exact (heap_old (by simp)).trans (heap_new rfl)) (by rw [hP]; exact heap_new (by simp)))
    rw [show (X21.alloc (.cells CP 39)).heap.size = X21.heap.size + 1 by simp]
    clear hP
    refine hK.out _ _ (S21.out.trans (HP.out.mono S21.out.size)) (fun hHeld => ?_)
    clear hK K
    try simp only [Act.put, List.setIfInBounds_toArray, List.set_cons_zero, List.set_cons_succ, Array.toArray_toList, List.getElem_toArray, List.getElem_cons_zero, List.getElem_cons_succ]
    refine wpAnyH_ready (rs := [71]) (by kernel_rfl) (by simp) ?_
    refine AllReadyH.cons rfl (fun K hK => ?_) AllReadyH.nil
    go_simp
    refine (FL.out).mono ?_
    rintro e Y ⟨v, rfl, ho, hbY⟩
    dsimp only
    refine hK.out _ _ (S21.out.trans ((HP.out.mono S21.out.size).trans (hbY.mono (by have := S21.out.size; have := HP.out.size; omega)))) (fun hHeld => ?_)
    clear hK K
    try simp only [Act.put, List.setIfInBounds_toArray, List.set_cons_zero, List.set_cons_succ, Array.toArray_toList, List.getElem_toArray, List.getElem_cons_zero, List.getElem_cons_succ]
    refine tk 72 (v := ?v49) ?y49 hHeld ?r49
    case y49 => intro w hSw; go_simp; try with_reducible rfl
    refine tk 73 (v := ?v50) ?y50 hHeld ?r50
    case y50 => intro w hSw; go_simp; try with_reducible rfl
    refine tk 74 (v := ?v51) ?y51 hHeld ?r51
    case y51 => intro w hSw; go_simp; try with_reducible rfl
    refine tk 75 (v := ?v52) ?y52 hHeld ?r52
    case y52 => intro w hSw; go_simp; try with_reducible rfl
    try simp only [Act.put, List.setIfInBounds_toArray, List.set_cons_zero, List.set_cons_succ, Array.toArray_toList, List.getElem_toArray, List.getElem_cons_zero, List.getElem_cons_succ]
    refine wpAnyH_done (by kernel_rfl) ?_ _
    refine NoPanic.normal ?_
    go_wp2
    go_ret2
    rename_i u1 d1 h1 u2 d2 h2
    have k1 : some 3 = some d1 := h1
    cases k1
    have k2 : some 2 = some d2 := h2
    cases k2
    have e0 := EY.out
    have e1 := HB0w.out.size
    have e2 := S21.out.size
    have e3 := HP.out.size
    exact ⟨v, rfl, (ho.mono (by omega) : _), HB0w.out.trans ((S21.out.mono (by omega)).trans ((HP.out.mono (by omega)).trans (hbY.mono (by omega))))⟩
  · go_simp
    refine (fsz_any _).mono ?_
    rintro e Q ⟨rfl, hQ⟩
    dsimp only
    have HQ : Hid (Below X21.heap.size X21 Q) := by rw [hQ]; exact (Below.refl _ _).alloc (Nat.le_refl _) _
    have sQ : Q.heap.size = X21.heap.size + 1 := by rw [hQ]; simp
    have rQ : Q.heap[X21.heap.size]? = some (.cells (vs .i64 24 zS) 3) := by rw [hQ]; exact heap_new rfl
    have SQ := hid sQ
    have RQ := hid rQ
    clear hQ sQ rQ
    refine hK.out _ _ (S21.out.trans (HQ.out.mono S21.out.size)) (fun hHeld => ?_)
    clear hK K
    try simp only [Act.put, List.setIfInBounds_toArray, List.set_cons_zero, List.set_cons_succ, Array.toArray_toList, List.getElem_toArray, List.getElem_cons_zero, List.getElem_cons_succ]
    refine wpAnyH_ready (rs := [69]) (by kernel_rfl) (by simp) ?_
    refine AllReadyH.cons rfl (fun K hK => ?_) AllReadyH.nil
    have bs := HBS.out Q
    go_simp
    obtain ⟨P, hP⟩ : ∃ P, Q.alloc (.cells CP 39) = P := ⟨_, rfl⟩
    rw [hP]
    have HP : Hid (Below X21.heap.size X21 P) := by rw [← hP]; exact HQ.out.alloc (by have := SQ.out; omega) _
    have FL := hid (HFM.out P Q.heap.size X21.heap.size HP.out (by rw [← hP]; exact heap_new rfl) (by rw [← hP]; exact (heap_old (by have := SQ.out; omega)).trans RQ.out))
    clear hP
    refine hK.out _ _ (S21.out.trans (HP.out.mono S21.out.size)) (fun hHeld => ?_)
    clear hK K bs
    try simp only [Act.put, List.setIfInBounds_toArray, List.set_cons_zero, List.set_cons_succ, Array.toArray_toList, List.getElem_toArray, List.getElem_cons_zero, List.getElem_cons_succ]
    refine wpAnyH_ready (rs := [71]) (by kernel_rfl) (by simp) ?_
    refine AllReadyH.cons rfl (fun K hK => ?_) AllReadyH.nil
    go_simp
    refine (FL.out).mono ?_
    rintro e Y ⟨v, rfl, ho, hbY⟩
    dsimp only
    refine hK.out _ _ (S21.out.trans ((HP.out.mono S21.out.size).trans (hbY.mono (by have := S21.out.size; have := HP.out.size; omega)))) (fun hHeld => ?_)
    clear hK K
    try simp only [Act.put, List.setIfInBounds_toArray, List.set_cons_zero, List.set_cons_succ, Array.toArray_toList, List.getElem_toArray, List.getElem_cons_zero, List.getElem_cons_succ]
    refine tk 72 (v := ?v53) ?y53 hHeld ?r53
    case y53 => intro w hSw; go_simp; try with_reducible rfl
    refine tk 73 (v := ?v54) ?y54 hHeld ?r54
    case y54 => intro w hSw; go_simp; try with_reducible rfl
    refine tk 74 (v := ?v55) ?y55 hHeld ?r55
    case y55 => intro w hSw; go_simp; try with_reducible rfl
    refine tk 75 (v := ?v56) ?y56 hHeld ?r56
    case y56 => intro w hSw; go_simp; try with_reducible rfl
    try simp only [Act.put, List.setIfInBounds_toArray, List.set_cons_zero, List.set_cons_succ, Array.toArray_toList, List.getElem_toArray, List.getElem_cons_zero, List.getElem_cons_succ]
    refine wpAnyH_done (by kernel_rfl) ?_ _
    refine NoPanic.normal ?_
    go_wp2
    go_ret2
    rename_i u1 d1 h1 u2 d2 h2
    have k1 : some 3 = some d1 := h1
    cases k1
    have k2 : some 2 = some d2 := h2
    cases k2
    have e0 := EY.out
    have e1 := HB0w.out.size
    have e2 := S21.out.size
    have e3 := HP.out.size
    exact ⟨v, rfl, (ho.mono (by omega) : _), HB0w.out.trans ((S21.out.mono (by omega)).trans ((HP.out.mono (by omega)).trans (hbY.mono (by omega))))⟩

end Go.Proofs.Ytehpfemlcjcabaa
