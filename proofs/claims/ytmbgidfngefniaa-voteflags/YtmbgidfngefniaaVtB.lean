/-
  What the program's Flags answers.
-/

import Derived.Test.YtmbgidfngefniaaVtA
import Derived.Test.YtmbgidfngefniaaLkR
namespace Go.Proofs.Ytmbgidfngefniaa

open Go.RowKit

set_option linter.unusedVariables false

set_option linter.unusedSimpArgs false

set_option maxRecDepth 20000

attribute [local go_sem ↓] lvState_eq svState_eq bdState_eq sv24_eq lv24_eq lvData_eq lvCheckpoint_eq svK_eq lvF_eq svF_eq bdF_eq neoK_eq eqo_eq

set_option maxHeartbeats 1000000 in
theorem vepo_any (x : VState) (w : World) (h0 : 0 ≤ x.f2) (h1 : x.f2 < 1099511627776) :
    Calls Try.prog 23 #[.agg (cel (sState x))] w fun e' w' => e' = .returned (.int .u64 (x.f2 / 4)) ∧ Below w.heap.size w w' := by
  obtain ⟨W0, hW0⟩ : ∃ W, w.alloc (.cells (cel (sState x)) 49) = W := ⟨_, rfl⟩
  have r0 : W0.heap[w.heap.size]? = some (.cells (cel (sState x)) 49) := by rw [← hW0]; exact heap_new rfl
  have hB0 : Below w.heap.size w W0 := by rw [← hW0]; exact (Below.refl _ _).alloc (Nat.le_refl _) _
  have l2 := cS2 r0
  generalize x.f2 = p at *
  have HB := hid hB0
  have HW := hid hW0
  clear hB0 hW0 r0
  go_enter Try.func23, Try.ntmps23
  go_upto_region 1 with fail
  rw [HW.out]
  clear HW
  go_wp2
  go_ret
  exact ⟨rfl, HB.out⟩

/-- A state and a data in two blocks. -/
theorem two_blocks (x : VState) (d : VData) (w : World) : ∃ W0, (w.alloc (.cells (cel (sState x)) 49)).alloc (.cells (cel (sData d)) 51) = W0 ∧ W0.heap[w.heap.size]? = some (.cells (cel (sState x)) 49) ∧ W0.heap[w.heap.size + 1]? = some (.cells (cel (sData d)) 51) ∧ Up w W0 ∧ W0.heap.size = w.heap.size + 2 :=
  ⟨_, rfl, (heap_old (by simp)).trans (heap_new rfl), heap_new (by simp), ((Below.refl _ _).alloc (Nat.le_refl _) _).alloc (by simp) _, by simp⟩

set_option maxHeartbeats 1000000 in
theorem vdel_any (x : VState) (d : VData) (w : World) (hx : OkState x) (hd : OkData d) :
    Calls Try.prog 25 #[.agg (cel (sState x)), .agg (cel (sData d))] w fun e' w' => e' = .returned (.int .u64 (lesV x.f2 d.f0)) ∧ Below w.heap.size w w' := by
  obtain ⟨W0, hW0, r0, r1, hB0, _⟩ := two_blocks x d w
  have l2 := cS2 r0
  have l0 := dC0 r1
  have hls := lessR_any x.f2 d.f0 W0 hx.o2.1 hx.o2.2 hd.1.1 hd.1.2
  generalize lesV x.f2 d.f0 = R at *
  generalize x.f2 = p at *
  generalize d.f0 = q at *
  have HB := hid hB0
  have HW := hid hW0
  have HLS := hid hls
  clear hB0 hW0 r0 r1 hls hx hd
  go_enter Try.func25, Try.ntmps25
  go_upto_region 1 with fail
  rw [HW.out]
  clear HW
  go_wp2_with (go_at_call 24; refine HLS.out.mono ?_; rintro e' w2 ⟨rfl, hw2⟩; obtain rfl := hw2.symm)
  go_ret
  exact ⟨rfl, HB.out⟩

set_option maxHeartbeats 8000000 in
theorem vtime_any (x : VState) (d : VData) (w : World) (hx : OkState x) (hs : x.f2 < 1099511627776) (hd : OkData d) :
    Calls Try.prog 10 #[.agg (cel (sState x)), .agg (cel (sData d))] w fun e' w' => e' = .returned (.int .i64 (tmE x d)) ∧ Below w.heap.size w w' := by
  obtain ⟨W0, hW0, r0, r1, hB0, _⟩ := two_blocks x d w
  have h67 : ∀ W, Up W0 W → W.cell? ⟨w.heap.size + 1, 67, none⟩ = some (.int .u64 d.f4.f0) := fun W h => dC67 (upR h r1)
  have h0 : ∀ W, Up W0 W → W.cell? ⟨w.heap.size + 1, 0, none⟩ = some (.int .u64 d.f0) := fun W h => dC0 (upR h r1)
  have hlx : ∀ W, Up W0 W → (lvState ⟨w.heap.size, 0, none⟩).run Try.prog W = .ok (.agg (cel (sState x))) W := fun W h => lvState_run (upR h r0)
  have hld : ∀ W, Up W0 W → (lvData ⟨w.heap.size + 1, 0, none⟩).run Try.prog W = .ok (.agg (cel (sData d))) W := fun W h => lvD_row (upR h r1)
  have hep := fun W : World => vepo_any x W hx.o2.1 hs
  have hdl := fun W : World => vdel_any x d W hx hd
  have hp := hx.o2
  have hq := hd.1
  have hE : tmE x d = if (d.f4.f0 = x.f2 / 4 ∨ d.f4.f0 = lesV (x.f2 / 4) 1) ∧ d.f4.f0 = d.f0 / 4 then (if d.f0 < x.f2 ∧ x.f2 - d.f0 ≤ 4 then 0 else 31) else 29 := rfl
  have hD : lesV x.f2 d.f0 = if x.f2 < d.f0 then 0 else x.f2 - d.f0 := rfl
  have hlp := fun W : World => lessR_any (x.f2 / 4) 1 W (by omega) (by omega) (by omega) (by omega)
  generalize tmE x d = R at *
  generalize lesV x.f2 d.f0 = D at *
  obtain ⟨Q, hQ⟩ : ∃ Q, d.f0 / 4 = Q := ⟨_, rfl⟩
  have q1 : d.f0.tdiv 4 = Q := by rw [Int.tdiv_eq_ediv_of_nonneg hq.1]; exact hQ
  have q3 : IntKind.u64.wrap Q = Q := by rw [IntKind.wrap_u64]; omega
  have q4 := hq.1
  rw [hQ] at hE
  generalize lesV (x.f2 / 4) 1 = P at *
  generalize x.f2 / 4 = E at *
  generalize d.f4.f0 = T at *
  generalize d.f0 = S at *
  generalize x.f2 = p at *
  have HB := hid hB0
  have HW := hid hW0
  have H67 := hid h67
  have H0 := hid h0
  have HLX := hid hlx
  have HLD := hid hld
  have HEP := hid hep
  have HDL := hid hdl
  have HLP := hid hlp
  have lx := hlx W0 (Below.refl _ _)
  clear hB0 hW0 r0 r1 h67 h0 hlx hld hep hdl hlp hx hd hs
  by_cases hT : T = E
  · subst hT
    by_cases hq4 : T = Q
    · subst hq4
      by_cases h1 : D < 1
      · have HR := hid (show R = 31 by rw [hE, if_pos ⟨Or.inl rfl, rfl⟩, if_neg (by split at hD <;> omega)])
        clear hE hD hp hq
        go_enter Try.func10, Try.ntmps10
        go_upto_region 1 with fail
        rw [HW.out]
        clear HW
        go_upto_region 2 with (go_at_call 23; refine (HEP.out W0).mono ?_; rintro e' w1 ⟨rfl, hb1⟩)
        have HB1 := hid hb1
        clear hb1
        refine wp_region_noPanic ?_
        refine wp_region_held_drew (S := fun W => Up W0 W) (by kernel_rfl) (HB1.out.drew) (fun hHeld => ?_)
        refine tk 0 (v := ?v1) ?y1 hHeld ?r1
        case y1 => intro w hSw; go_simp; try with_reducible rfl
        refine tk 1 (v := ?v2) ?y2 hHeld ?r2
        case y2 => intro w hSw; go_simp; try with_reducible rfl
        refine tk 2 (v := ?v3) ?y3 hHeld ?r3
        case y3 => intro w hSw; have ld0 := H67.out _ hSw; go_simp; try with_reducible rfl
        refine tk 3 (v := ?v4) ?y4 hHeld ?r4
        case y4 => intro w hSw; go_simp; try with_reducible rfl
        refine tk 4 (v := ?v5) ?y5 hHeld ?r5
        case y5 => intro w hSw; go_simp; try with_reducible rfl
        refine tk 5 (v := ?v6) ?y6 hHeld ?r6
        case y6 => intro w hSw; go_simp; try with_reducible rfl
        refine tl 6 hHeld ?_
        refine tl 7 hHeld ?_
        refine tl 8 hHeld ?_
        refine tl 9 hHeld ?_
        refine tl 10 hHeld ?_
        refine tl 11 hHeld ?_
        refine tk 12 (v := ?v7) ?y7 hHeld ?r7
        case y7 => intro w hSw; go_simp; try with_reducible rfl
        refine tk 13 (v := ?v8) ?y8 hHeld ?r8
        case y8 => intro w hSw; go_simp; try with_reducible rfl
        try simp only [Act.put, List.setIfInBounds_toArray, List.set_cons_zero, List.set_cons_succ, Array.toArray_toList, List.getElem_toArray, List.getElem_cons_zero, List.getElem_cons_succ]
        refine wpAnyH_done (by kernel_rfl) ?_ _
        refine NoPanic.normal ?_
        have hw1 : Up W0 _ := hHeld
        have l67 := H67.out _ hw1
        have l0 := H0.out _ hw1
        have lx := HLX.out _ hw1
        have ld := HLD.out _ hw1
        have HW1 := hid hw1
        clear hw1
        go_wp2_with (go_at_call 25; refine (HDL.out _).mono ?_; rintro e' w3 ⟨rfl, hb3⟩; have HB3 := hid hb3; clear hb3)
        go_ret
        exact ⟨ret_int HR.out.symm, upT HB.out (upT HW1.out HB3.out)⟩
      · have h1z : ¬ D < 1 := h1
        by_cases h2 : 4 < D
        · have HR := hid (show R = 31 by rw [hE, if_pos ⟨Or.inl rfl, rfl⟩, if_neg (by split at hD <;> omega)])
          clear hE hD hp hq
          go_enter Try.func10, Try.ntmps10
          go_upto_region 1 with fail
          rw [HW.out]
          clear HW
          go_upto_region 2 with (go_at_call 23; refine (HEP.out W0).mono ?_; rintro e' w1 ⟨rfl, hb1⟩)
          have HB1 := hid hb1
          clear hb1
          refine wp_region_noPanic ?_
          refine wp_region_held_drew (S := fun W => Up W0 W) (by kernel_rfl) (HB1.out.drew) (fun hHeld => ?_)
          refine tk 0 (v := ?v9) ?y9 hHeld ?r9
          case y9 => intro w hSw; go_simp; try with_reducible rfl
          refine tk 1 (v := ?v10) ?y10 hHeld ?r10
          case y10 => intro w hSw; go_simp; try with_reducible rfl
          refine tk 2 (v := ?v11) ?y11 hHeld ?r11
          case y11 => intro w hSw; have ld0 := H67.out _ hSw; go_simp; try with_reducible rfl
          refine tk 3 (v := ?v12) ?y12 hHeld ?r12
          case y12 => intro w hSw; go_simp; try with_reducible rfl
          refine tk 4 (v := ?v13) ?y13 hHeld ?r13
          case y13 => intro w hSw; go_simp; try with_reducible rfl
          refine tk 5 (v := ?v14) ?y14 hHeld ?r14
          case y14 => intro w hSw; go_simp; try with_reducible rfl
          refine tl 6 hHeld ?_
          refine tl 7 hHeld ?_
          refine tl 8 hHeld ?_
          refine tl 9 hHeld ?_
          refine tl 10 hHeld ?_
          refine tl 11 hHeld ?_
          refine tk 12 (v := ?v15) ?y15 hHeld ?r15
          case y15 => intro w hSw; go_simp; try with_reducible rfl
          refine tk 13 (v := ?v16) ?y16 hHeld ?r16
          case y16 => intro w hSw; go_simp; try with_reducible rfl
          try simp only [Act.put, List.setIfInBounds_toArray, List.set_cons_zero, List.set_cons_succ, Array.toArray_toList, List.getElem_toArray, List.getElem_cons_zero, List.getElem_cons_succ]
          refine wpAnyH_done (by kernel_rfl) ?_ _
          refine NoPanic.normal ?_
          have hw1 : Up W0 _ := hHeld
          have l67 := H67.out _ hw1
          have l0 := H0.out _ hw1
          have lx := HLX.out _ hw1
          have ld := HLD.out _ hw1
          have HW1 := hid hw1
          clear hw1
          go_wp2_with (go_at_call 25; refine (HDL.out _).mono ?_; rintro e' w3 ⟨rfl, hb3⟩; have HB3 := hid hb3; clear hb3)
          go_ret
          exact ⟨ret_int HR.out.symm, upT HB.out (upT HW1.out HB3.out)⟩
        · have HR := hid (show R = 0 by rw [hE, if_pos ⟨Or.inl rfl, rfl⟩, if_pos (by split at hD <;> omega)])
          clear hE hD hp hq
          go_enter Try.func10, Try.ntmps10
          go_upto_region 1 with fail
          rw [HW.out]
          clear HW
          go_upto_region 2 with (go_at_call 23; refine (HEP.out W0).mono ?_; rintro e' w1 ⟨rfl, hb1⟩)
          have HB1 := hid hb1
          clear hb1
          refine wp_region_noPanic ?_
          refine wp_region_held_drew (S := fun W => Up W0 W) (by kernel_rfl) (HB1.out.drew) (fun hHeld => ?_)
          refine tk 0 (v := ?v17) ?y17 hHeld ?r17
          case y17 => intro w hSw; go_simp; try with_reducible rfl
          refine tk 1 (v := ?v18) ?y18 hHeld ?r18
          case y18 => intro w hSw; go_simp; try with_reducible rfl
          refine tk 2 (v := ?v19) ?y19 hHeld ?r19
          case y19 => intro w hSw; have ld0 := H67.out _ hSw; go_simp; try with_reducible rfl
          refine tk 3 (v := ?v20) ?y20 hHeld ?r20
          case y20 => intro w hSw; go_simp; try with_reducible rfl
          refine tk 4 (v := ?v21) ?y21 hHeld ?r21
          case y21 => intro w hSw; go_simp; try with_reducible rfl
          refine tk 5 (v := ?v22) ?y22 hHeld ?r22
          case y22 => intro w hSw; go_simp; try with_reducible rfl
          refine tl 6 hHeld ?_
          refine tl 7 hHeld ?_
          refine tl 8 hHeld ?_
          refine tl 9 hHeld ?_
          refine tl 10 hHeld ?_
          refine tl 11 hHeld ?_
          refine tk 12 (v := ?v23) ?y23 hHeld ?r23
          case y23 => intro w hSw; go_simp; try with_reducible rfl
          refine tk 13 (v := ?v24) ?y24 hHeld ?r24
          case y24 => intro w hSw; go_simp; try with_reducible rfl
          try simp only [Act.put, List.setIfInBounds_toArray, List.set_cons_zero, List.set_cons_succ, Array.toArray_toList, List.getElem_toArray, List.getElem_cons_zero, List.getElem_cons_succ]
          refine wpAnyH_done (by kernel_rfl) ?_ _
          refine NoPanic.normal ?_
          have hw1 : Up W0 _ := hHeld
          have l67 := H67.out _ hw1
          have l0 := H0.out _ hw1
          have lx := HLX.out _ hw1
          have ld := HLD.out _ hw1
          have HW1 := hid hw1
          clear hw1
          go_wp2_with (go_at_call 25; refine (HDL.out _).mono ?_; rintro e' w3 ⟨rfl, hb3⟩; have HB3 := hid hb3; clear hb3)
          go_ret
          exact ⟨ret_int HR.out.symm, upT HB.out (upT HW1.out HB3.out)⟩
    · have HR := hid (show R = 29 by rw [hE, if_neg (fun h => hq4 h.2)])
      have hq5 : (T != Q) = true := by simp [hq4]
      clear hE hD hp hq
      go_enter Try.func10, Try.ntmps10
      go_upto_region 1 with fail
      rw [HW.out]
      clear HW
      go_upto_region 2 with (go_at_call 23; refine (HEP.out W0).mono ?_; rintro e' w1 ⟨rfl, hb1⟩)
      have HB1 := hid hb1
      clear hb1
      refine wp_region_noPanic ?_
      refine wp_region_held_drew (S := fun W => Up W0 W) (by kernel_rfl) (HB1.out.drew) (fun hHeld => ?_)
      refine tk 0 (v := ?v25) ?y25 hHeld ?r25
      case y25 => intro w hSw; go_simp; try with_reducible rfl
      refine tk 1 (v := ?v26) ?y26 hHeld ?r26
      case y26 => intro w hSw; go_simp; try with_reducible rfl
      refine tk 2 (v := ?v27) ?y27 hHeld ?r27
      case y27 => intro w hSw; have ld0 := H67.out _ hSw; go_simp; try with_reducible rfl
      refine tk 3 (v := ?v28) ?y28 hHeld ?r28
      case y28 => intro w hSw; go_simp; try with_reducible rfl
      refine tk 4 (v := ?v29) ?y29 hHeld ?r29
      case y29 => intro w hSw; go_simp; try with_reducible rfl
      refine tk 5 (v := ?v30) ?y30 hHeld ?r30
      case y30 => intro w hSw; go_simp; try with_reducible rfl
      refine tl 6 hHeld ?_
      refine tl 7 hHeld ?_
      refine tl 8 hHeld ?_
      refine tl 9 hHeld ?_
      refine tl 10 hHeld ?_
      refine tl 11 hHeld ?_
      refine tk 12 (v := ?v31) ?y31 hHeld ?r31
      case y31 => intro w hSw; go_simp; try with_reducible rfl
      refine tk 13 (v := ?v32) ?y32 hHeld ?r32
      case y32 => intro w hSw; go_simp; try with_reducible rfl
      try simp only [Act.put, List.setIfInBounds_toArray, List.set_cons_zero, List.set_cons_succ, Array.toArray_toList, List.getElem_toArray, List.getElem_cons_zero, List.getElem_cons_succ]
      refine wpAnyH_done (by kernel_rfl) ?_ _
      refine NoPanic.normal ?_
      have hw1 : Up W0 _ := hHeld
      have l67 := H67.out _ hw1
      have l0 := H0.out _ hw1
      go_wp2
      go_ret
      exact ⟨ret_int HR.out.symm, upT HB.out hw1⟩
  · by_cases hT3 : T = P
    · have hT1 : (T == E) = false := by simp [hT]
      have hT2 : decide (T = E) = false := by simp [hT]
      subst hT3
      by_cases hq4 : T = Q
      · subst hq4
        by_cases h1 : D < 1
        · have HR := hid (show R = 31 by rw [hE, if_pos ⟨Or.inr rfl, rfl⟩, if_neg (by split at hD <;> omega)])
          clear hE hD hp hq
          go_enter Try.func10, Try.ntmps10
          go_upto_region 1 with fail
          rw [HW.out]
          clear HW
          go_upto_region 2 with (go_at_call 23; refine (HEP.out W0).mono ?_; rintro e' w1 ⟨rfl, hb1⟩)
          have HB1 := hid hb1
          clear hb1
          refine wp_region_noPanic ?_
          refine wp_region_held_drew (S := fun W => Up W0 W) (by kernel_rfl) (HB1.out.drew) (fun hHeld => ?_)
          refine tk 0 (v := ?v33) ?y33 hHeld ?r33
          case y33 => intro w hSw; go_simp; try with_reducible rfl
          refine tk 1 (v := ?v34) ?y34 hHeld ?r34
          case y34 => intro w hSw; go_simp; try with_reducible rfl
          refine tk 2 (v := ?v35) ?y35 hHeld ?r35
          case y35 => intro w hSw; have ld0 := H67.out _ hSw; go_simp; try with_reducible rfl
          refine tk 3 (v := ?v36) ?y36 hHeld ?r36
          case y36 => intro w hSw; go_simp; try with_reducible rfl
          refine tk 4 (v := ?v37) ?y37 hHeld ?r37
          case y37 => intro w hSw; go_simp; try with_reducible rfl
          refine tk 5 (v := ?v38) ?y38 hHeld ?r38
          case y38 => intro w hSw; go_simp; try with_reducible rfl
          refine tk 6 (v := ?v39) ?y39 hHeld ?r39
          case y39 => intro w hSw; go_simp; try with_reducible rfl
          refine tk 7 (v := ?v40) ?y40 hHeld ?r40
          case y40 => intro w hSw; go_simp; try with_reducible rfl
          refine tk 8 (v := ?v41) ?y41 hHeld ?r41
          case y41 => intro w hSw; have ld0 := H67.out _ hSw; go_simp; try with_reducible rfl
          refine tk 9 (v := ?v42) ?y42 hHeld ?r42
          case y42 => intro w hSw; go_simp; try with_reducible rfl
          try simp only [Act.put, List.setIfInBounds_toArray, List.set_cons_zero, List.set_cons_succ, Array.toArray_toList, List.getElem_toArray, List.getElem_cons_zero, List.getElem_cons_succ]
          refine wpAnyH_ready (rs := [10]) (by kernel_rfl) (by simp) ?_
          refine AllReadyH.cons rfl (fun K hK => ?_) AllReadyH.nil
          go_simp
          refine (HLP.out _).mono ?_
          rintro e' w2 ⟨rfl, hw2⟩
          dsimp only
          obtain rfl := hw2.symm
          refine hK.out _ _ (hHeld) (fun hHeld => ?_)
          clear hK K
          try simp only [Act.put, List.setIfInBounds_toArray, List.set_cons_zero, List.set_cons_succ, Array.toArray_toList, List.getElem_toArray, List.getElem_cons_zero, List.getElem_cons_succ]
          refine tk 11 (v := ?v43) ?y43 hHeld ?r43
          case y43 => intro w hSw; go_simp; try with_reducible rfl
          refine tk 12 (v := ?v44) ?y44 hHeld ?r44
          case y44 => intro w hSw; go_simp; try with_reducible rfl
          refine tk 13 (v := ?v45) ?y45 hHeld ?r45
          case y45 => intro w hSw; go_simp; try with_reducible rfl
          try simp only [Act.put, List.setIfInBounds_toArray, List.set_cons_zero, List.set_cons_succ, Array.toArray_toList, List.getElem_toArray, List.getElem_cons_zero, List.getElem_cons_succ]
          refine wpAnyH_done (by kernel_rfl) ?_ _
          refine NoPanic.normal ?_
          have hw1 : Up W0 _ := hHeld
          have l67 := H67.out _ hw1
          have l0 := H0.out _ hw1
          have lx := HLX.out _ hw1
          have ld := HLD.out _ hw1
          have HW1 := hid hw1
          clear hw1
          go_wp2_with (go_at_call 25; refine (HDL.out _).mono ?_; rintro e' w3 ⟨rfl, hb3⟩; have HB3 := hid hb3; clear hb3)
          go_ret
          exact ⟨ret_int HR.out.symm, upT HB.out (upT HW1.out HB3.out)⟩
        · have h1z : ¬ D < 1 := h1
          by_cases h2 : 4 < D
          · have HR := hid (show R = 31 by rw [hE, if_pos ⟨Or.inr rfl, rfl⟩, if_neg (by split at hD <;> omega)])
            clear hE hD hp hq
            go_enter Try.func10, Try.ntmps10
            go_upto_region 1 with fail
            rw [HW.out]
            clear HW
            go_upto_region 2 with (go_at_call 23; refine (HEP.out W0).mono ?_; rintro e' w1 ⟨rfl, hb1⟩)
            have HB1 := hid hb1
            clear hb1
            refine wp_region_noPanic ?_
            refine wp_region_held_drew (S := fun W => Up W0 W) (by kernel_rfl) (HB1.out.drew) (fun hHeld => ?_)
            refine tk 0 (v := ?v46) ?y46 hHeld ?r46
            case y46 => intro w hSw; go_simp; try with_reducible rfl
            refine tk 1 (v := ?v47) ?y47 hHeld ?r47
            case y47 => intro w hSw; go_simp; try with_reducible rfl
            refine tk 2 (v := ?v48) ?y48 hHeld ?r48
            case y48 => intro w hSw; have ld0 := H67.out _ hSw; go_simp; try with_reducible rfl
            refine tk 3 (v := ?v49) ?y49 hHeld ?r49
            case y49 => intro w hSw; go_simp; try with_reducible rfl
            refine tk 4 (v := ?v50) ?y50 hHeld ?r50
            case y50 => intro w hSw; go_simp; try with_reducible rfl
            refine tk 5 (v := ?v51) ?y51 hHeld ?r51
            case y51 => intro w hSw; go_simp; try with_reducible rfl
            refine tk 6 (v := ?v52) ?y52 hHeld ?r52
            case y52 => intro w hSw; go_simp; try with_reducible rfl
            refine tk 7 (v := ?v53) ?y53 hHeld ?r53
            case y53 => intro w hSw; go_simp; try with_reducible rfl
            refine tk 8 (v := ?v54) ?y54 hHeld ?r54
            case y54 => intro w hSw; have ld0 := H67.out _ hSw; go_simp; try with_reducible rfl
            refine tk 9 (v := ?v55) ?y55 hHeld ?r55
            case y55 => intro w hSw; go_simp; try with_reducible rfl
            try simp only [Act.put, List.setIfInBounds_toArray, List.set_cons_zero, List.set_cons_succ, Array.toArray_toList, List.getElem_toArray, List.getElem_cons_zero, List.getElem_cons_succ]
            refine wpAnyH_ready (rs := [10]) (by kernel_rfl) (by simp) ?_
            refine AllReadyH.cons rfl (fun K hK => ?_) AllReadyH.nil
            go_simp
            refine (HLP.out _).mono ?_
            rintro e' w2 ⟨rfl, hw2⟩
            dsimp only
            obtain rfl := hw2.symm
            refine hK.out _ _ (hHeld) (fun hHeld => ?_)
            clear hK K
            try simp only [Act.put, List.setIfInBounds_toArray, List.set_cons_zero, List.set_cons_succ, Array.toArray_toList, List.getElem_toArray, List.getElem_cons_zero, List.getElem_cons_succ]
            refine tk 11 (v := ?v56) ?y56 hHeld ?r56
            case y56 => intro w hSw; go_simp; try with_reducible rfl
            refine tk 12 (v := ?v57) ?y57 hHeld ?r57
            case y57 => intro w hSw; go_simp; try with_reducible rfl
            refine tk 13 (v := ?v58) ?y58 hHeld ?r58
            case y58 => intro w hSw; go_simp; try with_reducible rfl
            try simp only [Act.put, List.setIfInBounds_toArray, List.set_cons_zero, List.set_cons_succ, Array.toArray_toList, List.getElem_toArray, List.getElem_cons_zero, List.getElem_cons_succ]
            refine wpAnyH_done (by kernel_rfl) ?_ _
            refine NoPanic.normal ?_
            have hw1 : Up W0 _ := hHeld
            have l67 := H67.out _ hw1
            have l0 := H0.out _ hw1
            have lx := HLX.out _ hw1
            have ld := HLD.out _ hw1
            have HW1 := hid hw1
            clear hw1
            go_wp2_with (go_at_call 25; refine (HDL.out _).mono ?_; rintro e' w3 ⟨rfl, hb3⟩; have HB3 := hid hb3; clear hb3)
            go_ret
            exact ⟨ret_int HR.out.symm, upT HB.out (upT HW1.out HB3.out)⟩
          · have HR := hid (show R = 0 by rw [hE, if_pos ⟨Or.inr rfl, rfl⟩, if_pos (by split at hD <;> omega)])
            clear hE hD hp hq
            go_enter Try.func10, Try.ntmps10
            go_upto_region 1 with fail
            rw [HW.out]
            clear HW
            go_upto_region 2 with (go_at_call 23; refine (HEP.out W0).mono ?_; rintro e' w1 ⟨rfl, hb1⟩)
            have HB1 := hid hb1
            clear hb1
            refine wp_region_noPanic ?_
            refine wp_region_held_drew (S := fun W => Up W0 W) (by kernel_rfl) (HB1.out.drew) (fun hHeld => ?_)
            refine tk 0 (v := ?v59) ?y59 hHeld ?r59
            case y59 => intro w hSw; go_simp; try with_reducible rfl
            refine tk 1 (v := ?v60) ?y60 hHeld ?r60
            case y60 => intro w hSw; go_simp; try with_reducible rfl
            refine tk 2 (v := ?v61) ?y61 hHeld ?r61
            case y61 => intro w hSw; have ld0 := H67.out _ hSw; go_simp; try with_reducible rfl
            refine tk 3 (v := ?v62) ?y62 hHeld ?r62
            case y62 => intro w hSw; go_simp; try with_reducible rfl
            refine tk 4 (v := ?v63) ?y63 hHeld ?r63
            case y63 => intro w hSw; go_simp; try with_reducible rfl
            refine tk 5 (v := ?v64) ?y64 hHeld ?r64
            case y64 => intro w hSw; go_simp; try with_reducible rfl
            refine tk 6 (v := ?v65) ?y65 hHeld ?r65
            case y65 => intro w hSw; go_simp; try with_reducible rfl
            refine tk 7 (v := ?v66) ?y66 hHeld ?r66
            case y66 => intro w hSw; go_simp; try with_reducible rfl
            refine tk 8 (v := ?v67) ?y67 hHeld ?r67
            case y67 => intro w hSw; have ld0 := H67.out _ hSw; go_simp; try with_reducible rfl
            refine tk 9 (v := ?v68) ?y68 hHeld ?r68
            case y68 => intro w hSw; go_simp; try with_reducible rfl
            try simp only [Act.put, List.setIfInBounds_toArray, List.set_cons_zero, List.set_cons_succ, Array.toArray_toList, List.getElem_toArray, List.getElem_cons_zero, List.getElem_cons_succ]
            refine wpAnyH_ready (rs := [10]) (by kernel_rfl) (by simp) ?_
            refine AllReadyH.cons rfl (fun K hK => ?_) AllReadyH.nil
            go_simp
            refine (HLP.out _).mono ?_
            rintro e' w2 ⟨rfl, hw2⟩
            dsimp only
            obtain rfl := hw2.symm
            refine hK.out _ _ (hHeld) (fun hHeld => ?_)
            clear hK K
            try simp only [Act.put, List.setIfInBounds_toArray, List.set_cons_zero, List.set_cons_succ, Array.toArray_toList, List.getElem_toArray, List.getElem_cons_zero, List.getElem_cons_succ]
            refine tk 11 (v := ?v69) ?y69 hHeld ?r69
            case y69 => intro w hSw; go_simp; try with_reducible rfl
            refine tk 12 (v := ?v70) ?y70 hHeld ?r70
            case y70 => intro w hSw; go_simp; try with_reducible rfl
            refine tk 13 (v := ?v71) ?y71 hHeld ?r71
            case y71 => intro w hSw; go_simp; try with_reducible rfl
            try simp only [Act.put, List.setIfInBounds_toArray, List.set_cons_zero, List.set_cons_succ, Array.toArray_toList, List.getElem_toArray, List.getElem_cons_zero, List.getElem_cons_succ]
            refine wpAnyH_done (by kernel_rfl) ?_ _
            refine NoPanic.normal ?_
            have hw1 : Up W0 _ := hHeld
            have l67 := H67.out _ hw1
            have l0 := H0.out _ hw1
            have lx := HLX.out _ hw1
            have ld := HLD.out _ hw1
            have HW1 := hid hw1
            clear hw1
            go_wp2_with (go_at_call 25; refine (HDL.out _).mono ?_; rintro e' w3 ⟨rfl, hb3⟩; have HB3 := hid hb3; clear hb3)
            go_ret
            exact ⟨ret_int HR.out.symm, upT HB.out (upT HW1.out HB3.out)⟩
      · have HR := hid (show R = 29 by rw [hE, if_neg (fun h => hq4 h.2)])
        have hq5 : (T != Q) = true := by simp [hq4]
        clear hE hD hp hq
        go_enter Try.func10, Try.ntmps10
        go_upto_region 1 with fail
        rw [HW.out]
        clear HW
        go_upto_region 2 with (go_at_call 23; refine (HEP.out W0).mono ?_; rintro e' w1 ⟨rfl, hb1⟩)
        have HB1 := hid hb1
        clear hb1
        refine wp_region_noPanic ?_
        refine wp_region_held_drew (S := fun W => Up W0 W) (by kernel_rfl) (HB1.out.drew) (fun hHeld => ?_)
        refine tk 0 (v := ?v72) ?y72 hHeld ?r72
        case y72 => intro w hSw; go_simp; try with_reducible rfl
        refine tk 1 (v := ?v73) ?y73 hHeld ?r73
        case y73 => intro w hSw; go_simp; try with_reducible rfl
        refine tk 2 (v := ?v74) ?y74 hHeld ?r74
        case y74 => intro w hSw; have ld0 := H67.out _ hSw; go_simp; try with_reducible rfl
        refine tk 3 (v := ?v75) ?y75 hHeld ?r75
        case y75 => intro w hSw; go_simp; try with_reducible rfl
        refine tk 4 (v := ?v76) ?y76 hHeld ?r76
        case y76 => intro w hSw; go_simp; try with_reducible rfl
        refine tk 5 (v := ?v77) ?y77 hHeld ?r77
        case y77 => intro w hSw; go_simp; try with_reducible rfl
        refine tk 6 (v := ?v78) ?y78 hHeld ?r78
        case y78 => intro w hSw; go_simp; try with_reducible rfl
        refine tk 7 (v := ?v79) ?y79 hHeld ?r79
        case y79 => intro w hSw; go_simp; try with_reducible rfl
        refine tk 8 (v := ?v80) ?y80 hHeld ?r80
        case y80 => intro w hSw; have ld0 := H67.out _ hSw; go_simp; try with_reducible rfl
        refine tk 9 (v := ?v81) ?y81 hHeld ?r81
        case y81 => intro w hSw; go_simp; try with_reducible rfl
        try simp only [Act.put, List.setIfInBounds_toArray, List.set_cons_zero, List.set_cons_succ, Array.toArray_toList, List.getElem_toArray, List.getElem_cons_zero, List.getElem_cons_succ]
        refine wpAnyH_ready (rs := [10]) (by kernel_rfl) (by simp) ?_
        refine AllReadyH.cons rfl (fun K hK => ?_) AllReadyH.nil
        go_simp
        refine (HLP.out _).mono ?_
        rintro e' w2 ⟨rfl, hw2⟩
        dsimp only
        obtain rfl := hw2.symm
        refine hK.out _ _ (hHeld) (fun hHeld => ?_)
        clear hK K
        try simp only [Act.put, List.setIfInBounds_toArray, List.set_cons_zero, List.set_cons_succ, Array.toArray_toList, List.getElem_toArray, List.getElem_cons_zero, List.getElem_cons_succ]
        refine tk 11 (v := ?v82) ?y82 hHeld ?r82
        case y82 => intro w hSw; go_simp; try with_reducible rfl
        refine tk 12 (v := ?v83) ?y83 hHeld ?r83
        case y83 => intro w hSw; go_simp; try with_reducible rfl
        refine tk 13 (v := ?v84) ?y84 hHeld ?r84
        case y84 => intro w hSw; go_simp; try with_reducible rfl
        try simp only [Act.put, List.setIfInBounds_toArray, List.set_cons_zero, List.set_cons_succ, Array.toArray_toList, List.getElem_toArray, List.getElem_cons_zero, List.getElem_cons_succ]
        refine wpAnyH_done (by kernel_rfl) ?_ _
        refine NoPanic.normal ?_
        have hw1 : Up W0 _ := hHeld
        have l67 := H67.out _ hw1
        have l0 := H0.out _ hw1
        go_wp2
        go_ret
        exact ⟨ret_int HR.out.symm, upT HB.out hw1⟩
    · have hT1 : (T == E) = false := by simp [hT]
      have hT4 : (T == P) = false := by simp [hT3]
      have HR := hid (show R = 29 by rw [hE, if_neg (fun h => h.1.elim hT hT3)])
      clear hE hD hp hq
      go_enter Try.func10, Try.ntmps10
      go_upto_region 1 with fail
      rw [HW.out]
      clear HW
      go_upto_region 2 with (go_at_call 23; refine (HEP.out W0).mono ?_; rintro e' w1 ⟨rfl, hb1⟩)
      have HB1 := hid hb1
      clear hb1
      refine wp_region_noPanic ?_
      refine wp_region_held_drew (S := fun W => Up W0 W) (by kernel_rfl) (HB1.out.drew) (fun hHeld => ?_)
      refine tk 0 (v := ?v85) ?y85 hHeld ?r85
      case y85 => intro w hSw; go_simp; try with_reducible rfl
      refine tk 1 (v := ?v86) ?y86 hHeld ?r86
      case y86 => intro w hSw; go_simp; try with_reducible rfl
      refine tk 2 (v := ?v87) ?y87 hHeld ?r87
      case y87 => intro w hSw; have ld0 := H67.out _ hSw; go_simp; try with_reducible rfl
      refine tk 3 (v := ?v88) ?y88 hHeld ?r88
      case y88 => intro w hSw; go_simp; try with_reducible rfl
      refine tk 4 (v := ?v89) ?y89 hHeld ?r89
      case y89 => intro w hSw; go_simp; try with_reducible rfl
      refine tk 5 (v := ?v90) ?y90 hHeld ?r90
      case y90 => intro w hSw; go_simp; try with_reducible rfl
      refine tk 6 (v := ?v91) ?y91 hHeld ?r91
      case y91 => intro w hSw; go_simp; try with_reducible rfl
      refine tk 7 (v := ?v92) ?y92 hHeld ?r92
      case y92 => intro w hSw; go_simp; try with_reducible rfl
      refine tk 8 (v := ?v93) ?y93 hHeld ?r93
      case y93 => intro w hSw; have ld0 := H67.out _ hSw; go_simp; try with_reducible rfl
      refine tk 9 (v := ?v94) ?y94 hHeld ?r94
      case y94 => intro w hSw; go_simp; try with_reducible rfl
      try simp only [Act.put, List.setIfInBounds_toArray, List.set_cons_zero, List.set_cons_succ, Array.toArray_toList, List.getElem_toArray, List.getElem_cons_zero, List.getElem_cons_succ]
      refine wpAnyH_ready (rs := [10]) (by kernel_rfl) (by simp) ?_
      refine AllReadyH.cons rfl (fun K hK => ?_) AllReadyH.nil
      go_simp
      refine (HLP.out _).mono ?_
      rintro e' w2 ⟨rfl, hw2⟩
      dsimp only
      obtain rfl := hw2.symm
      refine hK.out _ _ (hHeld) (fun hHeld => ?_)
      clear hK K
      try simp only [Act.put, List.setIfInBounds_toArray, List.set_cons_zero, List.set_cons_succ, Array.toArray_toList, List.getElem_toArray, List.getElem_cons_zero, List.getElem_cons_succ]
      refine tk 11 (v := ?v95) ?y95 hHeld ?r95
      case y95 => intro w hSw; go_simp; try with_reducible rfl
      refine tk 12 (v := ?v96) ?y96 hHeld ?r96
      case y96 => intro w hSw; go_simp; try with_reducible rfl
      refine tk 13 (v := ?v97) ?y97 hHeld ?r97
      case y97 => intro w hSw; go_simp; try with_reducible rfl
      try simp only [Act.put, List.setIfInBounds_toArray, List.set_cons_zero, List.set_cons_succ, Array.toArray_toList, List.getElem_toArray, List.getElem_cons_zero, List.getElem_cons_succ]
      refine wpAnyH_done (by kernel_rfl) ?_ _
      refine NoPanic.normal ?_
      have hw1 : Up W0 _ := hHeld
      have l67 := H67.out _ hw1
      have l0 := H0.out _ hw1
      go_wp2
      go_ret
      exact ⟨ret_int HR.out.symm, upT HB.out hw1⟩

set_option maxHeartbeats 2000000 in
theorem vsrc_any (x : VState) (T : Int) (w : World) (hx : OkState x) (hs : x.f2 < 1099511627776) :
    Calls Try.prog 11 #[.agg (cel (sState x)), .int .u64 T] w fun e' w' => e' = .returned (.agg (cel (sCheckpoint (soV x T)))) ∧ Below w.heap.size w w' := by
  obtain ⟨W0, hW0⟩ : ∃ W, (w.alloc (.cells (cel (sState x)) 49)).alloc (.cells (cel (sCheckpoint oK)) 42) = W := ⟨_, rfl⟩
  have r0 : W0.heap[w.heap.size]? = some (.cells (cel (sState x)) 49) := by rw [← hW0]; exact (heap_old (by simp)).trans (heap_new rfl)
  have r1 : W0.heap[w.heap.size + 1]? = some (.cells (cel (sCheckpoint oK)) 42) := by rw [← hW0]; exact heap_new (by simp)
  have hB0 : Up w W0 := by rw [← hW0]; exact ((Below.refl _ _).alloc (Nat.le_refl _) _).alloc (by simp) _
  have lx := lvState_run r0
  have zk := zeroK
  have hep := fun W : World => vepo_any x W hx.o2.1 hs
  have hso : soV x T = if T = x.f2 / 4 then x.f19 else x.f18 := rfl
  have R0 := hid r0
  have R1 := hid r1
  have HB := hid hB0
  have HW := hid hW0
  have HEP := hid hep
  have HSO := hid hso
  generalize soV x T = V at *
  generalize x.f2 / 4 = E at *
  clear hB0 hW0 r0 r1 hep hso hx hs
  by_cases hT : T = E
  · have hS := HSO.out
    rw [if_pos hT] at hS
    have HS := hid hS
    clear hS HSO
    subst hT
    go_enter Try.func11, Try.ntmps11
    go_upto_region 1 with fail
    rw [HW.out]
    clear HW zk
    go_upto_region 2 with (go_at_call 23; refine (HEP.out W0).mono ?_; rintro e' w1 ⟨rfl, hb1⟩)
    have ls := lS19 (upR hb1 R0.out)
    have ss := svK_run (upR hb1 R1.out) x.f19
    have HB1 := hid hb1
    clear hb1 lx
    go_wp2
    exact retK 4 (w.heap.size + 1) x.f19 42 rfl rfl rfl (setRow_at (upR HB1.out R1.out)) ⟨by rw [HS.out], below_row (upT HB.out HB1.out) (by omega) _⟩
  · have hS := HSO.out
    rw [if_neg hT] at hS
    have HS := hid hS
    clear hS HSO
    have hT2 : (T == E) = false := by simp [hT]
    go_enter Try.func11, Try.ntmps11
    go_upto_region 1 with fail
    rw [HW.out]
    clear HW zk
    go_upto_region 3 with (go_at_call 23; refine (HEP.out W0).mono ?_; rintro e' w1 ⟨rfl, hb1⟩)
    have ls := lS18 (upR hb1 R0.out)
    have ss := svK_run (upR hb1 R1.out) x.f18
    have HB1 := hid hb1
    clear hb1 lx
    go_wp2
    exact retK 4 (w.heap.size + 1) x.f18 42 rfl rfl rfl (setRow_at (upR HB1.out R1.out)) ⟨by rw [HS.out], below_row (upT HB.out HB1.out) (by omega) _⟩

set_option maxHeartbeats 8000000 in
theorem vworth_any (x : VState) (d : VData) (w : World) (hx : OkState x) (hs : x.f2 < 1099511627776) (hd : OkData d) (ht : tmE x d = 0) :
    Calls Try.prog 12 #[.agg (cel (sState x)), .agg (cel (sData d))] w fun e' w' => e' = .returned (.agg (woV x d)) ∧ Below w.heap.size w w' := by
  obtain ⟨V0, hV0, q0, q1, hB0, zV⟩ := two_blocks x d w
  obtain ⟨W0, hW0⟩ : ∃ W, V0.alloc (.cells (b3 false false false) 53) = W := ⟨_, rfl⟩
  have hB1 : Up V0 W0 := by rw [← hW0]; exact (Below.refl _ _).alloc (Nat.le_refl _) _
  have r0 := upR hB1 q0
  have r1 := upR hB1 q1
  have r2 : W0.heap[w.heap.size + 2]? = some (.cells (b3 false false false) 53) := by rw [← hW0]; exact heap_new (by omega)
  obtain ⟨t1, t2, t3⟩ := tmE_ok ht
  have p0 := hx.o2.1
  have s0 := hd.1.1
  obtain ⟨D, hD⟩ : ∃ D, lesV x.f2 d.f0 = D := ⟨_, rfl⟩
  have hD2 : x.f2 - d.f0 = D := by rw [← hD]; unfold lesV; rw [if_neg (by omega)]
  have h67 : ∀ W, Up W0 W → W.cell? ⟨w.heap.size + 1, 67, none⟩ = some (.int .u64 d.f4.f0) := fun W h => dC67 (upR h r1)
  have h0 : ∀ W, Up W0 W → W.cell? ⟨w.heap.size + 1, 0, none⟩ = some (.int .u64 d.f0) := fun W h => dC0 (upR h r1)
  have h2 : ∀ W, Up W0 W → (lv24 ⟨w.heap.size + 1, 2, none⟩).run Try.prog W = .ok (.agg (vs .u8 32 d.f2)) W := fun W h => dR2 (upR h r1)
  have h68 : ∀ W, Up W0 W → (lv24 ⟨w.heap.size + 1, 68, none⟩).run Try.prog W = .ok (.agg (vs .u8 32 d.f4.f1)) W := fun W h => dR68 (upR h r1)
  have hlx : ∀ W, Up W0 W → (lvState ⟨w.heap.size, 0, none⟩).run Try.prog W = .ok (.agg (cel (sState x))) W := fun W h => lvState_run (upR h r0)
  have hld : ∀ W, Up W0 W → (lvData ⟨w.heap.size + 1, 0, none⟩).run Try.prog W = .ok (.agg (cel (sData d))) W := fun W h => lvD_row (upR h r1)
  have hdl : ∀ W, Up W0 W → _ := fun W (_ : Up W0 W) => vdel_any x d W hx hd
  have hr1 : ∀ W, Up W0 W → _ := fun W (_ : Up W0 W) => rootat_any x (d.f4.f0 * 4) W hx (by omega)
  have hr2 : ∀ W, Up W0 W → _ := fun W (_ : Up W0 W) => rootat_any x d.f0 W hx s0
  obtain ⟨M, hM⟩ : ∃ M, d.f4.f0 * 4 = M := ⟨_, rfl⟩
  have hMw : IntKind.u64.wrap M = M := by rw [IntKind.wrap_u64]; omega
  have hwo : woV x d = b3 (decide (D ≤ 2)) (eqR d.f4.f1 (rtV x M)) (eqR d.f4.f1 (rtV x M) && (eqR d.f2 (rtV x d.f0) && decide (D = 1))) := by unfold woV wo0 wo2 wo1; rw [hD2, hM]
  rw [hM] at hr1
  rw [hD] at hdl
  generalize woV x d = WV at *
  generalize rtV x M = RA at *
  generalize rtE x M = EA at *
  generalize rtV x d.f0 = RB at *
  generalize rtE x d.f0 = EB at *
  obtain ⟨RC, eRC⟩ : ∃ r, d.f4.f1 = r := ⟨_, rfl⟩
  obtain ⟨RD, eRD⟩ : ∃ r, d.f2 = r := ⟨_, rfl⟩
  obtain ⟨T, eT⟩ : ∃ r, d.f4.f0 = r := ⟨_, rfl⟩
  rw [eRC, eRD] at hwo
  rw [eRC] at h68
  rw [eRD] at h2
  rw [eT] at h67 hM
  have qa := fun W => eqo_run W RC RA
  have qb := fun W => eqo_run W RD RB
  generalize eqR RC RA = BA at *
  generalize eqR RD RB = BB at *
  have HB := hid (upT hB0 hB1)
  have HV0 := hid hV0
  have HW0 := hid hW0
  have H67 := hid h67
  have H0 := hid h0
  have H2 := hid h2
  have H68 := hid h68
  have HLX := hid hlx
  have HLD := hid hld
  have HDL := hid hdl
  have HR1 := hid hr1
  have HR2 := hid hr2
  have R2 := hid r2
  have HWO := hid hwo
  have HU0 := hid (Below.refl W0.heap.size W0)
  clear hB0 hB1 hV0 hW0 q0 q1 r0 r1 r2 h67 h0 h2 h68 hlx hld hdl hr1 hr2 hwo hx hs hd ht t1 t2 t3 p0 s0 hD hD2 eRC eRD eT zV
  have zf := zeroF
  have zr := zero_root
  have v24a := fun W => sv24_newv W (fun _ => 0) RA
  have v24b := fun W => sv24_newv W (fun _ => 0) RB
  cases BA
  · go_enter Try.func12, Try.ntmps12
    go_upto_region 1 with fail
    rw [HV0.out, HW0.out]
    clear HW0 HV0 zf
    have lx := HLX.out W0 HU0.out
    have l67 := H67.out W0 HU0.out
    go_upto_region 2 with (go_at_call 26; refine (HR1.out _ HU0.out).mono ?_; rintro e' v1 ⟨rfl, hb1⟩)
    obtain ⟨W1, y1, hW1, ey1, r1, hd1, _⟩ := upN2 hb1 (.cells (vs .u8 32 RA) 24)
    rw [hW1, ey1]
    have HU1 := hid (upT HU0.out (upT hb1 hd1))
    have R1 := hid r1
    clear hW1 ey1 r1
    clear lx l67 v24a hd1
    have lx := HLX.out W1 HU1.out
    have l0 := H0.out W1 HU1.out
    have rk := hid (hb1)
    clear hb1
    go_upto_region 3 with (go_at_call 26; refine (HR2.out _ HU1.out).mono ?_; rintro e' v2 ⟨rfl, hb2⟩)
    obtain ⟨W2, y2, hW2, ey2, r2, hd2, _⟩ := upN2 hb2 (.cells (vs .u8 32 RB) 24)
    rw [hW2, ey2]
    have HU2 := hid (upT HU1.out (upT hb2 hd2))
    have R2b := hid r2
    clear hW2 ey2 r2
    have R12 := hid (upR (upT hb2 hd2) R1.out)
    clear lx l0 v24b hd2 hb2 rk zr
    have lx := HLX.out W2 HU2.out
    have ld := HLD.out W2 HU2.out
    go_upto_region 4 with (go_at_call 25; refine (HDL.out _ HU2.out).mono ?_; rintro e' w3 ⟨rfl, hb3⟩)
    have la := lv24_run (upR hb3 R12.out)
    have lb := lv24_run (upR hb3 R2b.out)
    have l68 := H68.out w3 (upT HU2.out hb3)
    have l2 := H2.out w3 (upT HU2.out hb3)
    have b3v := fun W a b c => bdF_3 W a b c
    have sv := fun a b c => svF_run (upR (upT HU2.out hb3) R2.out) a b c
    have HU3 := hid (upT HU2.out hb3)
    clear hb3 lx ld
    go_wp2
    exact retF 4 (w.heap.size + 2) _ _ _ 53 rfl rfl rfl (setRow_at (upR HU3.out R2.out)) ⟨by rw [HWO.out]; rfl, below_row (upT HB.out HU3.out) (by omega) _⟩
  · cases BB
    · go_enter Try.func12, Try.ntmps12
      go_upto_region 1 with fail
      rw [HV0.out, HW0.out]
      clear HW0 HV0 zf
      have lx := HLX.out W0 HU0.out
      have l67 := H67.out W0 HU0.out
      go_upto_region 2 with (go_at_call 26; refine (HR1.out _ HU0.out).mono ?_; rintro e' v1 ⟨rfl, hb1⟩)
      obtain ⟨W1, y1, hW1, ey1, r1, hd1, _⟩ := upN2 hb1 (.cells (vs .u8 32 RA) 24)
      rw [hW1, ey1]
      have HU1 := hid (upT HU0.out (upT hb1 hd1))
      have R1 := hid r1
      clear hW1 ey1 r1
      clear lx l67 v24a hd1
      have lx := HLX.out W1 HU1.out
      have l0 := H0.out W1 HU1.out
      have rk := hid (hb1)
      clear hb1
      go_upto_region 3 with (go_at_call 26; refine (HR2.out _ HU1.out).mono ?_; rintro e' v2 ⟨rfl, hb2⟩)
      obtain ⟨W2, y2, hW2, ey2, r2, hd2, _⟩ := upN2 hb2 (.cells (vs .u8 32 RB) 24)
      rw [hW2, ey2]
      have HU2 := hid (upT HU1.out (upT hb2 hd2))
      have R2b := hid r2
      clear hW2 ey2 r2
      have R12 := hid (upR (upT hb2 hd2) R1.out)
      clear lx l0 v24b hd2 hb2 rk zr
      have lx := HLX.out W2 HU2.out
      have ld := HLD.out W2 HU2.out
      go_upto_region 4 with (go_at_call 25; refine (HDL.out _ HU2.out).mono ?_; rintro e' w3 ⟨rfl, hb3⟩)
      have la := lv24_run (upR hb3 R12.out)
      have lb := lv24_run (upR hb3 R2b.out)
      have l68 := H68.out w3 (upT HU2.out hb3)
      have l2 := H2.out w3 (upT HU2.out hb3)
      have b3v := fun W a b c => bdF_3 W a b c
      have sv := fun a b c => svF_run (upR (upT HU2.out hb3) R2.out) a b c
      have HU3 := hid (upT HU2.out hb3)
      clear hb3 lx ld
      go_wp2
      exact retF 4 (w.heap.size + 2) _ _ _ 53 rfl rfl rfl (setRow_at (upR HU3.out R2.out)) ⟨by rw [HWO.out]; rfl, below_row (upT HB.out HU3.out) (by omega) _⟩
    · by_cases hD1 : D = 1
      · subst hD1
        go_enter Try.func12, Try.ntmps12
        go_upto_region 1 with fail
        rw [HV0.out, HW0.out]
        clear HW0 HV0 zf
        have lx := HLX.out W0 HU0.out
        have l67 := H67.out W0 HU0.out
        go_upto_region 2 with (go_at_call 26; refine (HR1.out _ HU0.out).mono ?_; rintro e' v1 ⟨rfl, hb1⟩)
        obtain ⟨W1, y1, hW1, ey1, r1, hd1, _⟩ := upN2 hb1 (.cells (vs .u8 32 RA) 24)
        rw [hW1, ey1]
        have HU1 := hid (upT HU0.out (upT hb1 hd1))
        have R1 := hid r1
        clear hW1 ey1 r1
        clear lx l67 v24a hd1
        have lx := HLX.out W1 HU1.out
        have l0 := H0.out W1 HU1.out
        have rk := hid (hb1)
        clear hb1
        go_upto_region 3 with (go_at_call 26; refine (HR2.out _ HU1.out).mono ?_; rintro e' v2 ⟨rfl, hb2⟩)
        obtain ⟨W2, y2, hW2, ey2, r2, hd2, _⟩ := upN2 hb2 (.cells (vs .u8 32 RB) 24)
        rw [hW2, ey2]
        have HU2 := hid (upT HU1.out (upT hb2 hd2))
        have R2b := hid r2
        clear hW2 ey2 r2
        have R12 := hid (upR (upT hb2 hd2) R1.out)
        clear lx l0 v24b hd2 hb2 rk zr
        have lx := HLX.out W2 HU2.out
        have ld := HLD.out W2 HU2.out
        go_upto_region 4 with (go_at_call 25; refine (HDL.out _ HU2.out).mono ?_; rintro e' w3 ⟨rfl, hb3⟩)
        have la := lv24_run (upR hb3 R12.out)
        have lb := lv24_run (upR hb3 R2b.out)
        have l68 := H68.out w3 (upT HU2.out hb3)
        have l2 := H2.out w3 (upT HU2.out hb3)
        have b3v := fun W a b c => bdF_3 W a b c
        have sv := fun a b c => svF_run (upR (upT HU2.out hb3) R2.out) a b c
        have HU3 := hid (upT HU2.out hb3)
        clear hb3 lx ld
        go_wp2
        exact retF 4 (w.heap.size + 2) _ _ _ 53 rfl rfl rfl (setRow_at (upR HU3.out R2.out)) ⟨by rw [HWO.out]; rfl, below_row (upT HB.out HU3.out) (by omega) _⟩
      · have hD3 : (D == 1) = false := by simp [hD1]
        go_enter Try.func12, Try.ntmps12
        go_upto_region 1 with fail
        rw [HV0.out, HW0.out]
        clear HW0 HV0 zf
        have lx := HLX.out W0 HU0.out
        have l67 := H67.out W0 HU0.out
        go_upto_region 2 with (go_at_call 26; refine (HR1.out _ HU0.out).mono ?_; rintro e' v1 ⟨rfl, hb1⟩)
        obtain ⟨W1, y1, hW1, ey1, r1, hd1, _⟩ := upN2 hb1 (.cells (vs .u8 32 RA) 24)
        rw [hW1, ey1]
        have HU1 := hid (upT HU0.out (upT hb1 hd1))
        have R1 := hid r1
        clear hW1 ey1 r1
        clear lx l67 v24a hd1
        have lx := HLX.out W1 HU1.out
        have l0 := H0.out W1 HU1.out
        have rk := hid (hb1)
        clear hb1
        go_upto_region 3 with (go_at_call 26; refine (HR2.out _ HU1.out).mono ?_; rintro e' v2 ⟨rfl, hb2⟩)
        obtain ⟨W2, y2, hW2, ey2, r2, hd2, _⟩ := upN2 hb2 (.cells (vs .u8 32 RB) 24)
        rw [hW2, ey2]
        have HU2 := hid (upT HU1.out (upT hb2 hd2))
        have R2b := hid r2
        clear hW2 ey2 r2
        have R12 := hid (upR (upT hb2 hd2) R1.out)
        clear lx l0 v24b hd2 hb2 rk zr
        have lx := HLX.out W2 HU2.out
        have ld := HLD.out W2 HU2.out
        go_upto_region 4 with (go_at_call 25; refine (HDL.out _ HU2.out).mono ?_; rintro e' w3 ⟨rfl, hb3⟩)
        have la := lv24_run (upR hb3 R12.out)
        have lb := lv24_run (upR hb3 R2b.out)
        have l68 := H68.out w3 (upT HU2.out hb3)
        have l2 := H2.out w3 (upT HU2.out hb3)
        have b3v := fun W a b c => bdF_3 W a b c
        have sv := fun a b c => svF_run (upR (upT HU2.out hb3) R2.out) a b c
        have HU3 := hid (upT HU2.out hb3)
        clear hb3 lx ld
        go_wp2
        exact retF 4 (w.heap.size + 2) _ _ _ 53 rfl rfl rfl (setRow_at (upR HU3.out R2.out)) ⟨by rw [HWO.out]; rw [decide_eq_false hD1]; rfl, below_row (upT HB.out HU3.out) (by omega) _⟩

end Go.Proofs.Ytmbgidfngefniaa
