/-
  JoinSums.
-/

import Derived.Test.YtmapeodhcllimaaDoorJnM
namespace Go.Proofs.YtmapeodhcllimaaDoor

open Go.RowKit

set_option linter.unusedVariables false

set_option linter.unusedSimpArgs false

set_option maxRecDepth 20000

attribute [local go_sem ↓] lvState_eq svState_eq bdState_eq lvDeposit_eq lvValidator_eq ixValidator_eq ixU_eq

set_option maxHeartbeats 16000000 in
theorem joinSums_law (x : VState) (d : VDeposit) (a : Option Addr) (n cap : Nat) (f : Nat → Int) (w : World) (hx : OkState x) (hw : InW w x) (hn : NilW x) (hl : Lns x) (hd : OkDeposit d) (hr : Rts w a n cap f) (hnn : n ≤ 9223372036854775807) (hS : Sh w) (hC : Rc w) :
    Calls Tryd.prog 3 #[.agg (cel (sState x)), .agg (cel (sDeposit d)), .slice a n cap] w fun e' w' => e' = .returned (.bool true) ∧ Below w.heap.size w w' := by
  obtain ⟨W0, hW0⟩ : ∃ W, (w.alloc (.cells (cel (sState x)) 49)).alloc (.cells (cel (sDeposit d)) 56) = W := ⟨_, rfl⟩
  have r0 : W0.heap[w.heap.size]? = some (.cells (cel (sState x)) 49) := by rw [← hW0]; exact (heap_old (by simp)).trans (heap_new rfl)
  have r1 : W0.heap[w.heap.size + 1]? = some (.cells (cel (sDeposit d)) 56) := by rw [← hW0]; exact heap_new (by simp)
  have hB0 : Up w W0 := by rw [← hW0]; exact ((Below.refl _ _).alloc (Nat.le_refl _) _).alloc (by simp) _
  have haw := awake20 W0 (hS.below hB0) (hC.below hB0)
  have hro := fun (W : World) (h : Up w W) => rooted_any x d W hx hd (hC.below h)
  have hoR : OkState (rtS x d) := ok_rt hx fun j hj => jn_bd hd j hj
  have hjd := fun (W : World) (h : Up w W) => jdep_prog (rtS x d) d a n cap f W hoR (inw_rt (hw.below h) _) (nil_rt hn _) (lns_rt hl _) hd (hr.below h) hnn (hS.below h)
  have lsx : ∀ W, Up W0 W → (lvState ⟨w.heap.size, 0, none⟩).run Tryd.prog W = .ok (.agg (cel (sState x))) W := fun W h => lvState_run (upR h r0)
  have z := zeroState
  have hiR : ∀ W, Up w W → InW W (rtS x d) := fun W h => inw_rt (hw.below h) _
  obtain ⟨R, eR⟩ : ∃ R, rtS x d = R := ⟨_, rfl⟩
  rw [eR] at hoR
  simp only [eR] at hjd hro hiR
  have HB := hid hB0
  have HW := hid hW0
  have HAW := hid haw
  have HRO := hid hro
  have HJD := hid hjd
  have HLX := hid lsx
  have HIR := hid hiR
  have R0 := hid r0
  have R1 := hid r1
  have HOR := hid hoR
  have HDK := hid hd
  clear hB0 hW0 haw hro hjd lsx r0 r1 hx hw hn hl hd hr hnn hS hC hiR hoR eR
  obtain ⟨xo, exo⟩ : ∃ s, oState = s := ⟨_, rfl⟩
  rw [exo] at z
  have HXO := hid exo
  clear exo
  go_enter Tryd.func3, Tryd.ntmps3
  go_upto_region 1 with fail
  rw [HW.out]
  clear HW
  go_upto_region 3 with (go_at_call 5; refine HAW.out.mono ?_; rintro e' w1 ⟨rfl, hb1⟩)
  have lx1 := HLX.out w1 hb1
  have ld1 := lvDe_run (upR hb1 R1.out)
  have HRO1 := hid (HRO.out w1 (upT HB.out hb1))
  have HU1 := hid hb1
  clear hb1 HAW HRO HLX
  go_upto_region 4 with (go_at_call 6; refine HRO1.out.mono ?_; rintro e' w2 ⟨rfl, hb2⟩; have sv := svState_run (upR (upT HU1.out hb2) R0.out) R)
  obtain ⟨V2, hV2⟩ : ∃ V, w2.setRow w.heap.size (cel (sState R)) = V := ⟨_, rfl⟩
  have q0 : V2.heap[w.heap.size]? = some (.cells (cel (sState R)) 49) := by rw [← hV2]; exact setRow_at (upR (upT HU1.out hb2) R0.out)
  have q1 : V2.heap[w.heap.size + 1]? = some (.cells (cel (sDeposit d)) 56) := by rw [← hV2, setRow_other (by omega)]; exact upR (upT HU1.out hb2) R1.out
  have hu2 : Up w V2 := by rw [← hV2]; exact below_row (upT HB.out (upT HU1.out hb2)) (by omega) _
  rw [hV2]
  have lx2 := lvState_run q0
  have ld2 := lvDe_run q1
  have HJ2 := hid (HJD.out V2 hu2)
  have HU2 := hid hu2
  have Q0 := hid q0
  have Q1 := hid q1
  clear hV2 hb2 sv q0 q1 hu2 HRO1 HJD lx1 ld1 R0 R1 HU1
  unfold JdA at HJ2
  obtain ⟨E1, eE1⟩ : ∃ e, jdE R d f n = e := ⟨_, rfl⟩
  obtain ⟨K1, eK1⟩ : ∃ e, jdK R d = e := ⟨_, rfl⟩
  rw [eE1, eK1] at HJ2
  have hk1 := jdK_le R d
  rw [eK1] at hk1
  have HEE := hid eE1
  have HKK := hid eK1
  clear eE1 eK1
  go_upto_region 5 with (go_at_call 7; refine HJ2.out.mono ?_; rintro e' w3 ⟨X, a3, c3, rfl, hres, _, _, hb3⟩; have sv := svState_newv w3 xo X; have HRS := hid hres; have HB3 := hid hb3; clear hres hb3)
  obtain ⟨V4, y4, hW4, ey4, r4, hd4, _⟩ := upN2 HB3.out (.cells (cel (sState X)) 49)
  rw [hW4, ey4]
  have hu4 := upT HB3.out hd4
  have R4 := hid r4
  have HU4 := hid hu4
  have HD4 := hid hd4
  clear hW4 ey4 r4 hd4 hu4 sv HJ2 lx2 ld2 HB3
  by_cases h0 : E1 = 0
  · subst h0
    have hF := js_facts HOR.out HDK.out HEE.out HRS.out.sim
    rw [HKK.out] at hF
    have hiX := HRS.out.inw.below HD4.out
    have hiR := HIR.out V4 (upT HU2.out HU4.out)
    have q0 := upR HU4.out Q0.out
    have q1 := upR HU4.out Q1.out
    have cy10 := cS10 R4.out
    rw [hF.dep] at cy10
    have cx10 := cS10 q0
    have camt : ∀ W, Up V4 W → W.cell? ⟨w.heap.size + 1, 304, none⟩ = some (.int .u64 d.f1.f2) := fun W h => seg_nu (upR h q1) 3 d.f1.f2 rfl 304 rfl
    have hy11 : ∀ W, Up V4 W → W.cell? ⟨y4, 721, none⟩ = some (.slice X.f11.a X.f11.n X.f11.c) := fun W h => cS11 (upR h R4.out)
    have hx11 : ∀ W, Up V4 W → W.cell? ⟨w.heap.size, 721, none⟩ = some (.slice R.f11.a R.f11.n R.f11.c) := fun W h => cS11 (upR h q0)
    have hy12 : ∀ W, Up V4 W → W.cell? ⟨y4, 722, none⟩ = some (.slice X.f12.a X.f12.n X.f12.c) := fun W h => cS12 (upR h R4.out)
    have hx12 : ∀ W, Up V4 W → W.cell? ⟨w.heap.size, 722, none⟩ = some (.slice R.f12.a R.f12.n R.f12.c) := fun W h => cS12 (upR h q0)
    rw [hF.l12] at hy12
    rw [hF.r12] at hx12
    have hw11 : ∀ k, k < X.f11.n → ∃ b off, X.f11.a = some ⟨b, off, none⟩ ∧ ∀ W, Up V4 W → (lvValidator ⟨b, off + 86 * k, none⟩).run Tryd.prog W = .ok (.agg (cel (sValidator (X.f11.z k)))) W := fun k hk => by
      rcases hiX.i11 with h | ⟨b, off, ea, hbl, hc⟩
      · omega
      · exact ⟨b, off, ea, fun W h => lvValidator_at (rangeAt_below (hc k hk) hbl h)⟩
    have hv11 : ∀ k, k < R.f11.n → ∃ b off, R.f11.a = some ⟨b, off, none⟩ ∧ ∀ W, Up V4 W → (lvValidator ⟨b, off + 86 * k, none⟩).run Tryd.prog W = .ok (.agg (cel (sValidator (R.f11.z k)))) W := fun k hk => by
      rcases hiR.i11 with h | ⟨b, off, ea, hbl, hc⟩
      · omega
      · exact ⟨b, off, ea, fun W h => lvValidator_at (rangeAt_below (hc k hk) hbl h)⟩
    have hw12 : ∀ k, k < X.f11.n → ∃ b off, X.f12.a = some ⟨b, off, none⟩ ∧ ∀ W, Up V4 W → W.cell? ⟨b, off + k, none⟩ = some (.int .u64 (X.f12.z k)) := fun k hk => by
      rcases hiX.i12 with h | ⟨b, off, ea, hbl, hc⟩
      · rw [hF.l12] at h; omega
      · exact ⟨b, off, ea, fun W h => (below_cell h hbl).trans (hc k (by rw [hF.l12]; exact hk))⟩
    have hv12 : ∀ k, k < R.f11.n → ∃ b off, R.f12.a = some ⟨b, off, none⟩ ∧ ∀ W, Up V4 W → W.cell? ⟨b, off + k, none⟩ = some (.int .u64 (R.f12.z k)) := fun k hk => by
      rcases hiR.i12 with h | ⟨b, off, ea, hbl, hc⟩
      · rw [hF.r12] at h; omega
      · exact ⟨b, off, ea, fun W h => (below_cell h hbl).trans (hc k (by rw [hF.r12]; exact hk))⟩
    have hval := hF.val
    have hokv : ∀ k, k < R.f11.n → OkValidator (R.f11.z k) := hF.ok.o11
    have hlo := hF.lo
    have hhi := hF.hi
    have hnb := hF.nb
    have hbr := hF.br
    have kw : IntKind.u64.wrap (R.f10 + 1) = w64 (R.f10 + 1) := rfl
    obtain ⟨A, eA⟩ : ∃ q, d.f1.f2 = q := ⟨_, rfl⟩
    rw [eA] at camt hbr
    obtain ⟨D, eD⟩ : ∃ q, w64 (R.f10 + 1) = q := ⟨_, rfl⟩
    rw [eD] at cy10 kw
    have HY11 := hid hy11
    have HX11 := hid hx11
    have HY12 := hid hy12
    have HX12 := hid hx12
    have HW11 := hid hw11
    have HV11 := hid hv11
    have HW12 := hid hw12
    have HV12 := hid hv12
    have HVAL := hid hval
    have HOKV := hid hokv
    have HBR := hid hbr
    have HCA := hid camt
    have HU := hid (upT HU2.out HU4.out)
    have y11 := hy11 V4 (Below.refl _ _)
    have x11 := hx11 V4 (Below.refl _ _)
    have y12 := hy12 V4 (Below.refl _ _)
    clear hF hiX hiR q0 q1 hy11 hx11 hy12 hx12 hw11 hv11 hw12 hv12 hval hokv hbr camt eA eD HEE HKK HRS HOR HDK HIR HXO HD4 R4 Q0 Q1 HU2 HU4
    obtain ⟨BZ, eBZ⟩ : ∃ g : Nat → Int, brV R.f12.z X.f12.z R.f11.n = g := ⟨_, rfl⟩
    rw [eBZ] at HBR
    have hb0 : BZ 0 = 0 := by rw [← eBZ]; rfl
    have hbs : ∀ k, BZ (k + 1) = w64 (BZ k + w64 (X.f12.z k - (if k < R.f11.n then R.f12.z k else 0))) := fun k => by rw [← eBZ]; rfl
    clear eBZ
    generalize X.f11.a = Ay11 at *
    generalize X.f11.n = m at *
    generalize X.f11.c = Cy11 at *
    generalize X.f11.z = Zy11 at *
    generalize X.f12.a = Ay12 at *
    generalize X.f12.c = Cy12 at *
    generalize X.f12.z = Zy12 at *
    generalize R.f11.a = Ax11 at *
    generalize R.f11.n = n0 at *
    generalize R.f11.c = Cx11 at *
    generalize R.f11.z = Zx11 at *
    generalize R.f12.a = Ax12 at *
    generalize R.f12.c = Cx12 at *
    generalize R.f12.z = Zx12 at *
    generalize R.f10 = r10 at *
    have i1 : ¬ (m : Int) < (n0 : Int) := by omega
    have i2 : IntKind.i64.wrap ((n0 : Int) + 1) = (n0 : Int) + 1 := by rw [IntKind.wrap_i64]; omega
    have i3 : ¬ (n0 : Int) + 1 < (m : Int) := by omega
    go_upto_region 9 with fail
    clear i1 i2 i3 y12 cy10 cx10 kw
    have HBS := hid hbs
    clear hbs
    go_wp2
    go_loopw [10, 11] (fun v c wr => ∃ k : Nat, k ≤ m ∧ v = .int .u64 (BZ k) ∧ c = .int .i64 k ∧ Up V4 wr) (fun _ c _ => m - (intOf c).toNat)
    case atStart => exact ⟨0, by omega, by rw [hb0], rfl, Below.refl _ _⟩
    case round =>
      obtain ⟨k, hk, rfl, rfl, hu⟩ := hrel
      have y12 := HY12.out wr hu
      have x12 := HX12.out wr hu
      by_cases hkm : k < m
      · have k1 : (k : Int) < (m : Int) := by omega
        have kw : IntKind.i64.wrap ((k : Int) + 1) = (k : Int) + 1 := by rw [IntKind.wrap_i64]; omega
        obtain ⟨b2, o2, e2, hc2⟩ := HW12.out k hkm
        subst e2
        have HCY := hid hc2
        have iy := fun W => ixU_run W b2 o2 m Cy12 k hkm
        obtain ⟨P2, eP2⟩ : ∃ p, o2 + k = p := ⟨_, rfl⟩
        rw [eP2] at HCY
        simp only [eP2] at iy
        clear hc2 eP2
        have hst := HBS.out k
        by_cases hkn : k < n0
        · rw [if_pos hkn] at hst
          have k2 : (k : Int) < (n0 : Int) := by omega
          obtain ⟨b3, o3, e3, hc3⟩ := HV12.out k hkn
          subst e3
          have cx := hc3 wr hu
          have ix := fun W => ixU_run W b3 o3 n0 Cx12 k hkn
          obtain ⟨b4, o4, e4, hv4⟩ := HW11.out k hkm
          subst e4
          obtain ⟨b5, o5, e5, hv5⟩ := HV11.out k hkn
          subst e5
          rw [HVAL.out k hkn] at hv4
          have HVO0 := HOKV.out k hkn
          obtain ⟨VV, eVV⟩ : ∃ v, Zx11 k = v := ⟨_, rfl⟩
          rw [eVV] at hv4 hv5 HVO0
          have HVO := hid HVO0
          have hiy := fun W => ixValidator_run W b4 o4 m Cy11 k hkm
          have hix := fun W => ixValidator_run W b5 o5 n0 Cx11 k hkn
          obtain ⟨P4, eP4⟩ : ∃ p, o4 + 86 * k = p := ⟨_, rfl⟩
          obtain ⟨P5, eP5⟩ : ∃ p, o5 + 86 * k = p := ⟨_, rfl⟩
          obtain ⟨P3, eP3⟩ : ∃ p, o3 + k = p := ⟨_, rfl⟩
          rw [eP4] at hv4
          simp only [eP4] at hiy
          rw [eP5] at hv5
          simp only [eP5] at hix
          rw [eP3] at cx
          simp only [eP3] at ix
          have HIY := hid hiy
          have HIX := hid hix
          have HVY := hid hv4
          have HVX := hid hv5
          have HDR := hid hu.drew
          have HST := hid hst
          have HIYB := hid iy
          clear hiy hix hv4 hv5 hc3 HVO0 eVV eP3 eP4 eP5 hst hu iy
          go_upto_region 16 with fail
          clear cx ix y12 x12
          refine wp_region_noPanic ?_
          refine wp_region_held_drew (S := fun W => Up V4 W) (by kernel_rfl) (HDR.out) (fun hHeld => ?_)
          refine tk 0 (v := ?v601) ?y601 hHeld ?r601
          case y601 => intro w hSw; go_simp; try with_reducible rfl
          refine tk 1 (v := ?v602) ?y602 hHeld ?r602
          case y602 => intro w hSw; have ld0 := HY11.out w hSw; go_simp; try with_reducible rfl
          refine tk 2 (v := ?v603) ?y603 hHeld ?r603
          case y603 => intro w hSw; go_simp; try with_reducible rfl
          refine tk 3 (v := ?v604) ?y604 hHeld ?r604
          case y604 => intro w hSw; have ld0 := HIY.out w; go_simp; try with_reducible rfl
          refine tk 4 (v := ?v605) ?y605 hHeld ?r605
          case y605 => intro w hSw; have ld0 := HVY.out w hSw; go_simp; try with_reducible rfl
          refine tk 5 (v := ?v606) ?y606 hHeld ?r606
          case y606 => intro w hSw; go_simp; try with_reducible rfl
          refine tk 6 (v := ?v607) ?y607 hHeld ?r607
          case y607 => intro w hSw; have ld0 := HX11.out w hSw; go_simp; try with_reducible rfl
          refine tk 7 (v := ?v608) ?y608 hHeld ?r608
          case y608 => intro w hSw; go_simp; try with_reducible rfl
          refine tk 8 (v := ?v609) ?y609 hHeld ?r609
          case y609 => intro w hSw; have ld0 := HIX.out w; go_simp; try with_reducible rfl
          refine tk 9 (v := ?v610) ?y610 hHeld ?r610
          case y610 => intro w hSw; have ld0 := HVX.out w hSw; go_simp; try with_reducible rfl
          try simp only [Act.put, List.setIfInBounds_toArray, List.set_cons_zero, List.set_cons_succ, Array.toArray_toList, List.getElem_toArray, List.getElem_cons_zero, List.getElem_cons_succ]
          refine wpAnyH_take (i := 10) rfl (by kernel_rfl) (by kernel_rfl) (by kernel_rfl) (fun _ _ _ h => h) (yields_neVa (by rfl) _ _ _ rfl VV HVO.out rfl rfl) hHeld ?_
          try simp only [Act.put, List.setIfInBounds_toArray, List.set_cons_zero, List.set_cons_succ, Array.toArray_toList, List.getElem_toArray, List.getElem_cons_zero, List.getElem_cons_succ]
          refine wpAnyH_done (by kernel_rfl) ?_ _
          refine NoPanic.normal ?_
          have cy := HCY.out _ HDR.out
          have y12 := HY12.out _ HDR.out
          have iy := HIYB.out
          have kb : IntKind.u64.wrap (Zy12 k - Zx12 k) = w64 (Zy12 k - Zx12 k) := rfl
          have kc : IntKind.u64.wrap (BZ k + w64 (Zy12 k - Zx12 k)) = w64 (BZ k + w64 (Zy12 k - Zx12 k)) := rfl
          go_wp2
          go_roundw
          case rel => exact ⟨k + 1, by omega, by rw [HST.out], by go_num, HDR.out⟩
          case measure => simp [intOf]; omega
        · rw [if_neg hkn] at hst
          have k2 : ¬ (k : Int) < (n0 : Int) := by omega
          have cy := HCY.out wr hu
          have kb : IntKind.u64.wrap (Zy12 k) = w64 (Zy12 k - 0) := by rw [Int.sub_zero]; rfl
          have kb0 : IntKind.u64.wrap (Zy12 k - 0) = w64 (Zy12 k - 0) := rfl
          have kc : IntKind.u64.wrap (BZ k + w64 (Zy12 k - 0)) = w64 (BZ k + w64 (Zy12 k - 0)) := rfl
          have HST := hid hst
          have HDR := hid hu
          clear hst hu
          go_wp2
          go_roundw
          case rel => exact ⟨k + 1, by omega, by rw [HST.out, Int.sub_zero]; rfl, by go_num, HDR.out⟩
          case measure => simp [intOf]; omega
      · obtain rfl : k = m := by omega
        have ca := HCA.out wr hu
        have y11 := HY11.out wr hu
        have x11 := HX11.out wr hu
        have HUF := hid (upT HU.out hu)
        have hbr := HBR.out
        obtain ⟨B0, eB0⟩ : ∃ b, BZ k = b := ⟨_, rfl⟩
        rw [eB0] at hbr ⊢
        clear eB0 HBS HW11 HV11 HW12 HV12 HVAL HOKV HY11 HX11 HY12 HX12 hu HBR HCA
        by_cases hA : B0 = A
        · subst hA
          go_wp2
          go_ret
          exact ⟨rfl, HUF.out⟩
        · rcases hbr with h | ⟨rfl, rfl, rfl⟩
          · exact absurd h hA
          · have hA' : ¬ (0 : Int) = A := hA
            go_wp2
            go_ret
            exact ⟨rfl, HUF.out⟩
  · have hS : jdS R d f n = oState := by
      unfold jdS
      rw [if_neg (by rw [HEE.out]; exact h0)]
    have hX := HRS.out.sim
    rw [hS] at hX
    have hn0 : X.f11.n = 0 := hX.l11
    have h0' : (E1 != 0) = true := by simp [h0]
    have c11 := cS11 R4.out
    rw [hn0] at c11
    have k1 : (K1 : Int) ≤ 1 := by omega
    generalize X.f11.a = A at *
    generalize X.f11.c = C at *
    have HU := hid (upT HU2.out HU4.out)
    clear HEE HKK HRS HOR HDK HIR HXO HD4 R4 Q0 Q1 HU2 HU4 hS hX hn0
    go_wp2
    go_ret
    exact ⟨rfl, HU.out⟩

end Go.Proofs.YtmapeodhcllimaaDoor
