/-
  JoinLeaves.
-/

import Derived.Test.YtmapeodhcllimaaDoorJnK
namespace Go.Proofs.YtmapeodhcllimaaDoor

open Go.RowKit

set_option linter.unusedVariables false

set_option linter.unusedSimpArgs false

set_option maxRecDepth 20000

attribute [local go_sem ↓] lvState_eq svState_eq bdState_eq lvSignedExit_eq lvValidator_eq svValidator_eq ixValidator_eq

set_option maxHeartbeats 16000000 in
theorem joinLeaves_law (x : VState) (s : VSignedExit) (w : World) (hx : OkState x) (hw : InW w x) (hn : NilW x) (hl : Lns x) (hs : OkSignedExit s) (hS : Sh w) (hC : Rc w) :
    Calls Tryd.prog 4 #[.agg (cel (sState x)), .agg (cel (sSignedExit s))] w fun e' w' => e' = .returned (.bool true) ∧ Below w.heap.size w w' := by
  obtain ⟨W0, hW0⟩ : ∃ W, (w.alloc (.cells (cel (sState x)) 49)).alloc (.cells (cel (sSignedExit s)) 68) = W := ⟨_, rfl⟩
  have r0 : W0.heap[w.heap.size]? = some (.cells (cel (sState x)) 49) := by rw [← hW0]; exact (heap_old (by simp)).trans (heap_new rfl)
  have r1 : W0.heap[w.heap.size + 1]? = some (.cells (cel (sSignedExit s)) 68) := by rw [← hW0]; exact heap_new (by simp)
  have hB0 : Up w W0 := by rw [← hW0]; exact ((Below.refl _ _).alloc (Nat.le_refl _) _).alloc (by simp) _
  have haw := awake20 W0 (hS.below hB0) (hC.below hB0)
  have hex := fun (W : World) (h : Up w W) => exit_prog x s none 0 0 (fun _ => 0) W hx (hw.below h) hn hl hs (.inl ⟨rfl, rfl, rfl⟩) (by omega) (hS.below h)
  have hex3 := fun (W : World) (a : Option Addr) (c : Nat) (h : Up w W) (ha : Rts W a 1 c (exQ x s)) => exit_prog x s a 1 c (exQ x s) W hx (hw.below h) hn hl hs ha (by omega) (hS.below h)
  have hex2 := fun (X : VState) (W : World) (h : Up w W) (hX : OkState X) (iX : InW W X) (nX : NilW X) (lX : Lns X) => exit_prog X s none 0 0 (fun _ => 0) W hX iX nX lX hs (.inl ⟨rfl, rfl, rfl⟩) (by omega) (hS.below h)
  have lsx : ∀ W, Up W0 W → (lvState ⟨w.heap.size, 0, none⟩).run Tryd.prog W = .ok (.agg (cel (sState x))) W := fun W h => lvState_run (upR h r0)
  have lss : ∀ W, Up W0 W → (lvSignedExit ⟨w.heap.size + 1, 0, none⟩).run Tryd.prog W = .ok (.agg (cel (sSignedExit s))) W := fun W h => lvSE_run (upR h r1)
  have lsw : ∀ W, Up W0 W → W.cell? ⟨w.heap.size + 1, 1, none⟩ = some (.int .u64 s.f0.f1) := fun W h => se_who (upR h r1)
  have ls2 : ∀ W, Up W0 W → W.cell? ⟨w.heap.size, 33, none⟩ = some (.int .u64 x.f2) := fun W h => cS2 (upR h r0)
  have z := zeroState
  have HB := hid hB0
  have HW := hid hW0
  have HAW := hid haw
  have HX1 := hid hex
  have HX2 := hid hex2
  have HX3 := hid hex3
  have HLX := hid lsx
  have HLS := hid lss
  have HLW := hid lsw
  have HL2 := hid ls2
  have HOK := hid hx
  have HLN := hid hl
  have HSE := hid hs
  clear hB0 hW0 haw hex hex2 hex3 lsx lss lsw ls2 r0 r1 hx hw hn hl hs hS hC
  obtain ⟨xo, exo⟩ : ∃ s, oState = s := ⟨_, rfl⟩
  rw [exo] at z
  go_enter Tryd.func4, Tryd.ntmps4
  go_upto_region 1 with fail
  rw [HW.out]
  clear HW exo
  go_upto_region 3 with (go_at_call 5; refine HAW.out.mono ?_; rintro e' w1 ⟨rfl, hb1⟩)
  have lx1 := HLX.out w1 hb1
  have se1 := HLS.out w1 hb1
  have HE1 := hid (HX1.out w1 (upT HB.out hb1))
  have HU1 := hid hb1
  clear hb1 HAW HX1
  unfold ExA at HE1
  obtain ⟨E1, eE1⟩ : ∃ e, exE x s (fun _ => 0) 0 = e := ⟨_, rfl⟩
  rw [eE1] at HE1
  obtain ⟨KX, eKX⟩ : ∃ e, exK x s = e := ⟨_, rfl⟩
  rw [eKX] at HE1
  have HEE := hid eE1
  have HKX := hid eKX
  clear eE1 eKX
  go_upto_region 4 with (go_at_call 8; refine HE1.out.mono ?_; rintro e' w2 ⟨X, a2, c2, rfl, hres, hrt, hnw, hb2⟩; have sv := svState_newv w2 xo X; have HRS := hid hres; have HRT := hid hrt; have HB2 := hid hb2; clear hres hrt hnw hb2)
  obtain ⟨W2, y2, hW2, ey2, r2, hd2, _⟩ := upN2 HB2.out (.cells (cel (sState X)) 49)
  rw [hW2, ey2]
  have hu2 := upT HU1.out (upT HB2.out hd2)
  have HU2 := hid hu2
  have R2 := hid r2
  have HD2 := hid hd2
  clear hW2 ey2 r2 hd2 hu2 sv lx1 se1 HE1
  by_cases h0 : E1 = 0
  · subst h0
    obtain ⟨k, hF⟩ := jl_facts HOK.out HLN.out HSE.out HEE.out HRS.out.sim
    have hask := hF.ask
    obtain rfl : KX = 1 := HKX.out.symm.trans hask
    have hrt2 := HRT.out.below HD2.out
    have hrs2 := HRS.out.below HD2.out
    have lx2 := HLX.out W2 HU2.out
    have ly2 := lvState_run R2.out
    have hlk := rlike_any x X x.f11.n W2 hF.lx hF.lX
    have he2 := fun (W : World) (h : Up W2 W) => HX2.out X W (upT HB.out (upT HU2.out h)) hF.ok (hrs2.inw.below h) hrs2.nil hF.ln
    unfold ExA at he2
    simp only [hF.again.1, hF.again.2] at he2
    have he3 := fun (W : World) (h : Up W2 W) => HX3.out W a2 c2 (upT HB.out (upT HU2.out h)) (hrt2.below h)
    unfold ExA at he3
    simp only [hF.bad, hask] at he3
    rcases hrs2.inw.i11 with h0 | ⟨b, off, ea, hbl, hc⟩
    · have := hF.hk
      omega
    have hva : ∀ W, Up W2 W → (lvValidator ⟨b, off + 86 * k, none⟩).run Tryd.prog W = .ok (.agg (cel (sValidator (X.f11.z k)))) W := fun W h => lvValidator_at (rangeAt_below (hc k hF.hk) hbl h)
    have hix := fun W => ixValidator_u W b off X.f11.n X.f11.c k hF.hk
    have c11 : ∀ W, Up W2 W → W.cell? ⟨y2, 721, none⟩ = some (.slice (some ⟨b, off, none⟩) X.f11.n X.f11.c) := fun W h => by
      have := cS11 (upR h R2.out)
      rw [ea] at this
      exact this
    have hac := fun (W : World) => ractive_any (X.f11.z k) (x.f2 / 4) W
    simp only [hF.act] at hac
    have x20 := HOK.out.o2.1
    have x2b := (rightB_out hF.rt).c7
    have hwho := hF.who
    rw [hwho] at HLW
    have hge := hF.ge
    obtain ⟨V, eV⟩ : ∃ v, X.f11.z k = v := ⟨_, rfl⟩
    rw [eV] at hge
    simp only [eV] at hva hac
    obtain ⟨P, eP⟩ : ∃ p, off + 86 * k = p := ⟨_, rfl⟩
    simp only [eP] at hva hix
    have HLK := hid hlk
    have HE2 := hid he2
    have HE3 := hid he3
    have HVA := hid hva
    have HIX := hid hix
    have HC11 := hid c11
    have HAC := hid hac
    obtain ⟨q, eq⟩ : ∃ q, x.f2 = q := ⟨_, rfl⟩
    rw [eq] at HL2 HAC hge x20 x2b
    have k1 : q.tdiv 4 = q / 4 := Int.tdiv_eq_ediv_of_nonneg x20
    have k2 : IntKind.u64.wrap (q / 4) = q / 4 := by rw [IntKind.wrap_u64]; omega
    have k3 : IntKind.u64.wrap (q / 4 + 3) = q / 4 + 3 := by rw [IntKind.wrap_u64]; omega
    have zv := zeroValidator
    have HHK := hid hF.hk
    clear hF hask hrt2 hrs2 hlk he2 he3 hva hix c11 hac hwho ea hbl hc eV eP eq HX2 HX3 HRS HRT HEE HKX HOK HLN HSE HB2 HD2
    generalize X.f11.n = N11 at *
    generalize X.f11.c = C11 at *
    go_upto_region 8 with (go_at_call 9; refine HLK.out.mono ?_; rintro e' w3 ⟨rfl, hb3⟩)
    have ly3 := lvState_run (upR hb3 R2.out)
    have se3 := HLS.out w3 (upT HU2.out hb3)
    have HE23 := hid (HE2.out w3 hb3)
    have HU3 := hid hb3
    clear hb3 HLK lx2 ly2 HE2
    go_upto_region 9 with (go_at_call 8; refine HE23.out.mono ?_; rintro e' w4 ⟨X4, a4, c4, rfl, _, _, _, hb4⟩; have sv := svState_newv w4 xo X4)
    obtain ⟨W4, y4, hW4, ey4, r4, hd4, _⟩ := upN2 hb4 (.cells (cel (sState X4)) 49)
    rw [hW4, ey4]
    have hu4 := upT HU3.out (upT hb4 hd4)
    have c11 := HC11.out W4 hu4
    have cw := HLW.out W4 (upT HU2.out hu4)
    have ix := HIX.out
    have va := HVA.out W4 hu4
    have svv := svValidator_newv W4 oValidator V
    have HU4 := hid hu4
    clear hW4 ey4 r4 hd4 hb4 hu4 sv HE23 ly3 se3 HU3
    go_upto_region 10 with fail
    obtain ⟨W5, y5, hW5, ey5, r5, hd5, _⟩ := upN2 HU4.out (.cells (cel (sValidator V)) 63)
    rw [hW5, ey5]
    have hu5 := upT HU4.out hd5
    have lx5 := HLX.out W5 (upT HU2.out hu5)
    have se5 := HLS.out W5 (upT HU2.out hu5)
    have HE35 := hid (HE3.out W5 hu5)
    have HU5 := hid hu5
    have R5 := hid r5
    clear hW5 ey5 r5 hd5 hu5 c11 cw ix va svv HU4 HE3 zv
    go_upto_region 11 with (go_at_call 8; refine HE35.out.mono ?_; rintro e' w6 ⟨X6, a6, c6, rfl, _, _, _, hb6⟩; have sv := svState_newv w6 xo X6)
    obtain ⟨W6, y6, hW6, ey6, r6, hd6, _⟩ := upN2 hb6 (.cells (cel (sState X6)) 49)
    rw [hW6, ey6]
    have h56 := upT hb6 hd6
    have hu6 := upT HU5.out h56
    have v6 := seg_nu (upR h56 R5.out) 6 V.f6 rfl 84 rfl
    have lv6 := lvVa_run (upR h56 R5.out)
    have c2 := HL2.out W6 (upT HU2.out hu6)
    have HA6 := hid (HAC.out W6)
    have HU6 := hid (upT HB.out (upT HU2.out hu6))
    clear hW6 ey6 r6 hd6 hb6 h56 hu6 sv HE35 lx5 se5 HAC HL2 HU5 R5
    go_wp2_with (go_at_call 10; refine HA6.out.mono ?_; rintro e' w7 ⟨rfl, hb7⟩)
    go_ret
    exact ⟨rfl, upT HU6.out hb7⟩
  · have h0' : (E1 != 0) = true := by simp [h0]
    clear HX2 HX3 HLX HLS HLW HL2 HOK HLN HSE HEE HRS HRT HD2 HKX
    go_wp2
    go_ret
    exact ⟨rfl, upT HB.out HU2.out⟩

end Go.Proofs.YtmapeodhcllimaaDoor
