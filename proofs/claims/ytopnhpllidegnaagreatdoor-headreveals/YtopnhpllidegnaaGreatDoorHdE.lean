/- A part. -/
import Derived.Test.YtopnhpllidegnaaGreatDoorHdD
namespace Go.Proofs.YtopnhpllidegnaaGreatDoor
open Go.RowKit
set_option linter.unusedVariables false
set_option linter.unusedSimpArgs false
set_option maxRecDepth 20000
theorem voE_sim {X Y : VState} (h : SimF X Y) : voE Y = voE X := by unfold voE; rw [rightF h, h.l9]
theorem voS_sim {X Y : VState} (h : SimF X Y) (v : VEth1) : SimF (voS X v) (voS Y v) := by
 unfold voS
 rw [voE_sim h]
 split
 ·exact ⟨h.e0, h.e1, h.e2, h.e3, h.e4, h.e5, h.e6, h.l7, h.z7, voF_sim h v, congrArg (· + 1) h.l9, by show vtZ Y.f9.z Y.f9.n v = vtZ X.f9.z X.f9.n v; rw [h.l9, h.z9], h.e10, h.l11, h.z11, h.l12, h.z12, h.e13, h.e14, h.l15, h.z15, h.l16, h.z16, h.e17, h.e18, h.e19, h.e20, h.l21, h.z21, h.e22, h.e23⟩
 ·exact SimF.refl _
theorem voS_ok {X : VState} (h : OkState X) {v : VEth1} (hv : OkEth1 v) : OkState (voS X v) := by
 unfold voS
 split
 ·refine { h with o8 := ?_, o9 := fun j hj => ?_ }
  ·show OkEth1 (voF X v)
   unfold voF
   split
   ·exact hv
   ·exact h.o8
  ·show OkEth1 (vtZ X.f9.z X.f9.n v j)
   unfold vtZ
   split
   ·exact h.o9 j ‹_›
   ·exact hv
 ·exact ok_z15
theorem lns_sim {X Y : VState} (h : SimF X Y) (hl : Lns X) : Lns Y := by unfold Lns at hl ⊢; rw [h.l11, h.l21, h.l12]; exact hl
theorem voS_lns {X : VState} (h : Lns X) (v : VEth1) : Lns (voS X v) := by
 unfold voS
 split
 ·exact h
 ·exact lns_z
structure HvI (w : World) (b2 b5 : Nat) (wr : World) (X Y : VState) : Prop where
 bel : Up w wr
 r2 : wr.heap[b2]? = some (.cells (cel (sState X)) 49)
 r5 : wr.heap[b5]? = some (.cells (cel (sState Y)) 49)
 ok : OkState X
 ix : InW wr X
 nx : NilW X
 lx : Lns X
 sim : SimF X Y
 iy : InW wr Y
 ny : NilW Y
 a2x : Aw b2 X
 a5x : Aw b5 X
 a2y : Aw b2 Y
 a5y : Aw b5 Y
theorem HvI.up {w wr V : World} {b2 b5 : Nat} {X Y : VState} (h : HvI w b2 b5 wr X Y) (hb : Up wr V) : HvI w b2 b5 V X Y :=
 ⟨upT h.bel hb, upR hb h.r2, upR hb h.r5, h.ok, h.ix.below hb, h.nx, h.lx, h.sim, h.iy.below hb, h.ny, h.a2x, h.a5x, h.a2y, h.a5y⟩
theorem HvI.next {w wr V : World} {b2 b5 : Nat} {X Y P Q PS QS : VState} (h : HvI w b2 b5 wr X Y) (hb : Up wr V) (hw2 : w.heap.size ≤ b2) (hw5 : w.heap.size ≤ b5) (hne : b2 ≠ b5) (hp : Res wr.heap.size V PS P) (hq : Res wr.heap.size V QS Q) (hs : SimF PS QS) (ho : OkState PS) (hl : Lns PS) :
    HvI w b2 b5 ((V.setRow b2 (cel (sState P))).setRow b5 (cel (sState Q))) P Q := by
 have l2 := some_ltK h.r2
 have l5 := some_ltK h.r5
 have k2 : Kept b2 V (V.setRow b2 (cel (sState P))) := (Kept.refl _ _).setRow _
 have k5 : Kept b5 (V.setRow b2 (cel (sState P))) ((V.setRow b2 (cel (sState P))).setRow b5 (cel (sState Q))) := (Kept.refl _ _).setRow _
 have hpq : SimF P Q := hp.sim.symm.trans (hs.trans hq.sim)
 have r5 : (V.setRow b2 (cel (sState P))).heap[b5]? = some (.cells (cel (sState Y)) 49) := by rw [setRow_other (fun e => hne e.symm)]; exact upR hb h.r5
 refine ⟨below_row (below_row (upT h.bel hb) hw2 _) hw5 _, ?_, setRow_at r5, okF_sim hp.sim ho, (hp.inw.kept (hp.new.aw l2) k2).kept (hp.new.aw l5) k5, hp.nil, lns_sim hp.sim hl, hpq, (hq.inw.kept (hq.new.aw l2) k2).kept (hq.new.aw l5) k5, hq.nil, hp.new.aw l2, hp.new.aw l5, hq.new.aw l2, hq.new.aw l5⟩
 rw [setRow_other hne]
 exact setRow_at (upR hb h.r2)
attribute [local go_sem ↓] lvState_eq svState_eq lvEth1_eq ixEth1_eq
set_option maxHeartbeats 16000000 in
theorem headVotes_law (pV : PVote) (pR : PRand) (pH : PHdr0) (x : VState) (la : Option Addr) (ln lc : Nat) (lz : Nat → VEth1) (w : World) (hx : OkState x) (hw : InW w x) (hn : NilW x) (hl : Lns x) (hr : Rch x) (hel : Els w la ln 65 (fun i => celL (sEth1 (lz i)))) (hez : ∀ j, j < ln → OkEth1 (lz j)) (hln : ln ≤ 9223372036854775807) (hS : Sh w) :
    Calls Tryz.prog 4 #[.agg (cel (sState x)), .slice la ln lc] w fun e' w' => e' = .returned (.bool true) ∧ Below w.heap.size w w' := by
 obtain ⟨W0, hW0⟩ : ∃ W, w.alloc (.cells (cel (sState x)) 49) = W := ⟨_, rfl⟩
 have hB0 : Up w W0 := by rw [← hW0]; exact (Below.refl _ _).alloc (Nat.le_refl _) _
 have r0 : W0.heap[w.heap.size]? = some (.cells (cel (sState x)) 49) := by rw [← hW0]; exact heap_new rfl
 have haw := awake17 pV pR pH W0 (hS.below hB0)
 have hcp : ∀ W : World, Up W0 W → Calls Tryz.prog 7 #[.agg (cel (sState x))] W fun e w' => ∃ X : VState, e = .returned (.agg (cel (sState X))) ∧ SimF x X ∧ CpdF W.heap.size w' X ∧ Below W.heap.size W w' := fun W h => copy_full x W (hw.below (upT hB0 h)) hn hr
 have HB := hid hB0
 have HWo := hid hW0
 have R0 := hid r0
 have HAW := hid haw
 have HCP := hid hcp
 have HX := hid hx
 have HIW := hid hw
 have HNX := hid hn
 have HLN := hid hl
 have HEL := hid hel
 have HEZ := hid hez
 have PV := hid pV
 have z := zeroState
 clear hB0 hW0 r0 haw hcp hx hw hn hl hr hel hez hS pV pR pH
 go_enter Tryz.func4, Tryz.ntmps4
 go_upto_region 1 with fail
 rw [HWo.out]
 clear HWo
 go_upto_region 3 with (go_at_call 6; refine HAW.out.mono ?_; rintro e' w1 ⟨rfl, hb1⟩)
 have lx := lvState_run (upR hb1 R0.out)
 have HCQ := hid (HCP.out w1 hb1)
 have HU1 := hid hb1
 clear hb1 HAW HCP
 go_upto_region 4 with (go_at_call 7; refine HCQ.out.mono ?_; rintro e' w2 ⟨Y0, rfl, hsim, hcd, hb2⟩; have sv := svState_newv w2 oState Y0; have HSM := hid hsim; have HCD := hid hcd; have HB2 := hid hb2; clear hsim hcd hb2)
 obtain ⟨V0, b5, hV, eb5, r5, hd2, _⟩ := upN2 HB2.out (.cells (cel (sState Y0)) 49)
 rw [hV, eb5]
 have hI : HvI w w.heap.size b5 V0 x Y0 := by
  have hu := upT HU1.out (upT HB2.out hd2)
  have hcv := HCD.out.below hd2
  refine ⟨upT HB.out hu, upR hu R0.out, r5, HX.out, HIW.out.below (upT HB.out hu), HNX.out, HLN.out, HSM.out, ⟨own_rtF hcv.o7, own_els hcv.o9 (fun i => by rw [celL_len]; rfl), own_els hcv.o11 (fun i => by rw [celL_len]; rfl), own_nms hcv.o12, own_byF hcv.o15, own_byF hcv.o16, own_nms hcv.o21⟩, HCD.out.nil, HIW.out.aw (Nat.le_refl _), (HIW.out.below (upT HB.out (upT HU1.out HB2.out))).aw (Nat.le_of_eq eb5), HCD.out.nw.aw (some_ltK (upR HU1.out R0.out)), ?_⟩
  have iy : InW w2 Y0 := ⟨own_rtF HCD.out.o7, own_els HCD.out.o9 (fun i => by rw [celL_len]; rfl), own_els HCD.out.o11 (fun i => by rw [celL_len]; rfl), own_nms HCD.out.o12, own_byF HCD.out.o15, own_byF HCD.out.o16, own_nms HCD.out.o21⟩
  exact iy.aw (Nat.le_of_eq eb5)
 have hb25 : w.heap.size < b5 := by have := some_ltK (upR (upT HU1.out HB2.out) R0.out); omega
 have HI := hid hI
 clear hI hV eb5 r5 hd2 HCD HB2 HSM HCQ HU1 lx sv z HX HIW HNX HLN R0
 obtain ⟨b2, eb2⟩ : ∃ b, w.heap.size = b := ⟨_, rfl⟩
 have HB2w : Hid (w.heap.size ≤ b2) := Nat.le_of_eq eb2
 have HB5w : Hid (w.heap.size ≤ b5) := Nat.le_of_lt hb25
 rw [eb2] at HI hb25 ⊢
 have HNE : Hid (b2 ≠ b5) := by unfold Hid; omega
 clear eb2 hb25 HB
 go_wp2
 go_loopw [6] (fun i wr => ∃ (k : Nat) (X Y : VState), k ≤ ln ∧ k ≤ 12 ∧ i = .int .i64 k ∧ HvI w b2 b5 wr X Y) (fun i _ => ln - (intOf i).toNat)
 case atStart => exact ⟨0, _, _, by omega, by omega, rfl, HI.out⟩
 case round =>
  clear HI
  obtain ⟨k, X, Y, hk, hk12, rfl, hi⟩ := hrel
  by_cases hlt : k < ln
  ·have k1 : (k : Int) < (ln : Int) := by omega
   by_cases h12 : k < 12
   ·have k12 : (k : Int) < 12 := by omega
    have k2 : IntKind.i64.wrap ((k : Int) + 1) = (k : Int) + 1 := by rw [IntKind.wrap_i64]; omega
    rcases HEL.out with h0 | ⟨b, off, ea, hbl, hrr⟩
    ·omega
    have hix := fun W => ixEth1_run W b off ln lc k hlt
    have hzk := HEZ.out k hlt
    have hle : ∀ W, Up wr W → (lvEth1 ⟨b, off + 65 * k, none⟩).run Tryz.prog W = .ok (.agg (cel (sEth1 (lz k)))) W := fun W h => lvEth1_at fun j u hj => (below_cell (upT hi.bel h) hbl).trans (hrr k hlt j u hj)
    subst ea
    generalize lz k = v at hzk hle
    have hvo : ∀ V, Up wr V → Calls Tryz.prog 12 #[.agg (cel (sState X)), .agg (cel (sEth1 v))] V fun e' w' => ∃ P, e' = .returned (.tuple #[.agg (cel (sState P)), .int .i64 (voE X)]) ∧ Res V.heap.size w' (voS X v) P ∧ Below V.heap.size V w' := fun V h => PV.out X v V hi.ok (hi.ix.below h) hi.nx hi.lx hzk
    have hvr : ∀ V, Up wr V → Calls Tryz.prog 13 #[.agg (cel (sState Y)), .agg (cel (sEth1 v))] V fun e' w' => ∃ P, e' = .returned (.tuple #[.agg (cel (sState P)), .int .i64 (voE X)]) ∧ Res V.heap.size w' (voS Y v) P ∧ Below V.heap.size V w' := fun V h => by
     have := rvote_any Y v V (okF_sim hi.sim hi.ok) (hi.iy.below h) hi.ny hzk
     rw [voE_sim hi.sim] at this
     exact this
    have hss := voS_sim hi.sim v
    have hso := voS_ok hi.ok hzk
    have hsl := voS_lns hi.lx v
    generalize voS X v = PS at hvo hss hso hsl
    generalize voS Y v = QS at hvr hss
    generalize voE X = VE at hvo hvr
    have hlx : ∀ W, Up wr W → (lvState ⟨b2, 0, none⟩).run Tryz.prog W = .ok (.agg (cel (sState X))) W := fun W h => lvState_run (upR h hi.r2)
    have hly : ∀ W, Up wr W → (lvState ⟨b5, 0, none⟩).run Tryz.prog W = .ok (.agg (cel (sState Y))) W := fun W h => lvState_run (upR h hi.r5)
    have HIX := hid hix
    have HLE := hid hle
    have HVO := hid hvo
    have HVR0 := hid hvr
    have HLX := hid hlx
    have HLY0 := hid hly
    have HII := hid hi
    have HSS := hid hss
    have HSO := hid hso
    have HSL := hid hsl
    clear hix hle hvo hvr hlx hly hi hss hso hsl hzk hrr hbl
    go_upto_region 7 with fail
    go_cut [7, 8] from 15 (fun u e wx => ∃ P y, u = .pointer (some ⟨y, 0, none⟩) ∧ e = .int .i64 VE ∧ wx.heap[y]? = some (.cells (cel (sState P)) 49) ∧ Res wr.heap.size wx PS P ∧ Up wr wx ∧ wr.heap.size ≤ y)
    case first =>
     refine wp_region_noPanic ?_
     refine wp_region_held_drew (S := fun W => Up wr W) (by kernel_rfl) ((Below.refl _ _).drew) (fun hHeld => ?_)
     generalize wr.drew = wd at hHeld ⊢
     refine tk 0 (v := ?v901) ?y901 hHeld ?r901
     case y901 => intro w hSw; have ld0 := HLX.out w hSw; go_simp; try with_reducible rfl
     refine tk 1 (v := ?v902) ?y902 hHeld ?r902
     case y902 => intro w hSw; go_simp; try with_reducible rfl
     refine tk 2 (v := ?v903) ?y903 hHeld ?r903
     case y903 => intro w hSw; go_simp; try with_reducible rfl
     refine tk 3 (v := ?v904) ?y904 hHeld ?r904
     case y904 => intro w hSw; have ld0 := HIX.out w; go_simp; try with_reducible rfl
     refine tk 4 (v := ?v905) ?y905 hHeld ?r905
     case y905 => intro w hSw; have ld0 := HLE.out w hSw; go_simp; try with_reducible rfl
     try simp only [Act.put, z_1, z_2, z_3, z_4, z_5, z_6, z_7]
     refine sh2 (fuel' := ?f300) (listed' := ?l300) (act := ?a300) (fun (X7 : VState) (y7 : Nat) V => Up wr V ∧ Res wr.heap.size V PS X7 ∧ V.heap[y7]? = some (.cells (cel (sState oState)) 49) ∧ wr.heap.size ≤ y7 ∧ Aw y7 X7) (fun K300 => ?m300) ?t300
     case' m300 => skip
     refine rd2 5 9 (fun K hK => ?_) (fun K hK => ?_)
     ·go_simp
      refine (HVO.out _ (hHeld)).mono ?_
      rintro e' x1 ⟨X7, rfl, hrX7, hd1⟩
      dsimp only
      have hc1 := upT hHeld hd1
      replace hrX7 := hrX7.to (hHeld).size hrX7.sim
      refine hK.out _ _ hc1 (fun hHeld => ?_)
      clear hK K
      try simp only [Act.put, z_1, z_2, z_3, z_4, z_5, z_6, z_7]
      refine tk 6 (v := ?v906) ?y906 hHeld ?r906
      case y906 => intro w hSw; go_simp; try with_reducible rfl
      refine tk 7 (v := ?v907) ?y907 hHeld ?r907
      case y907 => intro w hSw; go_simp; try with_reducible rfl
      refine tk 8 (v := ?v908) ?y908 hHeld ?r908
      case y908 => intro w hSw; go_simp; try with_reducible rfl
      try simp only [Act.put, z_1, z_2, z_3, z_4, z_5, z_6, z_7]
      refine rd1 9 (fun K hK => ?_)
      have zr := zeroState
      go_simp
      obtain ⟨x2, y7, hx, ey, ry7, hd2, by7⟩ := upN2 hc1 (.cells (cel (sState oState)) 49)
      rw [hx, ey]
      have l2 := Nat.le_of_eq ey
      clear hx ey zr
      have hc2 := upT hc1 hd2
      have haX7 := hrX7.inw.aw l2
      replace hrX7 := hrX7.below hd2
      refine hK.out _ _ hc2 (fun hHeld => ?_)
      clear hK K
      try simp only [Act.put, z_1, z_2, z_3, z_4, z_5, z_6, z_7]
      exact K300.out X7 y7 x2 ⟨hc2, hrX7, ry7, by7, haX7⟩
     ·have zr := zeroState
      go_simp
      obtain ⟨x3, y7, hx, ey, ry7, hd3, by7⟩ := upN2 hHeld (.cells (cel (sState oState)) 49)
      rw [hx, ey]
      have l3 := Nat.le_of_eq ey
      clear hx ey zr
      have hc3 := upT hHeld hd3
      refine hK.out _ _ hc3 (fun hHeld => ?_)
      clear hK K
      try simp only [Act.put, z_1, z_2, z_3, z_4, z_5, z_6, z_7]
      refine rd1 5 (fun K hK => ?_)
      go_simp
      refine (HVO.out _ (hc3)).mono ?_
      rintro e' x4 ⟨X7, rfl, hrX7, hd4⟩
      dsimp only
      have hc4 := upT hc3 hd4
      have haX7 := hrX7.new.aw (some_ltK ry7)
      replace hrX7 := hrX7.to (hc3).size hrX7.sim
      replace ry7 := upR hd4 ry7
      refine hK.out _ _ hc4 (fun hHeld => ?_)
      clear hK K
      try simp only [Act.put, z_1, z_2, z_3, z_4, z_5, z_6, z_7]
      refine tk 6 (v := ?v909) ?y909 hHeld ?r909
      case y909 => intro w hSw; go_simp; try with_reducible rfl
      refine tk 7 (v := ?v910) ?y910 hHeld ?r910
      case y910 => intro w hSw; go_simp; try with_reducible rfl
      refine tk 8 (v := ?v911) ?y911 hHeld ?r911
      case y911 => intro w hSw; go_simp; try with_reducible rfl
      try simp only [Act.put, z_1, z_2, z_3, z_4, z_5, z_6, z_7]
      exact K300.out X7 y7 x4 ⟨hc4, hrX7, ry7, by7, haX7⟩
     case t300 =>
      rintro X7 y7 V ⟨hB, hrX7, ry7, by7, haX7⟩
      have hHeld := hB
      refine rd1 10 (fun K hK => ?_)
      have sv := svState_run ry7 X7
      go_simp
      have hce : Up wr _ := below_row (hB) by7 (cel (sState X7))
      have hrz : Res wr.heap.size (V.setRow y7 (cel (sState X7))) PS X7 := ⟨hrX7.sim, hrX7.inw.kept haX7 ((Kept.refl _ _).setRow _), hrX7.nil, hrX7.new⟩
      refine hK.out _ _ hce (fun hHeld => ?_)
      clear hK K sv
      try simp only [Act.put, z_1, z_2, z_3, z_4, z_5, z_6, z_7]
      refine rd1 11 (fun K hK => ?_)
      go_simp
      refine hK.out _ _ hce (fun hHeld => ?_)
      clear hK K
      try simp only [Act.put, z_1, z_2, z_3, z_4, z_5, z_6, z_7]
      refine wpAnyH_done (by kernel_rfl) ?_ _
      refine NoPanic.normal ?_
      go_wp2
      go_meet
      exact ⟨X7, y7, rfl, rfl, setRow_at ry7, hrz, hce, by7⟩
    case rest =>
     obtain ⟨P, y7, rfl, rfl, r7, hp7, hu7, hy7⟩ := hcut
     have R7 := hid r7
     have HP7 := hid hp7
     have HU7 := hid hu7
     have HVR := hid (fun V (h : Up wc V) => HVR0.out V (upT hu7 h))
     have HLY := hid (fun V (h : Up wc V) => HLY0.out V (upT hu7 h))
     have HLE2 := hid (fun V (h : Up wc V) => HLE.out V (upT hu7 h))
     clear r7 hp7 hu7 HVO HVR0 HLE
     have HLXX := HLX
     clear HLX
     have HLX := HLY
     have HLE := HLE2
     clear HLE2
     obtain ⟨W8, eW8⟩ : ∃ W, wc = W := ⟨_, rfl⟩
     rw [eW8] at R7 HP7 HU7 HVR HLX HLY HLE ⊢
     clear eW8
     go_upto_region 8 with fail
     go_cut [9, 10] from 15 (fun u e wx => ∃ P y, u = .pointer (some ⟨y, 0, none⟩) ∧ e = .int .i64 VE ∧ wx.heap[y]? = some (.cells (cel (sState P)) 49) ∧ Res W8.heap.size wx QS P ∧ Up W8 wx ∧ W8.heap.size ≤ y)
     case first =>
      refine wp_region_noPanic ?_
      refine wp_region_held_drew (S := fun W => Up W8 W) (by kernel_rfl) ((Below.refl _ _).drew) (fun hHeld => ?_)
      generalize W8.drew = wd at hHeld ⊢
      refine tk 0 (v := ?v912) ?y912 hHeld ?r912
      case y912 => intro w hSw; have ld0 := HLX.out w hSw; go_simp; try with_reducible rfl
      refine tk 1 (v := ?v913) ?y913 hHeld ?r913
      case y913 => intro w hSw; go_simp; try with_reducible rfl
      refine tk 2 (v := ?v914) ?y914 hHeld ?r914
      case y914 => intro w hSw; go_simp; try with_reducible rfl
      refine tk 3 (v := ?v915) ?y915 hHeld ?r915
      case y915 => intro w hSw; have ld0 := HIX.out w; go_simp; try with_reducible rfl
      refine tk 4 (v := ?v916) ?y916 hHeld ?r916
      case y916 => intro w hSw; have ld0 := HLE.out w hSw; go_simp; try with_reducible rfl
      try simp only [Act.put, z_1, z_2, z_3, z_4, z_5, z_6, z_7]
      refine sh2 (fuel' := ?f400) (listed' := ?l400) (act := ?a400) (fun (X9 : VState) (y9 : Nat) V => Up W8 V ∧ Res W8.heap.size V QS X9 ∧ V.heap[y9]? = some (.cells (cel (sState oState)) 49) ∧ W8.heap.size ≤ y9 ∧ Aw y9 X9) (fun K400 => ?m400) ?t400
      case' m400 => skip
      refine rd2 5 9 (fun K hK => ?_) (fun K hK => ?_)
      ·go_simp
       refine (HVR.out _ (hHeld)).mono ?_
       rintro e' x5 ⟨X9, rfl, hrX9, hd5⟩
       dsimp only
       have hc5 := upT hHeld hd5
       replace hrX9 := hrX9.to (hHeld).size hrX9.sim
       refine hK.out _ _ hc5 (fun hHeld => ?_)
       clear hK K
       try simp only [Act.put, z_1, z_2, z_3, z_4, z_5, z_6, z_7]
       refine tk 6 (v := ?v917) ?y917 hHeld ?r917
       case y917 => intro w hSw; go_simp; try with_reducible rfl
       refine tk 7 (v := ?v918) ?y918 hHeld ?r918
       case y918 => intro w hSw; go_simp; try with_reducible rfl
       refine tk 8 (v := ?v919) ?y919 hHeld ?r919
       case y919 => intro w hSw; go_simp; try with_reducible rfl
       try simp only [Act.put, z_1, z_2, z_3, z_4, z_5, z_6, z_7]
       refine rd1 9 (fun K hK => ?_)
       have zr := zeroState
       go_simp
       obtain ⟨x6, y9, hx, ey, ry9, hd6, by9⟩ := upN2 hc5 (.cells (cel (sState oState)) 49)
       rw [hx, ey]
       have l6 := Nat.le_of_eq ey
       clear hx ey zr
       have hc6 := upT hc5 hd6
       have haX9 := hrX9.inw.aw l6
       replace hrX9 := hrX9.below hd6
       refine hK.out _ _ hc6 (fun hHeld => ?_)
       clear hK K
       try simp only [Act.put, z_1, z_2, z_3, z_4, z_5, z_6, z_7]
       exact K400.out X9 y9 x6 ⟨hc6, hrX9, ry9, by9, haX9⟩
      ·have zr := zeroState
       go_simp
       obtain ⟨x7, y9, hx, ey, ry9, hd7, by9⟩ := upN2 hHeld (.cells (cel (sState oState)) 49)
       rw [hx, ey]
       have l7 := Nat.le_of_eq ey
       clear hx ey zr
       have hc7 := upT hHeld hd7
       refine hK.out _ _ hc7 (fun hHeld => ?_)
       clear hK K
       try simp only [Act.put, z_1, z_2, z_3, z_4, z_5, z_6, z_7]
       refine rd1 5 (fun K hK => ?_)
       go_simp
       refine (HVR.out _ (hc7)).mono ?_
       rintro e' x8 ⟨X9, rfl, hrX9, hd8⟩
       dsimp only
       have hc8 := upT hc7 hd8
       have haX9 := hrX9.new.aw (some_ltK ry9)
       replace hrX9 := hrX9.to (hc7).size hrX9.sim
       replace ry9 := upR hd8 ry9
       refine hK.out _ _ hc8 (fun hHeld => ?_)
       clear hK K
       try simp only [Act.put, z_1, z_2, z_3, z_4, z_5, z_6, z_7]
       refine tk 6 (v := ?v920) ?y920 hHeld ?r920
       case y920 => intro w hSw; go_simp; try with_reducible rfl
       refine tk 7 (v := ?v921) ?y921 hHeld ?r921
       case y921 => intro w hSw; go_simp; try with_reducible rfl
       refine tk 8 (v := ?v922) ?y922 hHeld ?r922
       case y922 => intro w hSw; go_simp; try with_reducible rfl
       try simp only [Act.put, z_1, z_2, z_3, z_4, z_5, z_6, z_7]
       exact K400.out X9 y9 x8 ⟨hc8, hrX9, ry9, by9, haX9⟩
      case t400 =>
       rintro X9 y9 V ⟨hB, hrX9, ry9, by9, haX9⟩
       have hHeld := hB
       refine rd1 10 (fun K hK => ?_)
       have sv := svState_run ry9 X9
       go_simp
       have hce : Up W8 _ := below_row (hB) by9 (cel (sState X9))
       have hrz : Res W8.heap.size (V.setRow y9 (cel (sState X9))) QS X9 := ⟨hrX9.sim, hrX9.inw.kept haX9 ((Kept.refl _ _).setRow _), hrX9.nil, hrX9.new⟩
       refine hK.out _ _ hce (fun hHeld => ?_)
       clear hK K sv
       try simp only [Act.put, z_1, z_2, z_3, z_4, z_5, z_6, z_7]
       refine rd1 11 (fun K hK => ?_)
       go_simp
       refine hK.out _ _ hce (fun hHeld => ?_)
       clear hK K
       try simp only [Act.put, z_1, z_2, z_3, z_4, z_5, z_6, z_7]
       refine wpAnyH_done (by kernel_rfl) ?_ _
       refine NoPanic.normal ?_
       go_wp2
       go_meet
       exact ⟨X9, y9, rfl, rfl, setRow_at ry9, hrz, hce, by9⟩
     case rest =>
      obtain ⟨Q, y9, rfl, rfl, r9, hq9, hu9, hy9⟩ := hcut
      obtain ⟨W9, eW9⟩ : ∃ W, wc = W := ⟨_, rfl⟩
      rw [eW9] at r9 hq9 hu9 ⊢
      clear eW9
      have hu := upT HU7.out hu9
      have hy9w : wr.heap.size ≤ y9 := Nat.le_trans HU7.out.size hy9
      have hp9 := HP7.out.below hu9
      have hq : Res wr.heap.size W9 QS Q := hq9.to HU7.out.size hq9.sim
      have r79 := upR hu9 R7.out
      have lp := lvState_run r79
      have lq := lvState_run r9
      have hpq : SimF P Q := hp9.sim.symm.trans (HSS.out.trans hq.sim)
      have htl := told_any P Q none none 0 0 0 (fun _ => 0) VE W9 (okF_sim hp9.sim HSO.out) hp9.inw hq.inw hpq (.inl ⟨rfl, rfl, rfl⟩) (.inl ⟨rfl, rfl, rfl⟩) (by omega)
      have hsm : ∀ V, Up W9 V → Calls Tryz.prog 11 #[.agg (cel (sState X)), .agg (cel (sState Y))] V fun e w' => e = .returned (.bool true) ∧ Below V.heap.size V w' := fun V h => rsame_sim X Y V HII.out.ok (HII.out.ix.below (upT hu h)) (HII.out.iy.below (upT hu h)) HII.out.sim
      have HTL := hid htl
      have HSMM := hid hsm
      have HU := hid hu
      have HP9 := hid hp9
      have HQ9 := hid hq
      have R79 := hid r79
      have R9 := hid r9
      have HLYY := hid (fun V (h : Up W9 V) => HLY.out V (upT hu9 h))
      have HLX9 := hid (fun V (h : Up W9 V) => HLXX.out V (upT hu h))
      clear htl hsm hu hp9 hq hq9 hu9 r79 r9 hpq HLX HLXX HLY HLE HVR HP7 HU7 R7 HIX
      go_upto_region 11 with (first
       | (go_at_call 10; refine HTL.out.mono ?_; rintro e' w5 ⟨rfl, hb5⟩; have lx5 := HLX9.out w5 hb5; have ly5 := HLYY.out w5 hb5; have HS5 := hid (HSMM.out w5 hb5); have HB5 := hid hb5; clear hb5)
       | (go_at_call 11; refine HS5.out.mono ?_; rintro e' w6 ⟨rfl, hb6⟩))
      have hu6 := upT HB5.out hb6
      have r76 := upR hu6 R79.out
      have r96 := upR hu6 R9.out
      have HU6 := hid (upT HU.out hu6)
      have HP6 := hid (HP9.out.below hu6)
      have HQ6 := hid (HQ9.out.below hu6)
      clear lx5 ly5 lp lq hb6 hu6 HS5 HB5 HTL HSMM HLYY HLX9 HP9 HQ9 R79 R9
      by_cases hE : VE = 0
      ·have hnx := HvI.next HII.out HU6.out HB2w.out HB5w.out HNE.out HP6.out HQ6.out HSS.out HSO.out HSL.out
       have l2 := some_ltK HII.out.r2
       have l5 := some_ltK HII.out.r5
       have lp := lvState_run r76
       have s2 := svState_run (upR HU6.out HII.out.r2) P
       obtain ⟨V1, hV1⟩ : ∃ V, w6.setRow b2 (cel (sState P)) = V := ⟨_, rfl⟩
       rw [hV1] at s2 hnx
       have lq : (lvState ⟨y9, 0, none⟩).run Tryz.prog V1 = .ok (.agg (cel (sState Q))) V1 := by
        refine lvState_run (t := 49) ?_
        rw [← hV1, setRow_other (by omega)]
        exact r96
       have r5 : V1.heap[b5]? = some (.cells (cel (sState Y)) 49) := by
        rw [← hV1, setRow_other (fun e => HNE.out e.symm)]
        exact upR HU6.out HII.out.r5
       have s5 := svState_run r5 Q
       have HNX := hid hnx
       clear hnx hV1 r5 r76 r96
       go_wp2
       go_roundw
       case rel => exact ⟨k + 1, P, Q, by omega, by omega, by go_num, HNX.out⟩
       case measure => simp [intOf]; omega
      ·have HUP := hid (HII.out.up HU6.out)
       clear r76 r96
       go_wp2
       go_roundw
       case rel => exact ⟨k + 1, X, Y, by omega, by omega, by go_num, HUP.out⟩
       case measure => simp [intOf]; omega
   ·have k12 : ¬ (k : Int) < 12 := by omega
    have HBX := hid hi.bel
    clear hi
    go_wp2
    go_ret
    exact ⟨rfl, HBX.out⟩
  ·have k1 : ¬ (k : Int) < (ln : Int) := by omega
   have HBX := hid hi.bel
   clear hi
   go_wp2
   go_ret
   exact ⟨rfl, HBX.out⟩
end Go.Proofs.YtopnhpllidegnaaGreatDoor
