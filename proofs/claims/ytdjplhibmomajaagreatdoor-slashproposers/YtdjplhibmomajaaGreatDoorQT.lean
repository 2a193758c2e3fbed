/- A part. -/
import Derived.Test.YtdjplhibmomajaaGreatDoorQN
import Derived.Test.YtdjplhibmomajaaGreatDoorQK
import Derived.Test.YtdjplhibmomajaaGreatDoorQF
import Derived.Test.YtdjplhibmomajaaGreatDoorQR
import Derived.Test.YtdjplhibmomajaaGreatDoorQS
import Derived.Test.YtdjplhibmomajaaGreatDoorQM
namespace Go.Proofs.YtdjplhibmomajaaGreatDoor
open Go.RowKit
set_option linter.unusedVariables false
set_option linter.unusedSimpArgs false
section
open Go.RowKit
set_option linter.unusedVariables false
set_option linter.unusedSimpArgs false
set_option maxRecDepth 20000
attribute [local go_sem ↓] aAq aAr
set_option maxHeartbeats 8000000 in
theorem aGD (x : aA1) (w : World) (hw : InW w x) (hn : aGw x) (hb : Rch x) :
    Calls Tryz.prog 32 #[.agg (cel (aA0 x))] w fun e w'=>∃ X:aA1,e=.returned (.agg (cel (aA0 X)))∧aBQ x X∧aEJ w.heap.size w' X∧Below w.heap.size w w':=by
 obtain ⟨V0,hV0⟩:∃ W,(w.alloc (.cells (cel (aA0 x)) 49)).alloc (.cells (cel (aA0 aAn)) 49)=W:=⟨_,rfl⟩
 have r0:V0.heap[w.heap.size]?=some (.cells (cel (aA0 x)) 49):=by rw [←hV0];exact (aAc (by simp)).trans (aA2 rfl)
 have r1:V0.heap[w.heap.size+1]?=some (.cells (cel (aA0 aAn)) 49):=by rw [←hV0];exact aA2 (by simp)
 have hB0:Up w V0:=by rw [←hV0];exact ((Below.refl _ _).alloc (Nat.le_refl _) _).alloc (by simp) _
 have z:=aBg
 unfold Rch at hb
 have HU0:=hid hB0
 have RY0:=hid r0
 have RR0:=hid r1
 have SM0:=hid (aBQ.refl x)
 have HV:=hid hV0
 have SR7:Hid (∀ V,Up w V→Src V 32 x.f7.a x.f7.n x.f7.c (bl x.f7.z (32*x.f7.n))):=fun V h=>(aGn hw.i7).below h
 have SR9:Hid (∀ V,Up w V→Src V 65 x.f9.a x.f9.n x.f9.c (flat (fun i=>aAW (aBx (x.f9.z i))) x.f9.n)):=fun V h=>(aGl hw.i9 hn.n9 (fun i=>by rw [aAC];rfl) (fun i=>aDH _)).below h
 have SR11:Hid (∀ V,Up w V→Src V 86 x.f11.a x.f11.n x.f11.c (flat (fun i=>aAW (aA3 (x.f11.z i))) x.f11.n)):=fun V h=>(aGl hw.i11 hn.n11 (fun i=>by rw [aAC];rfl) (fun i=>aDH _)).below h
 have SR12:Hid (∀ V,Up w V→Src V 1 x.f12.a x.f12.n x.f12.c (nl x.f12.z x.f12.n)):=fun V h=>(aGm hw.i12 hn.n12).below h
 have SR15:Hid (∀ V,Up w V→Src V 1 x.f15.a x.f15.n x.f15.c (bl x.f15.z x.f15.n)):=fun V h=>(aGk hw.i15).below h
 have SR16:Hid (∀ V,Up w V→Src V 1 x.f16.a x.f16.n x.f16.c (bl x.f16.z x.f16.n)):=fun V h=>(aGk hw.i16).below h
 have SR21:Hid (∀ V,Up w V→Src V 1 x.f21.a x.f21.n x.f21.c (nl x.f21.z x.f21.n)):=fun V h=>(aGm hw.i21 hn.n21).below h
 clear hB0 r0 r1 hw hn hV0
 go_enter Tryz.func32,Tryz.ntmps32
 go_upto_region 1 with fail
 rw [HV.out]
 clear HV z
 have l7:=cS7 RY0.out
 have HC:=hid (clR x.f7.a x.f7.n x.f7.c _ V0 (SR7.out V0 HU0.out) (by omega))
 go_upto_region 2 with (go_at_call 69;refine HC.out.mono ?_;rintro e' w1 ⟨a7,c7,rfl,ho,hd⟩;have ry:=upR hd RY0.out;have fy:=aAa ry 653;obtain ⟨cd,ecd⟩:=aBy (i:=653) ry (by omega);have HO:=hid ho;have HD:=hid hd;have RW:=hid ry;clear ho hd ry)
 obtain ⟨V1,hV⟩:∃ V,w1.setCell ⟨w.heap.size,653,none⟩ (.slice a7 x.f7.n c7)=V:=⟨_,rfl⟩
 have hk:Kept w.heap.size w1 V1:=by rw [←hV];exact (Kept.refl _ _).setCell _ _
 obtain ⟨X1,eX⟩:∃ X,{ x with f7:=⟨a7,x.f7.n,c7,x.f7.z⟩ }=X:=⟨_,rfl⟩
 have RY1:Hid (V1.heap[w.heap.size]?=some (.cells (cel (aA0 X1)) 49)):=by
  rw [←hV,←eX]
  exact (aAI RW.out 653 _).trans (congrArg (fun c=>some (Obj.cells c 49)) (aVg x a7 x.f7.n c7))
 have q1:=aAe RR0.out
 have RR1:Hid (V1.heap[w.heap.size+1]?=some (.cells (cel (aA0 aAn)) 49)):=(hk.block _ (by have:=HD.out.size;omega) (by omega)).trans (upR HD.out RR0.out)
 have HU1:Hid (Up w V1):=by
  have:=upT HU0.out HD.out
  exact this.trans (hk.below (Nat.le_refl _) this.size)
 have SM1:Hid (aBQ x X1):=by rw [←eX];exact { SM0.out with l7:=rfl }
 have G9:Hid (X1.f9=x.f9):=by rw [←eX];exact rfl
 have G11:Hid (X1.f11=x.f11):=by rw [←eX];exact rfl
 have G12:Hid (X1.f12=x.f12):=by rw [←eX];exact rfl
 have G15:Hid (X1.f15=x.f15):=by rw [←eX];exact rfl
 have G16:Hid (X1.f16=x.f16):=by rw [←eX];exact rfl
 have G21:Hid (X1.f21=x.f21):=by rw [←eX];exact rfl
 have P7:Hid (V1.ownsRow w.heap.size 24 32 (.slice X1.f7.a X1.f7.n X1.f7.c) X1.f7.n (bl X1.f7.z (32*X1.f7.n))):=by
  rw [←eX]
  show V1.ownsRow _ _ _ (.slice a7 x.f7.n c7) x.f7.n (bl x.f7.z (32*x.f7.n))
  exact aBO (aA9 HO.out hk (aAx HO.out RW.out (by decide))) HU0.out.size
 have F9:=G9
 clear G9
 have F11:=G11
 clear G11
 have F12:=G12
 clear G12
 have F15:=G15
 clear G15
 have F16:=G16
 clear G16
 have F21:=G21
 clear G21
 have O7:=P7
 rw [hV]
 clear P7 hV hk eX q1 l7 ecd fy HC HO HD RW RY0 RR0 HU0 SM0 SR7
 have l9:=cS9 RY1.out
 rw [F9.out] at l9
 have HC:=hid (clE x.f9.a x.f9.n x.f9.c _ V1 (SR9.out V1 HU1.out) (by omega))
 go_upto_region 3 with (go_at_call 70;refine HC.out.mono ?_;rintro e' w2 ⟨a9,c9,rfl,ho,hd⟩;have ry:=upR hd RY1.out;have fy:=aAa ry 719;obtain ⟨cd,ecd⟩:=aBy (i:=719) ry (by omega);have HO:=hid ho;have HD:=hid hd;have RW:=hid ry;clear ho hd ry)
 obtain ⟨V2,hV⟩:∃ V,w2.setCell ⟨w.heap.size,719,none⟩ (.slice a9 x.f9.n c9)=V:=⟨_,rfl⟩
 have hk:Kept w.heap.size w2 V2:=by rw [←hV];exact (Kept.refl _ _).setCell _ _
 obtain ⟨X2,eX⟩:∃ X,{ X1 with f9:=⟨a9,x.f9.n,c9,X1.f9.z⟩ }=X:=⟨_,rfl⟩
 have RY2:Hid (V2.heap[w.heap.size]?=some (.cells (cel (aA0 X2)) 49)):=by
  rw [←hV,←eX]
  exact (aAI RW.out 719 _).trans (congrArg (fun c=>some (Obj.cells c 49)) (aVh X1 a9 x.f9.n c9))
 have q1:=aAe RR1.out
 have RR2:Hid (V2.heap[w.heap.size+1]?=some (.cells (cel (aA0 aAn)) 49)):=(hk.block _ (by have:=HD.out.size;omega) (by omega)).trans (upR HD.out RR1.out)
 have HU2:Hid (Up w V2):=by
  have:=upT HU1.out HD.out
  exact this.trans (hk.below (Nat.le_refl _) this.size)
 have SM2:Hid (aBQ x X2):=by rw [←eX];exact { SM1.out with l9:=rfl }
 have G11:Hid (X2.f11=x.f11):=by rw [←eX];exact F11.out
 have G12:Hid (X2.f12=x.f12):=by rw [←eX];exact F12.out
 have G15:Hid (X2.f15=x.f15):=by rw [←eX];exact F15.out
 have G16:Hid (X2.f16=x.f16):=by rw [←eX];exact F16.out
 have G21:Hid (X2.f21=x.f21):=by rw [←eX];exact F21.out
 have P7:Hid (V2.ownsRow w.heap.size 24 32 (.slice X2.f7.a X2.f7.n X2.f7.c) X2.f7.n (bl X2.f7.z (32*X2.f7.n))):=by rw [←eX];exact aA9 (ownsRow_below O7.out HD.out) hk (aAx (ownsRow_below O7.out HD.out) RW.out (by decide))
 have P9:Hid (V2.ownsRow w.heap.size 34 65 (.slice X2.f9.a X2.f9.n X2.f9.c) X2.f9.n (flat (fun i=>aAW (aBx (X2.f9.z i))) X2.f9.n)):=by
  rw [←eX]
  show V2.ownsRow _ _ _ (.slice a9 x.f9.n c9) x.f9.n (flat (fun i=>aAW (aBx (X1.f9.z i))) x.f9.n)
  rw [F9.out]
  exact aBO (aA9 HO.out hk (aAx HO.out RW.out (by decide))) HU1.out.size
 clear F11
 have F11:=G11
 clear G11
 clear F12
 have F12:=G12
 clear G12
 clear F15
 have F15:=G15
 clear G15
 clear F16
 have F16:=G16
 clear G16
 clear F21
 have F21:=G21
 clear G21
 clear O7
 have O7:=P7
 clear P7
 have O9:=P9
 rw [hV]
 clear P9 hV hk eX q1 l9 ecd fy HC HO HD RW RY1 RR1 HU1 SM1 SR9 F9
 have l11:=aFv RY2.out
 rw [F11.out] at l11
 have HC:=hid (clV x.f11.a x.f11.n x.f11.c _ V2 (SR11.out V2 HU2.out) (by omega))
 go_upto_region 4 with (go_at_call 71;refine HC.out.mono ?_;rintro e' w3 ⟨a11,c11,rfl,ho,hd⟩;have ry:=upR hd RY2.out;have fy:=aAa ry 721;obtain ⟨cd,ecd⟩:=aBy (i:=721) ry (by omega);have HO:=hid ho;have HD:=hid hd;have RW:=hid ry;clear ho hd ry)
 obtain ⟨V3,hV⟩:∃ V,w3.setCell ⟨w.heap.size,721,none⟩ (.slice a11 x.f11.n c11)=V:=⟨_,rfl⟩
 have hk:Kept w.heap.size w3 V3:=by rw [←hV];exact (Kept.refl _ _).setCell _ _
 obtain ⟨X3,eX⟩:∃ X,{ X2 with f11:=⟨a11,x.f11.n,c11,X2.f11.z⟩ }=X:=⟨_,rfl⟩
 have RY3:Hid (V3.heap[w.heap.size]?=some (.cells (cel (aA0 X3)) 49)):=by
  rw [←hV,←eX]
  exact (aAI RW.out 721 _).trans (congrArg (fun c=>some (Obj.cells c 49)) (aSP X2 a11 x.f11.n c11))
 have q1:=aAe RR2.out
 have RR3:Hid (V3.heap[w.heap.size+1]?=some (.cells (cel (aA0 aAn)) 49)):=(hk.block _ (by have:=HD.out.size;omega) (by omega)).trans (upR HD.out RR2.out)
 have HU3:Hid (Up w V3):=by
  have:=upT HU2.out HD.out
  exact this.trans (hk.below (Nat.le_refl _) this.size)
 have SM3:Hid (aBQ x X3):=by rw [←eX];exact { SM2.out with l11:=rfl }
 have G12:Hid (X3.f12=x.f12):=by rw [←eX];exact F12.out
 have G15:Hid (X3.f15=x.f15):=by rw [←eX];exact F15.out
 have G16:Hid (X3.f16=x.f16):=by rw [←eX];exact F16.out
 have G21:Hid (X3.f21=x.f21):=by rw [←eX];exact F21.out
 have P7:Hid (V3.ownsRow w.heap.size 24 32 (.slice X3.f7.a X3.f7.n X3.f7.c) X3.f7.n (bl X3.f7.z (32*X3.f7.n))):=by rw [←eX];exact aA9 (ownsRow_below O7.out HD.out) hk (aAx (ownsRow_below O7.out HD.out) RW.out (by decide))
 have P9:Hid (V3.ownsRow w.heap.size 34 65 (.slice X3.f9.a X3.f9.n X3.f9.c) X3.f9.n (flat (fun i=>aAW (aBx (X3.f9.z i))) X3.f9.n)):=by rw [←eX];exact aA9 (ownsRow_below O9.out HD.out) hk (aAx (ownsRow_below O9.out HD.out) RW.out (by decide))
 have P11:Hid (V3.ownsRow w.heap.size 65 86 (.slice X3.f11.a X3.f11.n X3.f11.c) X3.f11.n (flat (fun i=>aAW (aA3 (X3.f11.z i))) X3.f11.n)):=by
  rw [←eX]
  show V3.ownsRow _ _ _ (.slice a11 x.f11.n c11) x.f11.n (flat (fun i=>aAW (aA3 (X2.f11.z i))) x.f11.n)
  rw [F11.out]
  exact aBO (aA9 HO.out hk (aAx HO.out RW.out (by decide))) HU2.out.size
 clear F12
 have F12:=G12
 clear G12
 clear F15
 have F15:=G15
 clear G15
 clear F16
 have F16:=G16
 clear G16
 clear F21
 have F21:=G21
 clear G21
 clear O7
 have O7:=P7
 clear P7
 clear O9
 have O9:=P9
 clear P9
 have O11:=P11
 rw [hV]
 clear P11 hV hk eX q1 l11 ecd fy HC HO HD RW RY2 RR2 HU2 SM2 SR11 F11
 have l12:=aMz RY3.out
 rw [F12.out] at l12
 have HC:=hid (clU x.f12.a x.f12.n x.f12.c _ V3 (SR12.out V3 HU3.out) (by omega))
 go_upto_region 5 with (go_at_call 72;refine HC.out.mono ?_;rintro e' w4 ⟨a12,c12,rfl,ho,hd⟩;have ry:=upR hd RY3.out;have fy:=aAa ry 722;obtain ⟨cd,ecd⟩:=aBy (i:=722) ry (by omega);have HO:=hid ho;have HD:=hid hd;have RW:=hid ry;clear ho hd ry)
 obtain ⟨V4,hV⟩:∃ V,w4.setCell ⟨w.heap.size,722,none⟩ (.slice a12 x.f12.n c12)=V:=⟨_,rfl⟩
 have hk:Kept w.heap.size w4 V4:=by rw [←hV];exact (Kept.refl _ _).setCell _ _
 obtain ⟨X4,eX⟩:∃ X,{ X3 with f12:=⟨a12,x.f12.n,c12,X3.f12.z⟩ }=X:=⟨_,rfl⟩
 have RY4:Hid (V4.heap[w.heap.size]?=some (.cells (cel (aA0 X4)) 49)):=by
  rw [←hV,←eX]
  exact (aAI RW.out 722 _).trans (congrArg (fun c=>some (Obj.cells c 49)) (aSQ X3 a12 x.f12.n c12))
 have q1:=aAe RR3.out
 have RR4:Hid (V4.heap[w.heap.size+1]?=some (.cells (cel (aA0 aAn)) 49)):=(hk.block _ (by have:=HD.out.size;omega) (by omega)).trans (upR HD.out RR3.out)
 have HU4:Hid (Up w V4):=by
  have:=upT HU3.out HD.out
  exact this.trans (hk.below (Nat.le_refl _) this.size)
 have SM4:Hid (aBQ x X4):=by rw [←eX];exact { SM3.out with l12:=rfl }
 have G15:Hid (X4.f15=x.f15):=by rw [←eX];exact F15.out
 have G16:Hid (X4.f16=x.f16):=by rw [←eX];exact F16.out
 have G21:Hid (X4.f21=x.f21):=by rw [←eX];exact F21.out
 have P7:Hid (V4.ownsRow w.heap.size 24 32 (.slice X4.f7.a X4.f7.n X4.f7.c) X4.f7.n (bl X4.f7.z (32*X4.f7.n))):=by rw [←eX];exact aA9 (ownsRow_below O7.out HD.out) hk (aAx (ownsRow_below O7.out HD.out) RW.out (by decide))
 have P9:Hid (V4.ownsRow w.heap.size 34 65 (.slice X4.f9.a X4.f9.n X4.f9.c) X4.f9.n (flat (fun i=>aAW (aBx (X4.f9.z i))) X4.f9.n)):=by rw [←eX];exact aA9 (ownsRow_below O9.out HD.out) hk (aAx (ownsRow_below O9.out HD.out) RW.out (by decide))
 have P11:Hid (V4.ownsRow w.heap.size 65 86 (.slice X4.f11.a X4.f11.n X4.f11.c) X4.f11.n (flat (fun i=>aAW (aA3 (X4.f11.z i))) X4.f11.n)):=by rw [←eX];exact aA9 (ownsRow_below O11.out HD.out) hk (aAx (ownsRow_below O11.out HD.out) RW.out (by decide))
 have P12:Hid (V4.ownsRow w.heap.size 22 1 (.slice X4.f12.a X4.f12.n X4.f12.c) X4.f12.n (nl X4.f12.z X4.f12.n)):=by
  rw [←eX]
  show V4.ownsRow _ _ _ (.slice a12 x.f12.n c12) x.f12.n (nl X3.f12.z x.f12.n)
  rw [F12.out]
  exact aBO (aA9 HO.out hk (aAx HO.out RW.out (by decide))) HU3.out.size
 clear F15
 have F15:=G15
 clear G15
 clear F16
 have F16:=G16
 clear G16
 clear F21
 have F21:=G21
 clear G21
 clear O7
 have O7:=P7
 clear P7
 clear O9
 have O9:=P9
 clear P9
 clear O11
 have O11:=P11
 clear P11
 have O12:=P12
 rw [hV]
 clear P12 hV hk eX q1 l12 ecd fy HC HO HD RW RY3 RR3 HU3 SM3 SR12 F12
 have l15:=aQP RY4.out
 rw [F15.out] at l15
 have HC:=hid (clB x.f15.a x.f15.n x.f15.c _ V4 (SR15.out V4 HU4.out) (by omega))
 go_upto_region 6 with (go_at_call 73;refine HC.out.mono ?_;rintro e' w5 ⟨a15,c15,rfl,ho,hd⟩;have ry:=upR hd RY4.out;have fy:=aAa ry 987;obtain ⟨cd,ecd⟩:=aBy (i:=987) ry (by omega);have HO:=hid ho;have HD:=hid hd;have RW:=hid ry;clear ho hd ry)
 obtain ⟨V5,hV⟩:∃ V,w5.setCell ⟨w.heap.size,987,none⟩ (.slice a15 x.f15.n c15)=V:=⟨_,rfl⟩
 have hk:Kept w.heap.size w5 V5:=by rw [←hV];exact (Kept.refl _ _).setCell _ _
 obtain ⟨X5,eX⟩:∃ X,{ X4 with f15:=⟨a15,x.f15.n,c15,X4.f15.z⟩ }=X:=⟨_,rfl⟩
 have RY5:Hid (V5.heap[w.heap.size]?=some (.cells (cel (aA0 X5)) 49)):=by
  rw [←hV,←eX]
  exact (aAI RW.out 987 _).trans (congrArg (fun c=>some (Obj.cells c 49)) (aSR X4 a15 x.f15.n c15))
 have q1:=aAe RR4.out
 have RR5:Hid (V5.heap[w.heap.size+1]?=some (.cells (cel (aA0 aAn)) 49)):=(hk.block _ (by have:=HD.out.size;omega) (by omega)).trans (upR HD.out RR4.out)
 have HU5:Hid (Up w V5):=by
  have:=upT HU4.out HD.out
  exact this.trans (hk.below (Nat.le_refl _) this.size)
 have SM5:Hid (aBQ x X5):=by rw [←eX];exact { SM4.out with l15:=rfl }
 have G16:Hid (X5.f16=x.f16):=by rw [←eX];exact F16.out
 have G21:Hid (X5.f21=x.f21):=by rw [←eX];exact F21.out
 have P7:Hid (V5.ownsRow w.heap.size 24 32 (.slice X5.f7.a X5.f7.n X5.f7.c) X5.f7.n (bl X5.f7.z (32*X5.f7.n))):=by rw [←eX];exact aA9 (ownsRow_below O7.out HD.out) hk (aAx (ownsRow_below O7.out HD.out) RW.out (by decide))
 have P9:Hid (V5.ownsRow w.heap.size 34 65 (.slice X5.f9.a X5.f9.n X5.f9.c) X5.f9.n (flat (fun i=>aAW (aBx (X5.f9.z i))) X5.f9.n)):=by rw [←eX];exact aA9 (ownsRow_below O9.out HD.out) hk (aAx (ownsRow_below O9.out HD.out) RW.out (by decide))
 have P11:Hid (V5.ownsRow w.heap.size 65 86 (.slice X5.f11.a X5.f11.n X5.f11.c) X5.f11.n (flat (fun i=>aAW (aA3 (X5.f11.z i))) X5.f11.n)):=by rw [←eX];exact aA9 (ownsRow_below O11.out HD.out) hk (aAx (ownsRow_below O11.out HD.out) RW.out (by decide))
 have P12:Hid (V5.ownsRow w.heap.size 22 1 (.slice X5.f12.a X5.f12.n X5.f12.c) X5.f12.n (nl X5.f12.z X5.f12.n)):=by rw [←eX];exact aA9 (ownsRow_below O12.out HD.out) hk (aAx (ownsRow_below O12.out HD.out) RW.out (by decide))
 have P15:Hid (V5.ownsRow w.heap.size 5 1 (.slice X5.f15.a X5.f15.n X5.f15.c) X5.f15.n (bl X5.f15.z X5.f15.n)):=by
  rw [←eX]
  show V5.ownsRow _ _ _ (.slice a15 x.f15.n c15) x.f15.n (bl X4.f15.z x.f15.n)
  rw [F15.out]
  exact aBO (aA9 HO.out hk (aAx HO.out RW.out (by decide))) HU4.out.size
 clear F16
 have F16:=G16
 clear G16
 clear F21
 have F21:=G21
 clear G21
 clear O7
 have O7:=P7
 clear P7
 clear O9
 have O9:=P9
 clear P9
 clear O11
 have O11:=P11
 clear P11
 clear O12
 have O12:=P12
 clear P12
 have O15:=P15
 rw [hV]
 clear P15 hV hk eX q1 l15 ecd fy HC HO HD RW RY4 RR4 HU4 SM4 SR15 F15
 have l16:=aQQ RY5.out
 rw [F16.out] at l16
 have HC:=hid (clB x.f16.a x.f16.n x.f16.c _ V5 (SR16.out V5 HU5.out) (by omega))
 go_upto_region 7 with (go_at_call 73;refine HC.out.mono ?_;rintro e' w6 ⟨a16,c16,rfl,ho,hd⟩;have ry:=upR hd RY5.out;have fy:=aAa ry 988;obtain ⟨cd,ecd⟩:=aBy (i:=988) ry (by omega);have HO:=hid ho;have HD:=hid hd;have RW:=hid ry;clear ho hd ry)
 obtain ⟨V6,hV⟩:∃ V,w6.setCell ⟨w.heap.size,988,none⟩ (.slice a16 x.f16.n c16)=V:=⟨_,rfl⟩
 have hk:Kept w.heap.size w6 V6:=by rw [←hV];exact (Kept.refl _ _).setCell _ _
 obtain ⟨X6,eX⟩:∃ X,{ X5 with f16:=⟨a16,x.f16.n,c16,X5.f16.z⟩ }=X:=⟨_,rfl⟩
 have RY6:Hid (V6.heap[w.heap.size]?=some (.cells (cel (aA0 X6)) 49)):=by
  rw [←hV,←eX]
  exact (aAI RW.out 988 _).trans (congrArg (fun c=>some (Obj.cells c 49)) (aSS X5 a16 x.f16.n c16))
 have q1:=aAe RR5.out
 have RR6:Hid (V6.heap[w.heap.size+1]?=some (.cells (cel (aA0 aAn)) 49)):=(hk.block _ (by have:=HD.out.size;omega) (by omega)).trans (upR HD.out RR5.out)
 have HU6:Hid (Up w V6):=by
  have:=upT HU5.out HD.out
  exact this.trans (hk.below (Nat.le_refl _) this.size)
 have SM6:Hid (aBQ x X6):=by rw [←eX];exact { SM5.out with l16:=rfl }
 have G21:Hid (X6.f21=x.f21):=by rw [←eX];exact F21.out
 have P7:Hid (V6.ownsRow w.heap.size 24 32 (.slice X6.f7.a X6.f7.n X6.f7.c) X6.f7.n (bl X6.f7.z (32*X6.f7.n))):=by rw [←eX];exact aA9 (ownsRow_below O7.out HD.out) hk (aAx (ownsRow_below O7.out HD.out) RW.out (by decide))
 have P9:Hid (V6.ownsRow w.heap.size 34 65 (.slice X6.f9.a X6.f9.n X6.f9.c) X6.f9.n (flat (fun i=>aAW (aBx (X6.f9.z i))) X6.f9.n)):=by rw [←eX];exact aA9 (ownsRow_below O9.out HD.out) hk (aAx (ownsRow_below O9.out HD.out) RW.out (by decide))
 have P11:Hid (V6.ownsRow w.heap.size 65 86 (.slice X6.f11.a X6.f11.n X6.f11.c) X6.f11.n (flat (fun i=>aAW (aA3 (X6.f11.z i))) X6.f11.n)):=by rw [←eX];exact aA9 (ownsRow_below O11.out HD.out) hk (aAx (ownsRow_below O11.out HD.out) RW.out (by decide))
 have P12:Hid (V6.ownsRow w.heap.size 22 1 (.slice X6.f12.a X6.f12.n X6.f12.c) X6.f12.n (nl X6.f12.z X6.f12.n)):=by rw [←eX];exact aA9 (ownsRow_below O12.out HD.out) hk (aAx (ownsRow_below O12.out HD.out) RW.out (by decide))
 have P15:Hid (V6.ownsRow w.heap.size 5 1 (.slice X6.f15.a X6.f15.n X6.f15.c) X6.f15.n (bl X6.f15.z X6.f15.n)):=by rw [←eX];exact aA9 (ownsRow_below O15.out HD.out) hk (aAx (ownsRow_below O15.out HD.out) RW.out (by decide))
 have P16:Hid (V6.ownsRow w.heap.size 5 1 (.slice X6.f16.a X6.f16.n X6.f16.c) X6.f16.n (bl X6.f16.z X6.f16.n)):=by
  rw [←eX]
  show V6.ownsRow _ _ _ (.slice a16 x.f16.n c16) x.f16.n (bl X5.f16.z x.f16.n)
  rw [F16.out]
  exact aBO (aA9 HO.out hk (aAx HO.out RW.out (by decide))) HU5.out.size
 have D15:Hid (∀ ad ad',X6.f15.a=some ad→X6.f16.a=some ad'→ad.block≠ad'.block):=fun ad ad' e1 e2=>by
  rw [←eX] at e1 e2
  have e3:a16=some ad':=e2
  have h1:=O15.out
  rw [show X5.f15.a=some ad from e1] at h1
  have h2:=HO.out
  rw [e3] at h2
  have:=(aIE h1).2
  have:=(aIE h2).1
  omega
 clear F21
 have F21:=G21
 clear G21
 clear O7
 have O7:=P7
 clear P7
 clear O9
 have O9:=P9
 clear P9
 clear O11
 have O11:=P11
 clear P11
 clear O12
 have O12:=P12
 clear P12
 clear O15
 have O15:=P15
 clear P15
 have O16:=P16
 rw [hV]
 clear P16 hV hk eX q1 l16 ecd fy HC HO HD RW RY5 RR5 HU5 SM5 SR16 F16
 have l21:=aO8 RY6.out
 rw [F21.out] at l21
 have HC:=hid (clU x.f21.a x.f21.n x.f21.c _ V6 (SR21.out V6 HU6.out) (by omega))
 go_upto_region 8 with (go_at_call 72;refine HC.out.mono ?_;rintro e' w7 ⟨a21,c21,rfl,ho,hd⟩;have ry:=upR hd RY6.out;have fy:=aAa ry 1092;obtain ⟨cd,ecd⟩:=aBy (i:=1092) ry (by omega);have HO:=hid ho;have HD:=hid hd;have RW:=hid ry;clear ho hd ry)
 obtain ⟨V7,hV⟩:∃ V,w7.setCell ⟨w.heap.size,1092,none⟩ (.slice a21 x.f21.n c21)=V:=⟨_,rfl⟩
 have hk:Kept w.heap.size w7 V7:=by rw [←hV];exact (Kept.refl _ _).setCell _ _
 obtain ⟨X7,eX⟩:∃ X,{ X6 with f21:=⟨a21,x.f21.n,c21,X6.f21.z⟩ }=X:=⟨_,rfl⟩
 have RY7:Hid (V7.heap[w.heap.size]?=some (.cells (cel (aA0 X7)) 49)):=by
  rw [←hV,←eX]
  exact (aAI RW.out 1092 _).trans (congrArg (fun c=>some (Obj.cells c 49)) (aST X6 a21 x.f21.n c21))
 have q1:=aAe RR6.out
 have RR7:Hid (V7.heap[w.heap.size+1]?=some (.cells (cel (aA0 aAn)) 49)):=(hk.block _ (by have:=HD.out.size;omega) (by omega)).trans (upR HD.out RR6.out)
 have HU7:Hid (Up w V7):=by
  have:=upT HU6.out HD.out
  exact this.trans (hk.below (Nat.le_refl _) this.size)
 have SM7:Hid (aBQ x X7):=by rw [←eX];exact { SM6.out with l21:=rfl }
 have P7:Hid (V7.ownsRow w.heap.size 24 32 (.slice X7.f7.a X7.f7.n X7.f7.c) X7.f7.n (bl X7.f7.z (32*X7.f7.n))):=by rw [←eX];exact aA9 (ownsRow_below O7.out HD.out) hk (aAx (ownsRow_below O7.out HD.out) RW.out (by decide))
 have P9:Hid (V7.ownsRow w.heap.size 34 65 (.slice X7.f9.a X7.f9.n X7.f9.c) X7.f9.n (flat (fun i=>aAW (aBx (X7.f9.z i))) X7.f9.n)):=by rw [←eX];exact aA9 (ownsRow_below O9.out HD.out) hk (aAx (ownsRow_below O9.out HD.out) RW.out (by decide))
 have P11:Hid (V7.ownsRow w.heap.size 65 86 (.slice X7.f11.a X7.f11.n X7.f11.c) X7.f11.n (flat (fun i=>aAW (aA3 (X7.f11.z i))) X7.f11.n)):=by rw [←eX];exact aA9 (ownsRow_below O11.out HD.out) hk (aAx (ownsRow_below O11.out HD.out) RW.out (by decide))
 have P12:Hid (V7.ownsRow w.heap.size 22 1 (.slice X7.f12.a X7.f12.n X7.f12.c) X7.f12.n (nl X7.f12.z X7.f12.n)):=by rw [←eX];exact aA9 (ownsRow_below O12.out HD.out) hk (aAx (ownsRow_below O12.out HD.out) RW.out (by decide))
 have P15:Hid (V7.ownsRow w.heap.size 5 1 (.slice X7.f15.a X7.f15.n X7.f15.c) X7.f15.n (bl X7.f15.z X7.f15.n)):=by rw [←eX];exact aA9 (ownsRow_below O15.out HD.out) hk (aAx (ownsRow_below O15.out HD.out) RW.out (by decide))
 have P16:Hid (V7.ownsRow w.heap.size 5 1 (.slice X7.f16.a X7.f16.n X7.f16.c) X7.f16.n (bl X7.f16.z X7.f16.n)):=by rw [←eX];exact aA9 (ownsRow_below O16.out HD.out) hk (aAx (ownsRow_below O16.out HD.out) RW.out (by decide))
 have P21:Hid (V7.ownsRow w.heap.size 22 1 (.slice X7.f21.a X7.f21.n X7.f21.c) X7.f21.n (nl X7.f21.z X7.f21.n)):=by
  rw [←eX]
  show V7.ownsRow _ _ _ (.slice a21 x.f21.n c21) x.f21.n (nl X6.f21.z x.f21.n)
  rw [F21.out]
  exact aBO (aA9 HO.out hk (aAx HO.out RW.out (by decide))) HU6.out.size
 have E15:Hid (∀ ad ad',X7.f15.a=some ad→X7.f16.a=some ad'→ad.block≠ad'.block):=by rw [←eX];exact D15.out
 clear D15
 have D15:=E15
 clear E15
 have D12:Hid (∀ ad ad',X7.f12.a=some ad→X7.f21.a=some ad'→ad.block≠ad'.block):=fun ad ad' e1 e2=>by
  rw [←eX] at e1 e2
  have e3:a21=some ad':=e2
  have h1:=O12.out
  rw [show X6.f12.a=some ad from e1] at h1
  have h2:=HO.out
  rw [e3] at h2
  have:=(aIE h1).2
  have:=(aIE h2).1
  omega
 clear O7
 have O7:=P7
 clear P7
 clear O9
 have O9:=P9
 clear P9
 clear O11
 have O11:=P11
 clear P11
 clear O12
 have O12:=P12
 clear P12
 clear O15
 have O15:=P15
 clear P15
 clear O16
 have O16:=P16
 clear P16
 have O21:=P21
 rw [hV]
 clear P21 hV hk eX q1 l21 ecd fy HC HO HD RW RY6 RR6 HU6 SM6 SR21 F21
 have ly:=aAg RY7.out
 have s1:=aAA RR7.out X7
 have HR:=hid (aA4 (c:=cel (aA0 X7)) RR7.out)
 have hk:Kept (w.heap.size+1) V7 (V7.setRow (w.heap.size+1) (cel (aA0 X7))):=(Kept.refl _ _).setRow _
 have HC:Hid (aEJ w.heap.size (V7.setRow (w.heap.size+1) (cel (aA0 X7))) X7):=⟨aA9 O7.out hk (aAx O7.out RR7.out (by decide)),aA9 O9.out hk (aAx O9.out RR7.out (by decide)),aA9 O11.out hk (aAx O11.out RR7.out (by decide)),aA9 O12.out hk (aAx O12.out RR7.out (by decide)),aA9 O15.out hk (aAx O15.out RR7.out (by decide)),aA9 O16.out hk (aAx O16.out RR7.out (by decide)),aA9 O21.out hk (aAx O21.out RR7.out (by decide)),D15.out,D12.out⟩
 clear hk
 go_wp2
 exact aGZ 2 (w.heap.size+1) X7 49 rfl rfl rfl HR.out ⟨X7,rfl,SM7.out,HC.out,aA6 HU7.out (by omega) _⟩
end
section
open Go.RowKit
set_option linter.unusedVariables false
set_option linter.unusedSimpArgs false
set_option maxRecDepth 20000
attribute [local go_sem ↓] aAq aAr aAz aAi aAl aAw
set_option maxHeartbeats 1000000 in
theorem aFW (x : aA1) (w : World) (h0 : 0 ≤ x.f2) (h1 : x.f2 < 1099511627776) :
    Calls Tryz.prog 16 #[.agg (cel (aA0 x))] w fun e' w'=>e'=.returned (.int .u64 (x.f2 / 4))∧Below w.heap.size w w':=by
 obtain ⟨W0,hW0⟩:∃ W,w.alloc (.cells (cel (aA0 x)) 49)=W:=⟨_,rfl⟩
 have r0:W0.heap[w.heap.size]?=some (.cells (cel (aA0 x)) 49):=by rw [←hW0];exact aA2 rfl
 have hB0:Below w.heap.size w W0:=by rw [←hW0];exact (Below.refl _ _).alloc (Nat.le_refl _) _
 have l2:=cS2 r0
 generalize x.f2=p at *
 have HB:=hid hB0
 have HW:=hid hW0
 clear hB0 hW0 r0
 go_enter Tryz.func16,Tryz.ntmps16
 go_upto_region 1 with fail
 rw [HW.out]
 clear HW
 go_wp2
 go_ret
 exact ⟨aB9 rfl,HB.out⟩
set_option maxHeartbeats 1000000 in
theorem aEy (x : aA1) (i : Int) (w : World) (hn : x.f11.n ≤ 65536) :
    Calls Tryz.prog 14 #[.agg (cel (aA0 x)),.int .u64 i] w fun e' w'=>e'=.returned (.bool (decide (i < (x.f11.n:Int))))∧Below w.heap.size w w':=by
 obtain ⟨W0,hW0⟩:∃ W,w.alloc (.cells (cel (aA0 x)) 49)=W:=⟨_,rfl⟩
 have r0:W0.heap[w.heap.size]?=some (.cells (cel (aA0 x)) 49):=by rw [←hW0];exact aA2 rfl
 have hB0:Below w.heap.size w W0:=by rw [←hW0];exact (Below.refl _ _).alloc (Nat.le_refl _) _
 have c0:=aFv r0
 generalize x.f11.a=A at *
 generalize x.f11.n=n at *
 generalize x.f11.c=C at *
 have nw:IntKind.u64.wrap (n:Int)=(n:Int):=by rw [IntKind.wrap_u64];omega
 have HB:=hid hB0
 have HW:=hid hW0
 clear hB0 hW0 r0
 go_enter Tryz.func14,Tryz.ntmps14
 go_upto_region 1 with fail
 rw [HW.out]
 clear HW
 go_wp2
 go_ret
 exact ⟨aBX rfl,HB.out⟩
set_option maxHeartbeats 2000000 in
theorem aFZ (x : aA1) (e : Int) (w : World) (hx : Lk w x) :
    Calls Tryz.prog 103 #[.agg (cel (aA0 x)),.int .u64 e] w fun e' w'=>e'=.returned (.int .u64 (lvN x.f11.z e x.f11.n:Nat))∧Below w.heap.size w w':=by
 obtain ⟨W0,hW0⟩:∃ W,w.alloc (.cells (cel (aA0 x)) 49)=W:=⟨_,rfl⟩
 have r0:W0.heap[w.heap.size]?=some (.cells (cel (aA0 x)) 49):=by rw [←hW0];exact aA2 rfl
 have hB0:Below w.heap.size w W0:=by rw [←hW0];exact (Below.refl _ _).alloc (Nat.le_refl _) _
 have z0:w.heap.size < W0.heap.size:=(Array.getElem?_eq_some_iff.1 r0).1
 have hcs:∀ W:World,Below W0.heap.size W0 W→W.cell? ⟨w.heap.size,721,none⟩=some (.slice x.f11.a x.f11.n x.f11.c):=fun W h=>aFv ((h.block _ z0).trans r0)
 have hel:=hx.el.below hB0
 have hnb:=hx.nb
 generalize x.f11.a=A at *
 generalize x.f11.n=n at *
 generalize x.f11.c=C at *
 generalize x.f11.z=z at *
 have HB:=hid hB0
 have HW:=hid hW0
 have HC:=hid hcs
 have HE:=hid hel
 clear hB0 hW0 r0 hcs hel hx
 go_enter Tryz.func103,Tryz.ntmps103
 go_upto_region 1 with fail
 rw [HW.out]
 clear HW
 have cc:=HC.out W0 (Below.refl _ _)
 have zv:=aBP
 go_wp2
 go_loopw [5,11] (fun v c wr=>∃ k:Nat,k≤n∧v=.int .u64 (lvN z e k:Nat)∧c=.int .i64 k∧Below W0.heap.size W0 wr) (fun _ c _=>n - (intOf c).toNat)
 case atStart=>exact ⟨0,by omega,rfl,rfl,Below.refl _ _⟩
 case round =>
  obtain ⟨k,hk,rfl,rfl,hw⟩:=hrel
  have c0:=HC.out wr hw
  have hst:lvN z e (k+1)=lvN z e k+(if (z k).f6=e then 1 else 0):=rfl
  have hle:=aKG z e k
  obtain ⟨N,eN⟩:∃ N,lvN z e k=N:=⟨_,rfl⟩
  rw [eN] at hst hle ⊢
  have HST:=hid hst
  have EN:=hid eN
  clear hst eN
  by_cases hkn:k < n
  ·have k1:(k:Int) < (n:Int):=by omega
   have k2:(0:Int)≤(k:Int):=by omega
   have kw:IntKind.i64.wrap ((k:Int)+1)=(k:Int)+1:=by rw [IntKind.wrap_i64];omega
   have kw2:IntKind.u64.wrap ((N:Int)+1)=(N:Int)+1:=by rw [IntKind.wrap_u64];omega
   rcases HE.out.below hw with h0 | ⟨b,off,ea,hbl,hc⟩
   ·omega
   subst ea
   have lv:=aB2 (hc k hkn)
   have ix:=fun W=>aB7 W b off n C k hkn
   obtain ⟨P,eP⟩:∃ P,off+86*k=P:=⟨_,rfl⟩
   rw [eP] at lv
   simp only [eP] at ix
   obtain ⟨V,hV⟩:∃ V,z k=V:=⟨_,rfl⟩
   rw [hV] at lv HST
   have HW:=hid hw
   have sv:=aBj wr aBe V
   obtain ⟨W1,hW1⟩:∃ W,wr.alloc (.cells (cel (aA3 V)) 65)=W:=⟨_,rfl⟩
   rw [hW1] at sv
   have r1:W1.heap[wr.heap.size]?=some (.cells (cel (aA3 V)) 65):=by rw [←hW1];exact aA2 rfl
   have hE1:Below wr.heap.size wr W1:=by rw [←hW1];exact (Below.refl _ _).alloc (Nat.le_refl _) _
   obtain ⟨y,ey⟩:∃ y,wr.heap.size=y:=⟨_,rfl⟩
   rw [ey] at sv r1
   have c6:=aAH r1 6 V.f6 rfl 84 rfl
   obtain ⟨F,eF⟩:∃ F,V.f6=F:=⟨_,rfl⟩
   rw [eF] at c6 HST
   have hw':=HW.out.trans (hE1.mono HW.out.size)
   clear HW
   have HW:=hid hw'
   clear hw hc hbl eP hV hw' hE1 r1 eF
   go_upto_region 5 with fail
   clear sv lv ix c0 hW1 ey
   by_cases hF:F=e
   ·subst hF
    go_wp2
    go_roundw
    case rel=>exact ⟨k+1,by omega,by rw [HST.out,if_pos rfl];go_num,by go_num,HW.out⟩
    case measure=>simp [intOf];omega
   ·have hF2:(F == e)=false:=by simp [hF]
    go_wp2
    go_roundw
    case rel=>exact ⟨k+1,by omega,by rw [HST.out,if_neg hF];go_num,by go_num,HW.out⟩
    case measure=>simp [intOf];omega
  ·obtain rfl:k=n:=by omega
   have HW:=hid hw
   clear hw HST
   go_wp2
   go_ret
   exact ⟨aB9 (by rw [EN.out]),HB.out.trans (HW.out.mono (by omega))⟩
set_option maxHeartbeats 4000000 in
theorem aGN (x : aA1) (w : World) (hR : Rg x) (hi : InW w x) :
    Calls Tryz.prog 74 #[.agg (cel (aA0 x))] w fun e' w'=>e'=.returned (.int .u64 (lvX x))∧Below w.heap.size w w':=by
 have hx:=hR.lk hi
 obtain ⟨W0,hW0⟩:∃ W,w.alloc (.cells (cel (aA0 x)) 49)=W:=⟨_,rfl⟩
 have r0:W0.heap[w.heap.size]?=some (.cells (cel (aA0 x)) 49):=by rw [←hW0];exact aA2 rfl
 have hB0:Below w.heap.size w W0:=by rw [←hW0];exact (Below.refl _ _).alloc (Nat.le_refl _) _
 have z0:w.heap.size < W0.heap.size:=(Array.getElem?_eq_some_iff.1 r0).1
 have hcs:∀ W:World,Below W0.heap.size W0 W→W.cell? ⟨w.heap.size,721,none⟩=some (.slice x.f11.a x.f11.n x.f11.c):=fun W h=>aFv ((h.block _ z0).trans r0)
 have hld:∀ W:World,Below W0.heap.size W0 W→(aCc ⟨w.heap.size,0,none⟩).run Tryz.prog W=.ok (.agg (cel (aA0 x))) W:=fun W h=>aAg ((h.block _ z0).trans r0)
 have hx0:=hx.below hB0
 have hep:=aFW x W0 hx.sl.1 hx.sl.2
 have hla:∀ e W,Below W0.heap.size W0 W→Calls Tryz.prog 103 #[.agg (cel (aA0 x)),.int .u64 e] W fun e' w'=>e'=.returned (.int .u64 (lvN x.f11.z e x.f11.n:Nat))∧Below W.heap.size W w':=fun e W h=>aFZ x e W (hx0.below h)
 have hch:∀ W,Below W0.heap.size W0 W→Calls Tryz.prog 104 #[.agg (cel (aA0 x))] W fun e' w'=>e'=.returned (.int .u64 (aJL x))∧Below W.heap.size W w':=fun W h=>aK6 x W (hx0.below h)
 have hlx:lvX x=if aJL x≤(lvN x.f11.z (lvQ x.f11.z (x.f2 / 4) x.f11.n) x.f11.n:Int) then w64 (lvQ x.f11.z (x.f2 / 4) x.f11.n+1) else lvQ x.f11.z (x.f2 / 4) x.f11.n:=rfl
 have hel:=hx.el.below hB0
 have hnb:=hx.nb
 have h2:=hx.sl.1
 have h2':=hx.sl.2
 obtain ⟨E,eE⟩:∃ E,x.f2 / 4=E:=⟨_,rfl⟩
 have hE0:0≤E:=by omega
 have hE1:E < 274877906944:=by omega
 rw [eE] at hep hlx
 have l0:=hld W0 (Below.refl _ _)
 have HLD0:=hid hld
 have HEP:=hid hep
 have HLA0:=hid hla
 have HCH0:=hid hch
 obtain ⟨LX,eLX⟩:∃ L,lvX x=L:=⟨_,rfl⟩
 obtain ⟨CH,eCH⟩:∃ L,aJL x=L:=⟨_,rfl⟩
 rw [eLX] at hlx ⊢
 rw [eCH] at HCH0 hlx
 have hW1:w.alloc (.cells (cel (aA0 x)) 49)=W0:=hW0
 have HLX0:=hid hlx
 clear hld hep hla hch hx0 hx hR hi hlx eE eLX eCH h2 h2' hW0
 generalize x.f11.a=A at *
 generalize x.f11.n=n at *
 generalize x.f11.c=C at *
 generalize x.f11.z=z at *
 have k1:IntKind.u64.wrap (E+1)=E+1:=by rw [IntKind.wrap_u64];omega
 have k2:IntKind.u64.wrap (E+1+2)=E+3:=by rw [IntKind.wrap_u64];omega
 have HB:=hid hB0
 have HW:=hid hW1
 have HC:=hid hcs
 have HE:=hid hel
 clear hB0 hW1 r0 hcs hel
 go_enter Tryz.func74,Tryz.ntmps74
 go_upto_region 1 with fail
 rw [HW.out]
 clear HW
 go_upto_region 2 with (go_at_call 16;refine HEP.out.mono ?_;rintro e' w1 ⟨rfl,hb1⟩)
 have cc:=HC.out w1 hb1
 have HB1:=hid hb1
 have zv:=aBP
 clear hb1 l0 k1 k2 HEP
 go_wp2
 go_loopw [3,13] (fun v c wr=>∃ k:Nat,k≤n∧v=.int .u64 (lvQ z E k)∧c=.int .i64 k∧Below W0.heap.size W0 wr) (fun _ c _=>n - (intOf c).toNat)
 case atStart=>exact ⟨0,by omega,rfl,rfl,HB1.out⟩
 case round =>
  obtain ⟨k,hk,rfl,rfl,hw⟩:=hrel
  have c0:=HC.out wr hw
  have hst:lvQ z E (k+1)=if ¬ (z k).f6=far∧lvQ z E k < (z k).f6 then (z k).f6 else lvQ z E k:=rfl
  unfold far at hst
  obtain ⟨Q,eQ⟩:∃ Q,lvQ z E k=Q:=⟨_,rfl⟩
  rw [eQ] at hst ⊢
  have HST:=hid hst
  clear hst
  by_cases hkn:k < n
  ·clear eQ
   have k1:(k:Int) < (n:Int):=by omega
   have k2:(0:Int)≤(k:Int):=by omega
   have kw:IntKind.i64.wrap ((k:Int)+1)=(k:Int)+1:=by rw [IntKind.wrap_i64];omega
   rcases HE.out.below hw with h0 | ⟨b,off,ea,hbl,hc⟩
   ·omega
   subst ea
   have lv:=aB2 (hc k hkn)
   have ix:=fun W=>aB7 W b off n C k hkn
   obtain ⟨P,eP⟩:∃ P,off+86*k=P:=⟨_,rfl⟩
   rw [eP] at lv
   simp only [eP] at ix
   obtain ⟨V,hV⟩:∃ V,z k=V:=⟨_,rfl⟩
   rw [hV] at lv HST
   have HW:=hid hw
   have sv:=aBj wr aBe V
   obtain ⟨W1,hW1⟩:∃ W,wr.alloc (.cells (cel (aA3 V)) 65)=W:=⟨_,rfl⟩
   rw [hW1] at sv
   have r1:W1.heap[wr.heap.size]?=some (.cells (cel (aA3 V)) 65):=by rw [←hW1];exact aA2 rfl
   have hE1:Below wr.heap.size wr W1:=by rw [←hW1];exact (Below.refl _ _).alloc (Nat.le_refl _) _
   obtain ⟨y,ey⟩:∃ y,wr.heap.size=y:=⟨_,rfl⟩
   rw [ey] at sv r1
   have c6:=aAH r1 6 V.f6 rfl 84 rfl
   obtain ⟨F,eF⟩:∃ F,V.f6=F:=⟨_,rfl⟩
   rw [eF] at c6 HST
   have hw':=HW.out.trans (hE1.mono HW.out.size)
   clear HW
   have HW:=hid hw'
   clear hw hc hbl eP hV hw' hE1 r1 eF
   go_upto_region 5 with fail
   clear sv lv ix c0 hW1 ey
   by_cases hF:F=18446744073709551615
   ·subst hF
    go_wp2
    go_roundw
    case rel=>exact ⟨k+1,by omega,by rw [HST.out,if_neg (fun h=>h.1 rfl)],by go_num,HW.out⟩
    case measure=>simp [intOf];omega
   ·have hF2:(F != 18446744073709551615)=true:=by simp [hF]
    by_cases hG:Q < F
    ·have hm:max Q F=F:=by omega
     have hG2:Q≤F:=by omega
     go_wp2
     all_goals go_roundw
     case rel=>exact ⟨k+1,by omega,by rw [HST.out,if_pos ⟨hF,hG⟩],by go_num,HW.out⟩
     case measure=>simp [intOf];omega
    ·have hm:max Q F=Q:=by omega
     have hG2:F≤Q:=by omega
     go_wp2
     all_goals go_roundw
     case rel=>exact ⟨k+1,by omega,by rw [HST.out,if_neg (fun h=>hG h.2)],by go_num,HW.out⟩
     case measure=>simp [intOf];omega
  ·obtain rfl:k=n:=by omega
   have kN:¬ (k:Int) < (k:Int):=by omega
   have hlx:=HLX0.out
   rw [eQ] at hlx
   have hla:∀ W,Up wr W→_:=fun W h=>HLA0.out Q W (hw.trans (h.mono hw.size))
   have hch:∀ W,Up wr W→_:=fun W h=>HCH0.out W (hw.trans (h.mono hw.size))
   have hld:∀ W,Up wr W→_:=fun W h=>HLD0.out W (hw.trans (h.mono hw.size))
   have HLA:=hid hla
   have HCH:=hid hch
   have HLD:=hid hld
   have HW:=hid hw
   obtain ⟨N,eN⟩:∃ N,lvN z Q k=N:=⟨_,rfl⟩
   rw [eN] at HLA hlx
   clear HST HLX0 hla hch hld hw eQ HLA0 HCH0 HLD0 eN
   by_cases hC:CH≤(N:Int)
   ·have kq:IntKind.u64.wrap (Q+1)=LX:=by rw [if_pos hC] at hlx;exact hlx.symm
    clear hlx
    go_upto_region 8 with fail
    refine wp_region_noPanic ?_
    refine wp_region_held_drew (S:=fun W=>Up wr W) (by kernel_rfl) ((Below.refl _ _).drew) (fun hHeld=>?_)
    have hUd:Up wr wr.drew:=(Below.refl _ _).drew
    generalize wr.drew=wd at hHeld hUd ⊢
    refine tk 0 (v:=?v701) ?y701 hHeld ?r701
    case y701=>intro w hSw;have ld0:=HLD.out w hSw;go_simp;try with_reducible rfl
    refine tk 1 (v:=?v702) ?y702 hHeld ?r702
    case y702=>intro w hSw;go_simp;try with_reducible rfl
    refine tk 3 (v:=?v703) ?y703 hHeld ?r703
    case y703=>intro w hSw;have ld0:=HLD.out w hSw;go_simp;try with_reducible rfl
    try simp only [Act.put,z_1,z_2,z_3,z_4,z_5,z_6,z_7]
    refine wpAnyH_ready (rs:=[2]) (by kernel_rfl) (by simp) ?_
    refine AllReadyH.cons rfl (fun K hK=>?_) AllReadyH.nil
    go_simp
    refine (HLA.out wd hUd).mono ?_
    rintro e' x1 ⟨rfl,hd1⟩
    dsimp only
    have hc1:Up wr x1:=hUd.trans (hd1.mono hUd.size)
    refine hK.out _ _ hc1 (fun hHeld=>?_)
    clear hK K
    try simp only [Act.put,z_1,z_2,z_3,z_4,z_5,z_6,z_7]
    refine wpAnyH_ready (rs:=[4]) (by kernel_rfl) (by simp) ?_
    refine AllReadyH.cons rfl (fun K hK=>?_) AllReadyH.nil
    go_simp
    refine (HCH.out x1 hc1).mono ?_
    rintro e' x2 ⟨rfl,hd2⟩
    dsimp only
    have hc2:Up wr x2:=hc1.trans (hd2.mono hc1.size)
    refine hK.out _ _ hc2 (fun hHeld=>?_)
    clear hK K
    try simp only [Act.put,z_1,z_2,z_3,z_4,z_5,z_6,z_7]
    refine tk 5 (v:=?v704) ?y704 hHeld ?r704
    case y704=>intro w hSw;go_simp;try with_reducible rfl
    try simp only [Act.put,z_1,z_2,z_3,z_4,z_5,z_6,z_7]
    refine wpAnyH_done (by kernel_rfl) ?_ _
    refine NoPanic.normal ?_
    go_wp2
    go_ret
    exact ⟨aB9 rfl,HB.out.trans ((HW.out.trans (hc2.mono HW.out.size)).mono HB.out.size)⟩
   ·rw [if_neg hC] at hlx
    subst hlx
    go_upto_region 8 with fail
    refine wp_region_noPanic ?_
    refine wp_region_held_drew (S:=fun W=>Up wr W) (by kernel_rfl) ((Below.refl _ _).drew) (fun hHeld=>?_)
    have hUd:Up wr wr.drew:=(Below.refl _ _).drew
    generalize wr.drew=wd at hHeld hUd ⊢
    refine tk 0 (v:=?v801) ?y801 hHeld ?r801
    case y801=>intro w hSw;have ld0:=HLD.out w hSw;go_simp;try with_reducible rfl
    refine tk 1 (v:=?v802) ?y802 hHeld ?r802
    case y802=>intro w hSw;go_simp;try with_reducible rfl
    refine tk 3 (v:=?v803) ?y803 hHeld ?r803
    case y803=>intro w hSw;have ld0:=HLD.out w hSw;go_simp;try with_reducible rfl
    try simp only [Act.put,z_1,z_2,z_3,z_4,z_5,z_6,z_7]
    refine wpAnyH_ready (rs:=[2]) (by kernel_rfl) (by simp) ?_
    refine AllReadyH.cons rfl (fun K hK=>?_) AllReadyH.nil
    go_simp
    refine (HLA.out wd hUd).mono ?_
    rintro e' x1 ⟨rfl,hd1⟩
    dsimp only
    have hc1:Up wr x1:=hUd.trans (hd1.mono hUd.size)
    refine hK.out _ _ hc1 (fun hHeld=>?_)
    clear hK K
    try simp only [Act.put,z_1,z_2,z_3,z_4,z_5,z_6,z_7]
    refine wpAnyH_ready (rs:=[4]) (by kernel_rfl) (by simp) ?_
    refine AllReadyH.cons rfl (fun K hK=>?_) AllReadyH.nil
    go_simp
    refine (HCH.out x1 hc1).mono ?_
    rintro e' x2 ⟨rfl,hd2⟩
    dsimp only
    have hc2:Up wr x2:=hc1.trans (hd2.mono hc1.size)
    refine hK.out _ _ hc2 (fun hHeld=>?_)
    clear hK K
    try simp only [Act.put,z_1,z_2,z_3,z_4,z_5,z_6,z_7]
    refine tk 5 (v:=?v804) ?y804 hHeld ?r804
    case y804=>intro w hSw;go_simp;try with_reducible rfl
    try simp only [Act.put,z_1,z_2,z_3,z_4,z_5,z_6,z_7]
    refine wpAnyH_done (by kernel_rfl) ?_ _
    refine NoPanic.normal ?_
    go_wp2
    go_ret
    exact ⟨aB9 rfl,HB.out.trans ((HW.out.trans (hc2.mono HW.out.size)).mono HB.out.size)⟩
set_option maxHeartbeats 4000000 in
theorem aEB (X : aA1) (i y : Nat) (w V : World) (hb : BK w y V X) (hR : Rg X) (hi : i < X.f11.n) :
    Calls Tryz.prog 33 #[.pointer (some ⟨y,0,none⟩),.int .u64 i] V fun e' V'=>e'=.returned (.tuple #[])∧BK w y V' (lvS X i):=by
 obtain ⟨g,hg⟩:=aCV hb.cpd.o11 (by omega)
 have hvl:=hb.vl hg
 have c0:=hvl.c11
 have e0:=aEI (hvl.at_ i hi)
 have ix:=fun W=>aMR W g X.f11.n X.f11.c i hi
 by_cases hf:(X.f11.z i).f6=far
 ·have hE:lvS X i=aDF X i (lvV (lvX X)):=if_pos hf
  rw [hf] at e0
  unfold far at e0
  have hne:=aGN X V hR hb.inW
  have ld:=aAg hb.row
  have HB:=hid hb
  have HG:=hid hg
  have HE:=hid hE
  have HNE:=hid hne
  have HI:=hid hi
  obtain ⟨L,eL⟩:∃ L,lvX X=L:=⟨_,rfl⟩
  rw [eL] at HE HNE
  have kl:IntKind.u64.wrap (L+2)=w64 (L+2):=rfl
  clear hb hvl hf hE hg hR hne eL hi
  go_enter Tryz.func33,Tryz.ntmps33
  go_upto_region 2 with fail
  go_upto_region 3 with (go_at_call 74;refine HNE.out.mono ?_;rintro e' w2 ⟨rfl,hb2⟩;have hB2:=HB.out.below hb2;have hv2:=hB2.vl HG.out;have ci:=aEI (hv2.at_ i HI.out);obtain ⟨RC,hRC⟩:=hv2.row;have fi:=aAa hRC (86*i+84);have HB3:=hid (hB2.val (fun v=>{ v with f6:=L }) (.int .u64 L) (aGs _ L) (by omega) HG.out HI.out);clear hB2 hv2 hRC hb2)
  obtain ⟨W3,hW3⟩:∃ W,w2.setCell ⟨g,86*i+84,none⟩ (.int .u64 L)=W:=⟨_,rfl⟩
  rw [hW3] at HB3 ⊢
  clear hW3 ci fi c0 e0 ld HNE
  have hi3:i < (aDF X i fun v=>{ v with f6:=L }).f11.n:=HI.out
  have hv3:=HB3.out.vl HG.out
  have e6:=aEI (hv3.at_ i hi3)
  rw [aGr] at e6
  have ci:=aIZ (hv3.at_ i hi3)
  obtain ⟨RC,hRC⟩:=hv3.row
  have fi:=aAa hRC (86*i+85)
  have hB4:=HB3.out.val (fun v=>{ v with f7:=w64 (L+2) }) (.int .u64 (w64 (L+2))) (aEm _ _) (by omega) HG.out hi3
  rw [aEl] at hB4
  have HB4:=hid hB4
  clear hv3 hRC hB4 HB3 hi3
  go_wp2
  go_end0
  refine ⟨rfl,?_⟩
  rw [HE.out]
  exact HB4.out
 ·have hE:lvS X i=X:=if_neg hf
  have HB:=hid hb
  obtain ⟨F,eF⟩:∃ F,(X.f11.z i).f6=F:=⟨_,rfl⟩
  rw [eF] at hf e0
  unfold far at hf
  have hf2:(F != 18446744073709551615)=true:=by simp [hf]
  rw [hE]
  clear hb hvl hE hR eF hg
  go_enter Tryz.func33,Tryz.ntmps33
  go_wp2
  exact bodyPost_ret (results_none rfl _ _ _) rfl ⟨rfl,HB.out⟩
end
end Go.Proofs.YtdjplhibmomajaaGreatDoor
