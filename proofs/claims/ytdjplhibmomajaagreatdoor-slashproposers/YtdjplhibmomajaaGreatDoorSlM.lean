/- A part. -/
import Derived.Test.YtdjplhibmomajaaGreatDoorQU
import Derived.Test.YtdjplhibmomajaaGreatDoorQV
import Derived.Test.YtdjplhibmomajaaGreatDoorSgP
import Derived.Test.YtdjplhibmomajaaGreatDoorQS
import Derived.Test.YtdjplhibmomajaaGreatDoorQF
import Derived.Test.YtdjplhibmomajaaGreatDoorStP
namespace Go.Proofs.YtdjplhibmomajaaGreatDoor
open Go.RowKit
set_option linter.unusedVariables false
set_option linter.unusedSimpArgs false
set_option maxRecDepth 20000
theorem aGV {x:aA1} {s:aA7} (hR:aAN x=true) (hc:hdE s.f0.f0 s.f1.f0=0) (hi:¬ s.f0.f0.f1 < (x.f11.n:Int)):psP x s=27:=by
 obtain ⟨h1,h2,h3⟩:=aRp hc
 unfold psP
 rw [if_pos hR,if_pos h1,if_pos h2,if_neg (by rw [h3];decide),if_neg hi]
theorem aL3 {x:aA1} {s:aA7} {k:Nat} {b:Bool} (hR:aAN x=true) (hc:hdE s.f0.f0 s.f1.f0=0) (e:s.f0.f0.f1=(k:Int)) (hi:k < x.f11.n) (hb:aMn (x.f11.z k) (x.f2 / 4)=b):psP x s=if b=true then 0 else 24:=by
 obtain ⟨h1,h2,h3⟩:=aRp hc
 unfold psP
 rw [if_pos hR,if_pos h1,if_pos h2,if_neg (by rw [h3];decide),if_pos (by omega),e,Int.toNat_natCast,hb]
theorem aPF (x:aA1) (k:Nat) (W:World) (g:Nat) (hx:aAD x) (hw:InW W x) (hn:aGw x) (hR:aAN x=true) (hk:k < x.f11.n) (hS:Sh W) (r:W.heap[g]?=some (.cells #[.int .u64 (k:Int)] 22)):Calls Tryz.prog 19 #[.agg (cel (aA0 x)),.slice (some ⟨g,0,none⟩) 1 1] W fun e' w'=>∃ X,e'=.returned (.tuple #[.agg (cel (aA0 X)),.int .i64 (sqE x (k:Int))])∧Res W.heap.size w' (sqS x (k:Int)) X∧Below W.heap.size W w':=by
 have hi:(k:Int) < (x.f11.n:Int):=by omega
 have hrg:=(aAS hR).rg hx
 have e0:aFk x (fun _=>(k:Int)) (prV x).toNat 1=aEw x k (prV x).toNat:=rfl
 have hs:sqE x (k:Int)=if prE x=0 then (if aAN (slS x k)=true then 0 else 2) else prE x:=by unfold sqE;rw [hR,if_pos ⟨rfl,hi⟩];rfl
 have hqE:saE x (fun _=>(k:Int)) 1=sqE x (k:Int):=by
  rw [hs]
  unfold saE
  rw [e0]
  by_cases hp:prE x=0
  ·rw [aHg hx hrg.sl k hp]
  ·rw [if_neg hp,if_neg hp]
 have hqS:saS x (fun _=>(k:Int)) 1=sqS x (k:Int):=by
  unfold saS sqS
  rw [hqE,e0]
  by_cases hz:sqE x (k:Int)=0
  ·have hp:prE x=0:=by
    rw [hs] at hz
    by_cases hp:prE x=0
    ·exact hp
    ·rw [if_neg hp] at hz;exact absurd hz hp
   rw [if_pos hz,if_pos hz]
   exact (aHg hx hrg.sl k hp).symm
  ·rw [if_neg hz,if_neg hz]
 have:=aEG x (some ⟨g,0,none⟩) 1 1 (fun _=>(k:Int)) W hx hw hn hR (.inr ⟨g,0,rfl,aAe r,fun j hj=>(by obtain rfl:j=0:=(by omega);exact (aAs (i:=0) r).trans rfl)⟩) (fun j hj=>by omega) (by omega) hS
 rw [hqE,hqS] at this
 exact this
attribute [local go_sem ↓] aAq aAr aAz aAi aAl aAw aB8 aAY aB4 aNY aOl aAu aAt aAL
set_option maxHeartbeats 16000000 in
theorem aPK (x : aA1) (s : aA7) (a : Option Addr) (n cap : Nat) (f : Nat → Int) (w : World) (hx : aAD x) (hw : InW w x) (hn : aGw x) (hl : Lns x) (hs : aBs s) (hr : Rts w a n cap f) (hnn : n ≤ 9223372036854775807) (hS : Sh w) :
    Calls Tryz.prog 6 #[.agg (cel (aA0 x)),.agg (cel (aAd s)),.slice a n cap] w (PsA x s f n w):=by
 obtain ⟨W0,hW0⟩:∃ W,((w.alloc (.cells (cel (aA0 x)) 49)).alloc (.cells (cel (aAd s)) 55)).alloc (.cells (cel (aA0 aAn)) 49)=W:=⟨_,rfl⟩
 have r0:W0.heap[w.heap.size]?=some (.cells (cel (aA0 x)) 49):=by rw [←hW0];exact (aAc (by simp<;>omega)).trans ((aAc (by simp)).trans (aA2 rfl))
 have r1:W0.heap[w.heap.size+1]?=some (.cells (cel (aAd s)) 55):=by rw [←hW0];exact (aAc (by simp)).trans (aA2 (by simp))
 have r2:W0.heap[w.heap.size+2]?=some (.cells (cel (aA0 aAn)) 49):=by rw [←hW0];exact aA2 (by simp)
 have hB0:Up w W0:=by rw [←hW0];exact (((Below.refl _ _).alloc (Nat.le_refl _) _).alloc (by simp) _).alloc (by simp<;>omega) _
 have hri:=aEc x W0 hx.r' (hw.below hB0).r' hl
 have lx:=aAg r0
 have z:=aBg
 have bz:=aCI
 have HB:=hid hB0
 have HW:=hid hW0
 have R0:=hid r0
 have R1:=hid r1
 have R2:=hid r2
 cases hR:aAN x
 ·rw [hR] at hri
  have HRI:=hid hri
  have HPE:Hid (psP x s=1):=by show psP x s=1;unfold psP;rw [hR];rfl
  clear hri hB0 hW0 r0 r1 r2 hx hw hn hs hr hS
  go_enter Tryz.func6,Tryz.ntmps6
  go_upto_region 1 with fail
  rw [HW.out]
  clear HW z
  go_wp2_with (go_at_call 12;refine HRI.out.mono ?_;rintro e' w1 ⟨rfl,hu⟩;have s1:=aAA (upR hu R2.out) aAn)
  exact aBu 6 7 8 (w.heap.size+2) aAn 49 (.slice none 0 0) (.int .i64 1) rfl rfl rfl rfl rfl (aA4 (upR hu R2.out)) (aDT HPE.out (by decide) (aA6 (upT HB.out hu) (by omega) _))
 rw [hR] at hri
 have HRI:=hid hri
 have hcl:=fun W=>aJa s.f0.f0 s.f1.f0 W hs.1.1 hs.2.1
 have l1:∀ W,Up W0 W→(aBt ⟨w.heap.size+1,0,none⟩).run Tryz.prog W=.ok (.agg (cel (aAm s.f0.f0))) W:=fun W h=>aKr (upR h r1)
 have l2:∀ W,Up W0 W→(aBt ⟨w.heap.size+1,194,none⟩).run Tryz.prog W=.ok (.agg (cel (aAm s.f1.f0))) W:=fun W h=>aKs (upR h r1)
 have HCL:=hid hcl
 have HL1:=hid l1
 have HL2:=hid l2
 clear hcl l1 l2 hri
 by_cases hc:hdE s.f0.f0 s.f1.f0=0
 case neg =>
  have hpe:=aSg hR hc
  obtain ⟨CE,eCE⟩:∃ e,hdE s.f0.f0 s.f1.f0=e:=⟨_,rfl⟩
  rw [eCE] at hpe hc HCL
  have he2:(CE != 0)=true:=by simp [hc]
  have HPE:=hid hpe
  obtain ⟨ha,eha⟩:∃ h,cel (aAm s.f0.f0)=h:=⟨_,rfl⟩
  obtain ⟨hb,ehb⟩:∃ h,cel (aAm s.f1.f0)=h:=⟨_,rfl⟩
  rw [eha] at HCL HL1
  rw [ehb] at HCL HL2
  clear hpe eCE eha ehb hB0 hW0 r0 r1 r2 hx hw hn hs hr hS hR
  go_enter Tryz.func6,Tryz.ntmps6
  go_upto_region 1 with fail
  rw [HW.out]
  clear HW z
  go_upto_region 3 with (go_at_call 12;refine HRI.out.mono ?_;rintro e' w1 ⟨rfl,hb1⟩)
  have la:=HL1.out w1 hb1
  have lb:=HL2.out w1 hb1
  have HB1:=hid hb1
  clear hb1 lx HRI HL1 HL2
  go_wp2_with (go_at_call 13;refine (HCL.out _).mono ?_;rintro e' w2 ⟨rfl,hb2⟩;have s1:=aAA (upR (upT HB1.out hb2) R2.out) aAn)
  exact aBu 6 7 8 (w.heap.size+2) aAn 49 (.slice none 0 0) (.int .i64 CE) rfl rfl rfl rfl rfl (aA4 (upR (upT HB1.out hb2) R2.out)) (aDT HPE.out hc (aA6 (upT HB.out (upT HB1.out hb2)) (by omega) _))
 case pos =>
  rw [hc] at HCL
  have hrt:=aAS hR
  have hi0:0≤s.f0.f0.f1:=hs.1.1.2.1.1
  have hth:=fun W=>aEy x s.f0.f0.f1 W hrt.c0
  have hpw:∀ W,Up W0 W→W.cell? ⟨w.heap.size+1,1,none⟩=some (.int .u64 s.f0.f0.f1):=fun W h=>aAH (upR h r1) 1 s.f0.f0.f1 rfl 1 rfl
  have HTH:=hid hth
  have HPW:=hid hpw
  obtain ⟨ha,eha⟩:∃ h,cel (aAm s.f0.f0)=h:=⟨_,rfl⟩
  obtain ⟨hb,ehb⟩:∃ h,cel (aAm s.f1.f0)=h:=⟨_,rfl⟩
  rw [eha] at HCL HL1
  rw [ehb] at HCL HL2
  clear eha ehb hth hpw
  by_cases hi:s.f0.f0.f1 < (x.f11.n:Int)
  case neg =>
   have hpe:=aGV hR hc hi
   rw [decide_eq_false hi] at HTH
   have HPE:=hid hpe
   obtain ⟨I,eI⟩:∃ i,s.f0.f0.f1=i:=⟨_,rfl⟩
   rw [eI] at HTH HPW
   clear hpe eI hi hi0 hrt hc hB0 hW0 r0 r1 r2 hx hw hn hs hr hS hR
   go_enter Tryz.func6,Tryz.ntmps6
   go_upto_region 1 with fail
   rw [HW.out]
   clear HW z
   go_upto_region 3 with (go_at_call 12;refine HRI.out.mono ?_;rintro e' w1 ⟨rfl,hb1⟩)
   have la:=HL1.out w1 hb1
   have lb:=HL2.out w1 hb1
   have HB1:=hid hb1
   clear hb1 lx HRI HL1 HL2
   go_upto_region 4 with (go_at_call 13;refine (HCL.out _).mono ?_;rintro e' w2 ⟨rfl,hb2⟩)
   have HB2:=hid (upT HB1.out hb2)
   have cw:=HPW.out w2 HB2.out
   have lx:=aAg (upR HB2.out R0.out)
   clear la lb hb2 HB1 HCL HPW
   go_wp2_with (go_at_call 14;refine (HTH.out _).mono ?_;rintro e' w3 ⟨rfl,hb3⟩;have s1:=aAA (upR (upT HB2.out hb3) R2.out) aAn)
   exact aBu 6 7 8 (w.heap.size+2) aAn 49 (.slice none 0 0) (.int .i64 27) rfl rfl rfl rfl rfl (aA4 (upR (upT HB2.out hb3) R2.out)) (aDT HPE.out (by decide) (aA6 (upT HB.out (upT HB2.out hb3)) (by omega) _))
  case pos =>
   obtain ⟨k,ek⟩:∃ k:Nat,s.f0.f0.f1=(k:Int):=⟨s.f0.f0.f1.toNat,by omega⟩
   have hk:k < x.f11.n:=by omega
   rw [decide_eq_true hi,ek] at HTH
   rw [ek] at HPW
   obtain ⟨CB,eCB⟩:∃ b,aMn (x.f11.z k) (x.f2 / 4)=b:=⟨_,rfl⟩
   have hpe:=aL3 hR hc ek hk eCB
   have hep:=fun W=>aFW x W hx.o2.1 hrt.c7
   have hcs2:=fun W=>aLz (x.f11.z k) (x.f2 / 4) W
   rw [eCB] at hcs2
   rcases (hw.below hB0).i11 with h0 | ⟨b,off,ea,hbl,hrr⟩
   ·omega
   have hlv:∀ W,Up W0 W→(aDc ⟨b,off+86*k,none⟩).run Tryz.prog W=.ok (.agg (cel (aA3 (x.f11.z k)))) W:=fun W h=>aB2 (aDe (hrr k hk) hbl h)
   have hix:=fun W=>aBf W b off x.f11.n x.f11.c k hk
   have hc11:∀ W,Up W0 W→W.cell? ⟨w.heap.size,721,none⟩=some (.slice (some ⟨b,off,none⟩) x.f11.n x.f11.c):=fun W h=>by
    have:=aFv (upR h r0)
    rw [ea] at this
    exact this
   have HIX:=hid hix
   have HEP:=hid hep
   have HCS:=hid hcs2
   have HLV0:=hid hlv
   have HC110:=hid hc11
   have HEK:=hid ek
   have HPE:=hid hpe
   have HXO:=hid hx
   have HIW:=hid hw
   have HNI:=hid hn
   have HRB:=hid hR
   have HOS:=hid hs
   have HRS:=hid hr
   have HSH:=hid hS
   have HKN:=hid hk
   clear hrt hep hcs2 hlv hix hc11 ek hpe hx hw hn hR hs hr hS hk hi hi0 hc hB0 hW0 r0 r1 r2 hbl hrr ea eCB
   obtain ⟨E,eE⟩:∃ E,x.f2 / 4=E:=⟨_,rfl⟩
   rw [eE] at HEP HCS
   clear eE
   obtain ⟨v,ev⟩:∃ v,x.f11.z k=v:=⟨_,rfl⟩
   rw [ev] at HCS HLV0
   clear ev
   obtain ⟨N,eN⟩:∃ N,x.f11.n=N:=⟨_,rfl⟩
   rw [eN] at HIX HC110
   clear eN
   generalize x.f11.c=C at *
   go_enter Tryz.func6,Tryz.ntmps6
   go_upto_region 1 with fail
   rw [HW.out]
   clear HW
   go_upto_region 3 with (go_at_call 12;refine HRI.out.mono ?_;rintro e' w1 ⟨rfl,hb1⟩)
   have la:=HL1.out w1 hb1
   have lb:=HL2.out w1 hb1
   have HB1:=hid hb1
   clear hb1 lx HRI HL1 HL2
   go_upto_region 4 with (go_at_call 13;refine (HCL.out _).mono ?_;rintro e' w2 ⟨rfl,hb2⟩)
   have HB2:=hid (upT HB1.out hb2)
   have cw:=HPW.out w2 HB2.out
   have lx:=aAg (upR HB2.out R0.out)
   clear la lb hb2 HB1 HCL HPW
   go_upto_region 9 with (go_at_call 14;refine (HTH.out _).mono ?_;rintro e' w3 ⟨rfl,hb3⟩)
   have hu3:=upT HB2.out hb3
   have HU3:=hid hu3
   have HC11:=hid (fun W (h:Up w3 W)=>HC110.out W (upT hu3 h))
   have HLV:=hid (fun W (h:Up w3 W)=>HLV0.out W (upT hu3 h))
   have HLX:Hid (∀ W,Up w3 W→(aCc ⟨w.heap.size,0,none⟩).run Tryz.prog W=.ok (.agg (cel (aA0 x))) W):=fun W h=>aAg (upR (upT hu3 h) R0.out)
   clear hu3 hb3 HB2 cw lx HC110 HLV0 HTH
   refine wp_region_noPanic ?_
   refine wp_region_held_drew (S:=fun W=>Up w3 W) (by kernel_rfl) ((Below.refl _ _).drew) (fun hHeld=>?_)
   have hUd:Up w3 w3.drew:=(Below.refl _ _).drew
   generalize w3.drew=wd at hHeld hUd ⊢
   refine tk 0 (v:=?v601) ?y601 hHeld ?r601
   case y601=>intro w hSw;go_simp;try with_reducible rfl
   refine tk 1 (v:=?v602) ?y602 hHeld ?r602
   case y602=>intro w hSw;have ld0:=HC11.out w hSw;go_simp;try with_reducible rfl
   refine tk 2 (v:=?v603) ?y603 hHeld ?r603
   case y603=>intro w hSw;go_simp;try with_reducible rfl
   refine tk 3 (v:=?v604) ?y604 hHeld ?r604
   case y604=>intro w hSw;have ld0:=HIX.out w;go_simp;try with_reducible rfl
   refine tk 4 (v:=?v605) ?y605 hHeld ?r605
   case y605=>intro w hSw;have ld0:=HLV.out w hSw;go_simp;try with_reducible rfl
   refine tk 5 (v:=?v606) ?y606 hHeld ?r606
   case y606=>intro w hSw;have ld0:=HLX.out w hSw;go_simp;try with_reducible rfl
   try simp only [Act.put,z_1,z_2,z_3,z_4,z_5,z_6,z_7]
   refine rd1 6 (fun K hK=>?_)
   go_simp
   refine (HEP.out wd).mono ?_
   rintro e' x1 ⟨rfl,hd1⟩
   dsimp only
   have hc1:=upT hUd hd1
   refine hK.out _ _ hc1 (fun hHeld=>?_)
   clear hK K
   try simp only [Act.put,z_1,z_2,z_3,z_4,z_5,z_6,z_7]
   refine rd1 7 (fun K hK=>?_)
   go_simp
   refine (HCS.out x1).mono ?_
   rintro e' x2 ⟨rfl,hd2⟩
   dsimp only
   have hc2:=upT hc1 hd2
   refine hK.out _ _ hc2 (fun hHeld=>?_)
   clear hK K
   try simp only [Act.put,z_1,z_2,z_3,z_4,z_5,z_6,z_7]
   refine tk 8 (v:=?v607) ?y607 hHeld ?r607
   case y607=>intro w hSw;go_simp;try with_reducible rfl
   try simp only [Act.put,z_1,z_2,z_3,z_4,z_5,z_6,z_7]
   refine wpAnyH_done (by kernel_rfl) ?_ _
   refine NoPanic.normal ?_
   have hu4:=upT HU3.out hc2
   obtain ⟨w4,ew4⟩:∃ W,x2=W:=⟨_,rfl⟩
   rw [ew4] at hu4 ⊢
   have HU4:=hid hu4
   clear ew4 hc2 hd2 hc1 hd1 hUd hHeld hu4 HU3 HC11 HLV HLX HIX HEP HCS
   cases CB
   ·have q2:=upR HU4.out R2.out
    have s1:=aAA q2 aAn
    have Q2:=hid q2
    clear q2
    go_wp2
    exact aBu 6 7 8 (w.heap.size+2) aAn 49 (.slice none 0 0) (.int .i64 24) rfl rfl rfl rfl rfl (aA4 (Q2.out)) (aDT (HPE.out.trans rfl) (by decide) (aA6 (upT HB.out HU4.out) (by omega) _))
   ·have HP0:Hid (psP x s=0):=HPE.out
    clear HPE
    obtain ⟨A0,eA0⟩:∃ q,cel (aAf s.f0)=q:=⟨_,rfl⟩
    obtain ⟨A1,eA1⟩:∃ q,cel (aAf s.f1)=q:=⟨_,rfl⟩
    have q1:=aHQ (upR HU4.out R1.out)
    have q2:=aHR (upR HU4.out R1.out)
    have qb:=aRe w4 s
    rw [eA0] at q1 qb
    rw [eA1] at q2 qb
    clear eA0 eA1
    obtain ⟨W5,g,hW5,eg,r5,hd5,_⟩:=aD1 HU4.out (.cells (cel (aAd s)) 53)
    have HW5:=hid hW5
    have EG:=hid eg
    have R5:=hid r5
    have HU5:=hid (upT HU4.out hd5)
    clear hW5 eg r5 hd5
    have hhq:∀ (W:World) j,Up W0 W→j < 2→Calls Tryz.prog 17 #[.agg (cel (aA0 x)),.agg (cel (aAf (psH s j)))] W fun e' w'=>e'=.returned (.agg (vs .u8 32 (hqV x (psH s j))))∧Below W.heap.size W w':=fun W j h hj=>by
     have hk2:=(aOA HP0.out (by rw [HEK.out];omega)).2.2.1
     match j,hj with
     | 0, _ => exact aOk x s.f0 k W HXO.out (HIW.out.below (upT HB.out h)) HKN.out HEK.out HOS.out.1 (HSH.out.below (upT HB.out h))
     | 1, _ => exact aOk x s.f1 k W HXO.out (HIW.out.below (upT HB.out h)) HKN.out (hk2.symm.trans HEK.out) HOS.out.2 (HSH.out.below (upT HB.out h))
    have hgo:=fun (W:World) j (h:Up W0 W)=>aML (hqV x (psH s j)) f a n cap W (HRS.out.below (upT HB.out h)) hnn
    have hsa:=fun (W:World) (q:Nat) (h:Up W0 W) r=>aPF x k W q HXO.out (HIW.out.below (upT HB.out h)) HNI.out HRB.out HKN.out (HSH.out.below (upT HB.out h)) r
    have HHQ:=hid hhq
    have HGO:=hid hgo
    have HSA:=hid hsa
    obtain ⟨ii,hi,hz0,hz1,hz2⟩:=aBN (P:=Tryz.prog) (t:=24) (z:=.agg (vs .u8 32 fun _=>0)) (s:=32) (b:=32) (by kernel_rfl)
    have II:=hid (And.intro hi (And.intro hz0 (And.intro hz1 hz2)))
    clear hhq hgo hsa hi hz0 hz1 hz2 HXO HIW HNI HRB HOS HRS HSH HKN hl hnn
    go_wp2
    rw [HW5.out,EG.out]
    clear q1 q2 qb HW5 EG HU4
    go_loopw [57,11] (fun c v wr=>∃ j:Nat,j≤2∧c=.int .i64 j∧(∃ aq cq,v=.slice aq j cq∧wr.ownsRow W5.heap.size 24 32 (.slice aq j cq) j (bl (psQ x s) (32*j)))∧Up W5 wr∧∀ i,i < j→gdB (hqV x (psH s i)) f n=true) (fun c _ _=>2 - (intOf c).toNat)
    case atStart=>exact ⟨0,by omega,rfl,⟨none,0,rfl,World.ownsRow_nil _ _ _ _⟩,Below.refl _ _,fun i h=>by omega⟩
    case round =>
     obtain ⟨j,hj,rfl,⟨aq,cq,rfl,ho⟩,hu,hg⟩:=hrel
     have HG:=hid hg
     have HO:=hid ho
     have HUU:=hid hu
     clear hg ho hu
     by_cases hlt:j < 2
     ·have j1:(j:Int) < 2:=by omega
      have jw:IntKind.i64.wrap ((j:Int)+1)=(j:Int)+1:=by rw [IntKind.wrap_i64];omega
      have is:=fun W=>aRw W g 2 2 j hlt
      have ls:=aS9 (upR HUU.out R5.out) j hlt
      have sv:=aE2 wr aEb (psH s j)
      have zs:=aT8
      have zr:=aAj
      have HHJ:=hid (fun (W:World) (h:Up W0 W)=>HHQ.out W j h hlt)
      have HGJ:=hid (fun (W:World) (h:Up W0 W)=>HGO.out W j h)
      obtain ⟨QV,eQV⟩:∃ q,hqV x (psH s j)=q:=⟨_,rfl⟩
      rw [eQV] at HHJ
      have HEQ:=hid eQV
      obtain ⟨HV,eHV⟩:∃ q,psH s j=q:=⟨_,rfl⟩
      rw [eHV] at HHJ ls sv
      clear eQV eHV
      go_upto_region 15 with fail
      obtain ⟨V1,y13,hV1,ey13,r13,hd13,_⟩:=aD1 HUU.out (.cells (cel (aAf HV)) 53)
      rw [hV1,ey13]
      have hu1:=upT HU5.out (upT HUU.out hd13)
      have lh:=aN2 r13
      have lx:=aAg (upR hu1 R0.out)
      have HQ1:=hid (HHJ.out V1 hu1)
      have HU1:=hid (upT HUU.out hd13)
      have HD1:=hid hd13
      have hy1:wr.heap.size≤V1.heap.size:=hd13.size
      clear hV1 ey13 r13 hd13 hu1 sv ls is zs HHJ
      go_upto_region 16 with (go_at_call 17;refine HQ1.out.mono ?_;rintro e' w6 ⟨rfl,hb6⟩;have sv2:=aBc w6 (fun _=>0) QV)
      obtain ⟨V2,y14,hV2,ey14,r14,hd14,_⟩:=aD1 hb6 (.cells (vs .u8 32 QV) 24)
      rw [hV2,ey14]
      have hy14:wr.heap.size≤y14:=by have:=hb6.size;omega
      have hu2:=upT HU1.out (upT hb6 hd14)
      have hd2:=upT HD1.out (upT hb6 hd14)
      have lq:=aAU r14
      have bs1:=aFu V2 QV
      obtain ⟨V3,y15,hV3,ey15,r15,hd15,_⟩:=aD1 hu2 (.cells (vs .u8 32 QV) 24)
      have HO3:=hid (ownsRow_below HO.out (upT hd2 hd15))
      have R14:=hid (upR hd15 r14)
      have SS:=hid (aGn (n:=1) (c:=1) (f:=QV) (.inr (.inr ⟨y15,0,rfl,Nat.le_refl _,aAe r15,fun j hj=>by rw [Nat.zero_add];exact aA8 r15 j hj⟩):Rts V3 (some ⟨y15,0,none⟩) 1 1 QV))
      have HU3:=hid (upT hu2 hd15)
      have HV3:=hid hV3
      have EY15:=hid ey15
      clear hV2 ey14 r14 hd14 hb6 hu2 hd2 hV3 ey15 r15 hd15 sv2 HQ1 lx lh hy1
      go_upto_region 17 with (at_builtin;rw [HV3.out,EY15.out];refine aCg _ rfl _ _ 32 rfl W5.heap.size 24 ii (.agg (vs .u8 32 fun _=>0)) 32 32 Tryz.underlying32 II.out.1 II.out.2.1 II.out.2.2.1 II.out.2.2.2 (by kernel_rfl) (by omega) (.slice aq j cq) j _ rfl HO3.out _ _ _ _ rfl SS.out (by unfold maxLen;omega) (by omega) HU3.out.size ?_;intro v7 w7 ho7 hg7;obtain ⟨a7,c7,rfl⟩:=aBb ho7;have HO7:=hid ho7;have HG7:=hid hg7;clear ho7 hg7)
      have hu7:=aB1 HU3.out HO3.out HU3.out.size HG7.out
      have r14:=(HG7.out.block y14 (aAe R14.out) (fun e=>by have:=(HO.out.lt y14 e.symm).2;omega)).trans R14.out
      have eb:bl (psQ x s) (32*j)++bl QV (32*1)=bl (psQ x s) (32*(j+1)):=by rw [←HEQ.out];exact aOB x s j hlt
      rw [eb] at HO7
      have lq:=aAU r14
      have hgj:=HGJ.out w7 (upT HU5.out hu7)
      rw [HEQ.out] at hgj
      have HGK:=hid hgj
      have HU7:=hid hu7
      obtain ⟨GB,eGB⟩:∃ b,gdB QV f n=b:=⟨_,rfl⟩
      rw [eGB] at HGK
      have EGB:=hid eGB
      clear hu7 r14 eb hgj eGB HU3 HO3 HG7 R14 SS HV3 EY15 bs1 HU1 HD1 HGJ hy14 zr
      cases GB
      ·go_wp2_with (go_at_call 18;refine HGK.out.mono ?_;rintro e' w8 ⟨rfl,hb8⟩;have s1:=aAA (upR (upT HU5.out (upT HU7.out hb8)) R2.out) aAn)
       have q2:=upR (upT HU5.out (upT HU7.out hb8)) R2.out
       have ho8:=ownsRow_below HO7.out hb8
       exact aBu 6 7 8 (w.heap.size+2) aAn 49 (.slice a7 (j+1) c7) (.int .i64 25) rfl rfl rfl rfl rfl (aA4 q2) (aL0 HP0.out hlt HG.out (by rw [HEQ.out];exact EGB.out) (aCD (aA9 ho8 ((Kept.refl _ _).setRow _) (aAx ho8 q2 (by decide)))) ((aDC ho8).mono (upT HB.out HU5.out).size) (aA6 (upT HB.out (upT HU5.out (upT HU7.out hb8))) (by omega) _))
      ·go_wp2_with (go_at_call 18;refine HGK.out.mono ?_;rintro e' w8 ⟨rfl,hb8⟩)
       go_roundw
       case rel =>
        refine ⟨_,_,_,_,_,_,_,_,_,_,_,_,_,_,_,_,_,_,_,_,_,_,_,?_,rfl⟩
        exact ⟨j + 1, by omega, by go_num, ⟨a7, c7, rfl, ownsRow_below HO7.out hb8⟩, upT HU7.out hb8, fun i hi => by
            by_cases h:i < j
            · exact HG.out i h
            · obtain rfl:i=j:=by omega
              rw [HEQ.out]
              exact EGB.out⟩
       case measure=>simp [intOf];omega
     ·obtain rfl:j=2:=by omega
      have j2:¬ ((2:Nat):Int) < 2:=by omega
      have hu2:=upT HU5.out HUU.out
      have lx:=aAg (upR hu2 R0.out)
      obtain ⟨W6,g6,hW6,eg6,r6,hd6,_⟩:=aD1 hu2 (.cells #[.int .u64 (k:Int)] 22)
      have HSB:=hid (HSA.out W6 g6 (upT hu2 hd6) r6)
      have HU6:=hid (upT hu2 hd6)
      have HW6:=hid hW6
      have EG6:=hid eg6
      have HO6:=hid (ownsRow_below HO.out hd6)
      have z:=aBg
      clear hW6 eg6 r6 hd6 hu2 HSA HHQ HGO II HUU
      go_upto_region 21 with (go_at_call 19;rw [HW6.out,EG6.out];refine HSB.out.mono ?_;rintro e' w9 ⟨X,rfl,hrs,hb9⟩;have sv:=aBK w9 aAn X;have HRX:=hid hrs;have HB9:=hid hb9;clear hrs hb9)
      obtain ⟨V9,y15,hV9,ey15,r15,hd9,_⟩:=aD1 HB9.out (.cells (cel (aA0 X)) 49)
      rw [hV9,ey15]
      have lz:=aAg r15
      have hu9:=upT HU6.out (upT HB9.out hd9)
      have q2:=upR hu9 R2.out
      have s1:=aAA q2 X
      have Q2:=hid q2
      have HU9:=hid hu9
      have ho9:=ownsRow_below HO6.out (upT HB9.out hd9)
      have HO9:=hid ho9
      have HRZ:=hid (HRX.out.below hd9)
      clear hV9 ey15 r15 hd9 hu9 q2 sv ho9 lx HW6 EG6 HSB
      have hk9:Kept (w.heap.size+2) V9 (V9.setRow (w.heap.size+2) (cel (aA0 X))):=(Kept.refl _ _).setRow _
      have HK9:=hid hk9
      clear hk9
      go_wp2
      have he:sqE x (k:Int)=sqE x s.f0.f0.f1:=by rw [HEK.out]
      have hes:sqS x (k:Int)=sqS x s.f0.f0.f1:=by rw [HEK.out]
      have hrz:=HRZ.out
      rw [hes] at hrz
      rw [he]
      have z2:w.heap.size+2 < W6.heap.size:=aAe (upR HU6.out R2.out)
      exact aBu 6 7 8 (w.heap.size+2) X 49 (.slice aq 2 cq) (.int .i64 (sqE x s.f0.f0.f1)) rfl rfl rfl rfl rfl (aA4 Q2.out) (aOz HP0.out HG.out ⟨hrz.sim,hrz.inw.kept (hrz.new.aw z2) HK9.out,hrz.nil,hrz.new.mono (upT HB.out HU6.out).size⟩ (aCD (aA9 HO9.out HK9.out (aAx HO9.out Q2.out (by decide)))) ((aDC HO9.out).mono (upT HB.out HU5.out).size) (aA6 (upT HB.out HU9.out) (by omega) _))
end Go.Proofs.YtdjplhibmomajaaGreatDoor
