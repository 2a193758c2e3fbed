/- A part. -/
import Derived.Test.YtdjplhibmomajaaGreatDoorSlM
import Derived.Test.YtdjplhibmomajaaGreatDoorQU
import Derived.Test.YtdjplhibmomajaaGreatDoorQN
import Derived.Test.YtdjplhibmomajaaGreatDoorQL
import Derived.Test.YtdjplhibmomajaaGreatDoorTrHeader
import Derived.Deep.CutRange
namespace Go.Proofs.YtdjplhibmomajaaGreatDoor
open Go.RowKit
set_option linter.unusedVariables false
set_option linter.unusedSimpArgs false
set_option maxRecDepth 200000
theorem aT7 (W:World):(zeroValue 30).run Tryz.prog W=.ok (.agg (cel (aAm aF4))) W:=by kernel_rfl
theorem aOj {w:World} {g:Nat} {t:TypeId} {x:aB6} (h:w.heap[g]?=some (.cells (cel (aAm x)) t)):(aBt ⟨g,0,none⟩).run Tryz.prog w=.ok (.agg (cel (aAm x))) w :=
 aEr (aD3 (a:=[]) (b:=[]) h _ (by rw [List.append_nil];rfl))
theorem aSd {x:aA1} {s:aA7} (hR:aAN x=true) (h:¬ s.f0.f0.f0=s.f1.f0.f0):psP x s=20:=by unfold psP;rw [if_pos hR,if_neg h]
theorem aSf {x:aA1} {s:aA7} (hR:aAN x=true) (h0:s.f0.f0.f0=s.f1.f0.f0) (h:¬ s.f0.f0.f1=s.f1.f0.f1):psP x s=27:=by unfold psP;rw [if_pos hR,if_pos h0,if_neg h]
theorem aSe {x:aA1} {s:aA7} (hR:aAN x=true) (h0:s.f0.f0.f0=s.f1.f0.f0) (h1:s.f0.f0.f1=s.f1.f0.f1) (h:eqH s.f0.f0 s.f1.f0=true):psP x s=26:=by unfold psP;rw [if_pos hR,if_pos h0,if_pos h1,if_pos h]
theorem aRq {a b:aB6} (h0:a.f0=b.f0) (h1:a.f1=b.f1) (h:eqH a b=false):hdE a b=0:=by unfold hdE;rw [if_pos h0,if_pos h1,if_neg (by rw [h];decide)]
theorem aSa {w:World} {g:Nat} {t:TypeId} {s:aA7} (h:w.heap[g]?=some (.cells (cel (aAd s)) t)) (j:Nat) (hj:j < 2):(aBt ⟨g,194*j,none⟩).run Tryz.prog w=.ok (.agg (cel (aAm (psH s j).f0))) w:=by
 match j,hj with
 | 0, _ => exact aKr h
 | 1, _ => exact aKs h
theorem aSb {w:World} {g:Nat} {t:TypeId} {s:aA7} (h:w.heap[g]?=some (.cells (cel (aAd s)) t)) (j:Nat) (hj:j < 2):(aRN ⟨g,194*j+98,none⟩).run Tryz.prog w=.ok (.agg (vs .u8 96 (psH s j).f1)) w:=by
 match j,hj with
 | 0, _ =>
  have:=aD3 (a:=aAW (aAm s.f0.f0)) (b:=aAW (aAf s.f1)) h (bl s.f0.f1 96) (by kernel_rfl)
  rw [aAC,show aCa (aAm s.f0.f0)=98 from rfl] at this
  exact aHH this
 | 1, _ =>
  have:=aD3 (a:=aAW (aAf s.f0)++aAW (aAm s.f1.f0)) (b:=[]) h (bl s.f1.f1 96) (by kernel_rfl)
  rw [List.length_append,aAC,aAC,show aCa (aAf s.f0)=194 from rfl,show aCa (aAm s.f1.f0)=98 from rfl] at this
  exact aHH this
attribute [local go_sem ↓] aAq aAr aAz aAi aAl aAw aB8 aC2 aKn aAY aNY aOl aAu aAt aAL aF3 aDx aK0
set_option maxHeartbeats 16000000 in
theorem aPT (x : aA1) (s : aA7) (a : Option Addr) (n cap : Nat) (f : Nat → Int) (w : World) (hx : aAD x) (hw : InW w x) (hn : aGw x) (hs : aBs s) (hr : Rts w a n cap f) (hnn : n ≤ 9223372036854775807) (hC : Tab w 1 64 KW) :
    Calls Tryz.prog 7 #[.agg (cel (aA0 x)),.agg (cel (aAd s)),.slice a n cap] w (PsA x s f n w):=by
 obtain ⟨W0,hW0⟩:∃ W,((w.alloc (.cells (cel (aA0 x)) 49)).alloc (.cells (cel (aAd s)) 55)).alloc (.cells (cel (aA0 aAn)) 49)=W:=⟨_,rfl⟩
 have r0:W0.heap[w.heap.size]?=some (.cells (cel (aA0 x)) 49):=by rw [←hW0];exact (aAc (by simp<;>omega)).trans ((aAc (by simp)).trans (aA2 rfl))
 have r1:W0.heap[w.heap.size+1]?=some (.cells (cel (aAd s)) 55):=by rw [←hW0];exact (aAc (by simp)).trans (aA2 (by simp))
 have r2:W0.heap[w.heap.size+2]?=some (.cells (cel (aA0 aAn)) 49):=by rw [←hW0];exact aA2 (by simp)
 have hB0:Up w W0:=by rw [←hW0];exact (((Below.refl _ _).alloc (Nat.le_refl _) _).alloc (by simp) _).alloc (by simp<;>omega) _
 have hri:=aFE x W0 hx.r' (hw.below hB0).r' ⟨hx.o10.1,hx.o4.1.1,hx.o18.1.1,hx.o19.1.1,hx.o20.1.1⟩
 have lx:=aAg r0
 have z:=aBg
 have bz:=aCI
 have HB:=hid hB0
 have HW:=hid hW0
 have R0:=hid r0
 have R1:=hid r1
 have R2:=hid r2
 cases hR:aAN x
 ·rw [hR] at hri
  have HRI:=hid hri
  have HPE:Hid (psP x s=1):=by show psP x s=1;unfold psP;rw [hR];rfl
  clear hri hB0 hW0 r0 r1 r2 hx hw hn hs hr hC
  go_enter Tryz.func7,Tryz.ntmps7
  go_upto_region 1 with fail
  rw [HW.out]
  clear HW z
  go_wp2_with (go_at_call 20;refine HRI.out.mono ?_;rintro e' w1 ⟨rfl,hu⟩;have s1:=aAA (upR hu R2.out) aAn)
  exact aBu 6 7 8 (w.heap.size+2) aAn 49 (.slice none 0 0) (.int .i64 1) rfl rfl rfl rfl rfl (aA4 (upR hu R2.out)) (aDT HPE.out (by decide) (aA6 (upT HB.out hu) (by omega) _))
 rw [hR] at hri
 have HRI:=hid hri
 have hrt:=aAS hR
 obtain ⟨A,eA⟩:∃ q,s.f0.f0=q:=⟨_,rfl⟩
 obtain ⟨B,eB⟩:∃ q,s.f1.f0=q:=⟨_,rfl⟩
 have l1:∀ W,Up W0 W→(aBt ⟨w.heap.size+1,0,none⟩).run Tryz.prog W=.ok (.agg (cel (aAm A))) W:=fun W h=>by rw [←eA];exact aKr (upR h r1)
 have l2:∀ W,Up W0 W→(aBt ⟨w.heap.size+1,194,none⟩).run Tryz.prog W=.ok (.agg (cel (aAm B))) W:=fun W h=>by rw [←eB];exact aKs (upR h r1)
 have heq:=fun W=>aIh W A B (by rw [←eA];exact hs.1.1) (by rw [←eB];exact hs.2.1)
 have hi0:0≤A.f1:=by rw [←eA];exact hs.1.1.2.1.1
 have hi1:A.f1 < 18446744073709551616:=by rw [←eA];exact hs.1.1.2.1.2
 have HL1:=hid l1
 have HL2:=hid l2
 have HEQ:=hid heq
 have EA:=hid eA
 have EB:=hid eB
 have HRB:=hid hR
 have HRT:=hid hrt
 have HXO:=hid hx
 have HIW:=hid hw
 have HNI:=hid hn
 have HOS:=hid hs
 have HRS:=hid hr
 have HTC:=hid hC
 have zh:=aT7
 clear hri l1 l2 heq eA eB hrt hx hw hn hs hr hC hB0 hW0 r0 r1 r2 hR
 go_enter Tryz.func7,Tryz.ntmps7
 go_upto_region 1 with fail
 rw [HW.out]
 clear HW
 go_upto_region 3 with (go_at_call 20;refine HRI.out.mono ?_;rintro e' w1 ⟨rfl,hb1⟩;have sv:=aEi w1 aF4 A)
 have la:=HL1.out w1 hb1
 go_upto_region 4 with fail
 obtain ⟨w2,b9,hW2,eb9,r9,hd2,_⟩:=aD1 hb1 (.cells (cel (aAm A)) 30)
 rw [hW2,eb9]
 have hu2:=upT hb1 hd2
 have lb:=HL2.out w2 hu2
 have sv:=aEi w2 aF4 B
 clear hW2 eb9 la hb1 hd2 HRI HL1 HL2 lx
 go_upto_region 5 with fail
 obtain ⟨w3,b10,hW3,eb10,r10,hd3,_⟩:=aD1 hu2 (.cells (cel (aAm B)) 30)
 rw [hW3,eb10]
 have hu3:=upT hu2 hd3
 replace r9:=upR hd3 r9
 have HU3:=hid hu3
 have R9:=hid r9
 have R10:=hid r10
 have a0:=aAH r9 0 A.f0 rfl 0 rfl
 have a1:=aAH r9 1 A.f1 rfl 1 rfl
 have c0:=aAH r10 0 B.f0 rfl 0 rfl
 have c1:=aAH r10 1 B.f1 rfl 1 rfl
 have la:=aOj r9
 have lb:=aOj r10
 have he:=HEQ.out w3
 have s1:=aAA (upR hu3 R2.out) aAn
 clear hW3 eb10 hu2 hd3 hu3 r9 r10 sv HEQ zh
 obtain ⟨p,ep⟩:∃ p,A.f0=p:=⟨_,rfl⟩
 obtain ⟨p2,ep2⟩:∃ p,B.f0=p:=⟨_,rfl⟩
 obtain ⟨q,eq⟩:∃ p,A.f1=p:=⟨_,rfl⟩
 obtain ⟨q2,eq2⟩:∃ p,B.f1=p:=⟨_,rfl⟩
 obtain ⟨EH,eEH⟩:∃ p,eqH A B=p:=⟨_,rfl⟩
 rw [ep] at a0
 rw [eq] at a1 hi0 hi1
 rw [ep2] at c0
 rw [eq2] at c1
 rw [eEH] at he
 have EP:=hid ep
 have EP2:=hid ep2
 have EQ:=hid eq
 have EQ2:=hid eq2
 have EEH:=hid eEH
 clear ep ep2 eq eq2 eEH
 by_cases h0:p=p2
 case neg =>
  have HPE:Hid (psP x s=20):=aSd HRB.out (by rw [EA.out,EB.out,EP.out,EP2.out];exact h0)
  clear HRT HXO HIW HNI HOS HRS HTC R0 R1 R9 R10 a1 c1 la lb he
  go_wp2
  exact aBu 6 7 8 (w.heap.size+2) aAn 49 (.slice none 0 0) (.int .i64 20) rfl rfl rfl rfl rfl (aA4 (upR HU3.out R2.out)) (aDT HPE.out (by decide) (aA6 (upT HB.out HU3.out) (by omega) _))
 obtain rfl:=h0
 go_upto_region 7 with fail
 by_cases h1:q=q2
 case neg =>
  have HPE:Hid (psP x s=27):=aSf HRB.out (by rw [EA.out,EB.out,EP.out,EP2.out]) (by rw [EA.out,EB.out,EQ.out,EQ2.out];exact h1)
  clear HRT HXO HIW HNI HOS HRS HTC R0 R1 R9 R10 a0 c0 la lb he
  go_wp2
  exact aBu 6 7 8 (w.heap.size+2) aAn 49 (.slice none 0 0) (.int .i64 27) rfl rfl rfl rfl rfl (aA4 (upR HU3.out R2.out)) (aDT HPE.out (by decide) (aA6 (upT HB.out HU3.out) (by omega) _))
 obtain rfl:=h1
 go_upto_region 9 with fail
 cases EH
 case true =>
  have HPE:Hid (psP x s=26):=aSe HRB.out (by rw [EA.out,EB.out,EP.out,EP2.out]) (by rw [EA.out,EB.out,EQ.out,EQ2.out]) (by rw [EA.out,EB.out];exact EEH.out)
  clear HRT HXO HIW HNI HOS HRS HTC R0 R1 R9 R10 a0 c0 a1 c1
  go_wp2
  exact aBu 6 7 8 (w.heap.size+2) aAn 49 (.slice none 0 0) (.int .i64 26) rfl rfl rfl rfl rfl (aA4 (upR HU3.out R2.out)) (aDT HPE.out (by decide) (aA6 (upT HB.out HU3.out) (by omega) _))
 have HCL:Hid (hdE s.f0.f0 s.f1.f0=0):=aRq (by rw [EA.out,EB.out,EP.out,EP2.out]) (by rw [EA.out,EB.out,EQ.out,EQ2.out]) (by rw [EA.out,EB.out];exact EEH.out)
 go_upto_region 11 with fail
 have c11:=aFv (upR HU3.out R0.out)
 have n0:=HRT.out.c0
 obtain ⟨N,eN⟩:∃ N,x.f11.n=N:=⟨_,rfl⟩
 rw [eN] at c11 n0
 have nw:IntKind.u64.wrap (N:Int)=(N:Int):=by rw [IntKind.wrap_u64];omega
 have EN:=hid eN
 clear eN la lb he
 by_cases hi:q < (N:Int)
 case neg =>
  have HPE:Hid (psP x s=27):=aGV HRB.out HCL.out (by rw [EA.out,EQ.out,EN.out];exact hi)
  have hi2:(N:Int)≤q:=by omega
  clear HXO HIW HNI HOS HRS HTC R0 R1 R9 R10 a0 c0 c1 HRT
  generalize x.f11.a=AA at c11
  generalize x.f11.c=CC at c11
  go_wp2
  exact aBu 6 7 8 (w.heap.size+2) aAn 49 (.slice none 0 0) (.int .i64 27) rfl rfl rfl rfl rfl (aA4 (upR HU3.out R2.out)) (aDT HPE.out (by decide) (aA6 (upT HB.out HU3.out) (by omega) _))
 obtain ⟨k,ek⟩:∃ k:Nat,q=(k:Int):=⟨q.toNat,by omega⟩
 have hk:k < N:=by omega
 have hi2:¬ (N:Int)≤q:=by omega
 obtain rfl:=ek
 rcases (HIW.out.below (upT HB.out HU3.out)).i11 with h0 | ⟨b,off,ea,hbl,hrr⟩
 ·rw [EN.out] at h0;omega
 rw [ea] at c11
 have lv:=aB2 (hrr k (by rw [EN.out];exact hk))
 have ix:=fun W=>aBf W b off N x.f11.c k hk
 obtain ⟨P,eP⟩:∃ P,off+86*k=P:=⟨_,rfl⟩
 rw [eP] at lv
 simp only [eP] at ix
 generalize x.f11.c=CC at c11 ix
 obtain ⟨v,ev⟩:∃ v,x.f11.z k=v:=⟨_,rfl⟩
 rw [ev] at lv
 have EV:=hid ev
 have sv:=aBj w3 aBe v
 have zv:=aBP
 clear hrr hbl ea eP ev
 go_upto_region 14 with fail
 obtain ⟨w6,b11,hW6,eb11,r11,hd6,_⟩:=aD1 HU3.out (.cells (cel (aA3 v)) 65)
 rw [hW6,eb11]
 have HU6:=hid (upT HU3.out hd6)
 have R9':=hid (upR hd6 R9.out)
 have hv11:∀ W,Up w6 W→W.rangeAt b11 0 (aAW (aA3 v)):=fun W h=>aD3 (a:=[]) (b:=[]) (upR h r11) _ (by rw [List.append_nil];rfl)
 have HV11:=hid hv11
 have HLV:=hid (fun W (h:Up w6 W)=>aB2 (hv11 W h))
 have HLX:=hid (fun W (h:Up w6 W)=>aAg (upR (upT HU6.out h) R0.out))
 have hep:=fun W=>aD6 x W HXO.out.o2.1 HRT.out.c7
 have hcs:=fun W=>aJw v (x.f2 / 4) W
 obtain ⟨CB,eCB⟩:∃ b,aMn v (x.f2 / 4)=b:=⟨_,rfl⟩
 rw [eCB] at hcs
 have hpe:=aL3 (b:=CB) HRB.out HCL.out (k:=k) (by rw [EA.out];exact EQ.out) (by rw [EN.out];exact hk) (by rw [EV.out];exact eCB)
 have HPE0:=hid hpe
 obtain ⟨E,eE⟩:∃ E,x.f2 / 4=E:=⟨_,rfl⟩
 rw [eE] at hep hcs
 have HEP:=hid hep
 have HCS:=hid hcs
 clear hW6 eb11 r11 hd6 hv11 hep hcs eCB hpe eE sv zv lv ix c11 R9 R10 a0 a1 c0 c1 s1 nw hi hi2 n0 z
 refine wp_region_noPanic ?_
 refine wp_region_held_drew (S:=fun W=>Up w6 W) (by kernel_rfl) ((Below.refl _ _).drew) (fun hHeld=>?_)
 have hUd:Up w6 w6.drew:=(Below.refl _ _).drew
 generalize w6.drew=wd at hHeld hUd ⊢
 refine tk 0 (v:=?v701) ?y701 hHeld ?r701
 case y701=>intro w hSw;have ld0:=HLV.out w hSw;go_simp;try with_reducible rfl
 refine tk 1 (v:=?v702) ?y702 hHeld ?r702
 case y702=>intro w hSw;have ld0:=HLX.out w hSw;go_simp;try with_reducible rfl
 try simp only [Act.put,z_1,z_2,z_3,z_4,z_5,z_6,z_7]
 refine rd1 2 (fun K hK=>?_)
 go_simp
 refine (HEP.out wd).mono ?_
 rintro e' x1 ⟨rfl,hd1⟩
 dsimp only
 have hc1:=upT hUd hd1
 refine hK.out _ _ hc1 (fun hHeld=>?_)
 clear hK K
 try simp only [Act.put,z_1,z_2,z_3,z_4,z_5,z_6,z_7]
 refine rd1 3 (fun K hK=>?_)
 go_simp
 refine (HCS.out x1).mono ?_
 rintro e' x2 ⟨rfl,hd2⟩
 dsimp only
 have hc2:=upT hc1 hd2
 refine hK.out _ _ hc2 (fun hHeld=>?_)
 clear hK K
 try simp only [Act.put,z_1,z_2,z_3,z_4,z_5,z_6,z_7]
 refine tk 4 (v:=?v703) ?y703 hHeld ?r703
 case y703=>intro w hSw;go_simp;try with_reducible rfl
 try simp only [Act.put,z_1,z_2,z_3,z_4,z_5,z_6,z_7]
 refine wpAnyH_done (by kernel_rfl) ?_ _
 refine NoPanic.normal ?_
 have hu7:=upT HU6.out hc2
 obtain ⟨w7,ew7⟩:∃ W,x2=W:=⟨_,rfl⟩
 have HS7:=hid (hc2)
 rw [ew7] at hu7 HS7 ⊢
 have HU7:=hid hu7
 clear ew7 hc2 hd2 hc1 hd1 hUd hHeld hu7 HLV HLX HEP HCS
 cases CB
 case false =>
  have HPE:Hid (psP x s=24):=HPE0.out
  have s1:=aAA (upR HU7.out R2.out) aAn
  clear HPE0 HXO HIW HNI HOS HRS HTC HRT
  simp only [Bool.not_false]
  go_wp2
  exact aBu 6 7 8 (w.heap.size+2) aAn 49 (.slice none 0 0) (.int .i64 24) rfl rfl rfl rfl rfl (aA4 (upR HU7.out R2.out)) (aDT HPE.out (by decide) (aA6 (upT HB.out HU7.out) (by omega) _))
 have HP0:Hid (psP x s=0):=HPE0.out
 clear HPE0
 simp only [Bool.not_true]
 obtain ⟨A0,eA0⟩:∃ q,cel (aAf s.f0)=q:=⟨_,rfl⟩
 obtain ⟨A1,eA1⟩:∃ q,cel (aAf s.f1)=q:=⟨_,rfl⟩
 have q1:=aHQ (upR HU7.out R1.out)
 have q2:=aHR (upR HU7.out R1.out)
 have qb:=aRe w7 s
 rw [eA0] at q1 qb
 rw [eA1] at q2 qb
 clear eA0 eA1
 obtain ⟨W5,g,hW5,eg,r5,hd5,_⟩:=aD1 HU7.out (.cells (cel (aAd s)) 53)
 have HW5:=hid hW5
 have EG:=hid eg
 have R5:=hid r5
 have HU5:=hid (upT HU7.out hd5)
 have HS5:=hid (upT HS7.out hd5)
 clear hW5 eg r5 hd5
 have hk2:=(aOA HP0.out (by rw [EA.out,EQ.out];omega)).2
 have hok:∀ j,j < 2→aCu (psH s j)∧(psH s j).f0.f1=(k:Int)∧(psH s j).f0.f0=p:=fun j hj=>by
  match j,hj with
  | 0, _ => exact ⟨HOS.out.1, (by rw [show (psH s 0).f0 = s.f0.f0 from rfl, EA.out]; exact EQ.out), (by rw [show (psH s 0).f0 = s.f0.f0 from rfl, EA.out]; exact EP.out)⟩
  | 1, _ => exact ⟨HOS.out.2, (by rw [show (psH s 1).f0 = s.f1.f0 from rfl, EB.out]; exact EQ2.out), (by rw [show (psH s 1).f0 = s.f1.f0 from rfl, EB.out]; exact EP2.out)⟩
 have hqv:∀ j,j < 2→hqV x (psH s j)=qsV v.f0 1 (tw (aBn (psH s j).f0) (aEK x 0 (p / 4))) (psH s j).f1:=fun j hj=>by
  obtain ⟨_,h2,h3⟩:=hok j hj
  unfold hqV
  rw [h2,h3,Int.toNat_natCast,EV.out]
 have p0:0≤p:=by rw [←EP.out,←EA.out];exact HOS.out.1.1.1.1
 have p1:p < 18446744073709551616:=by rw [←EP.out,←EA.out];exact HOS.out.1.1.1.2
 have hvk:=(HXO.out.o11 k (by rw [EN.out];exact hk)).1
 rw [EV.out] at hvk
 have hdo:=fun (W:World) (h:Up W0 W)=>aHS x 0 (p / 4) W HXO.out (HTC.out.below (upT HB.out h))
 have hrh:=fun (W:World) j (hj:j < 2) (h:Up W0 W)=>aFd (psH s j).f0 W (hok j hj).1.1 (HTC.out.below (upT HB.out h))
 have hro:=fun (W:World) j (hj:j < 2) (h:Up W0 W)=>aL7 (aBn (psH s j).f0) (aEK x 0 (p / 4)) W (aOh _ (hok j hj).1.1) (fun j _=>aV8 ..) (HTC.out.below (upT HB.out h))
 have hqu:∀ (W:World) y j (hj:j < 2),Up W0 W→W.heap[y]?=some (.cells (vs .u8 48 v.f0) 44)→Calls Tryz.prog 24 #[.slice (some ⟨y,0,none⟩) 1 1,.agg (vs .u8 32 (tw (aBn (psH s j).f0) (aEK x 0 (p / 4)))),.agg (vs .u8 96 (psH s j).f1)] W fun e' w'=>e'=.returned (.agg (vs .u8 32 (hqV x (psH s j))))∧Below W.heap.size W w':=fun W y j hj h hy=>by
  rw [hqv j hj]
  exact aG8 (some ⟨y,0,none⟩) 1 1 v.f0 _ (psH s j).f1 W (.inr (.inr ⟨y,0,rfl,by omega,aAe hy,fun j hj=>by rw [Nat.zero_add];exact aA8 hy j (by omega)⟩)) (fun j hj=>hvk j (by omega)) (fun j _=>twB ..) (hok j hj).1.2 (by omega) (HTC.out.below (upT HB.out h))
 have hgo:=fun (W:World) j (h:Up W0 W)=>aL6 (hqV x (psH s j)) f a n cap W (HRS.out.below (upT HB.out h)) hnn
 have hcp:∀ W:World,Up W0 W→Calls Tryz.prog 5 #[.agg (cel (aA0 x))] W fun e w'=>∃ X:aA1,e=.returned (.agg (cel (aA0 X)))∧aBQ x X∧aEJ W.heap.size w' X∧Below W.heap.size W w':=fun W h=>aGE x W (HIW.out.below (upT HB.out h)) HNI.out (aEh HRB.out)
 have pt:p.tdiv 4=p / 4:=Int.tdiv_eq_ediv_of_nonneg p0
 have pq:IntKind.u64.wrap (p / 4)=p / 4:=by rw [IntKind.wrap_u64];omega
 obtain ⟨DM,eDM⟩:∃ q,aEK x 0 (p / 4)=q:=⟨_,rfl⟩
 rw [eDM] at hdo
 simp only [eDM] at hro hqu
 obtain ⟨KF,eKF⟩:∃ q,v.f0=q:=⟨_,rfl⟩
 simp only [eKF] at hqu
 have HDO0:=hid hdo
 have HRH0:=hid hrh
 have HRO0:=hid hro
 have HQU0:=hid hqu
 have HGO:=hid hgo
 have HCP0:=hid hcp
 have PT:=hid pt
 have PQ:=hid pq
 have HLK0:=hid (fun W (h:Up w6 W)=>(aG3 (o:=0) fun j hj=>aLJ (HV11.out W h) j hj:(aRM ⟨b11,0,none⟩).run Tryz.prog W=.ok (.agg (vs .u8 48 v.f0)) W))
 rw [eKF] at HLK0
 have HSL0:=hid (fun W (h:Up w6 W)=>(by have:=aAH (upR h R9'.out) 0 A.f0 rfl 0 rfl;rw [EP.out] at this;exact this:W.cell? ⟨b9,0,none⟩=some (.int .u64 p)))
 have HA1:=hid (fun W (h:Up w6 W)=>(by have:=aAH (upR h R9'.out) 1 A.f1 rfl 1 rfl;rw [EQ.out] at this;exact this:W.cell? ⟨b9,1,none⟩=some (.int .u64 (k:Int))))
 obtain ⟨ii,hi,hz0,hz1,hz2⟩:=aBN (P:=Tryz.prog) (t:=24) (z:=.agg (vs .u8 32 fun _=>0)) (s:=32) (b:=32) (by kernel_rfl)
 have II:=hid (And.intro hi (And.intro hz0 (And.intro hz1 hz2)))
 clear hk2 hok hqv hdo hrh hro hqu hgo hcp hi hz0 hz1 hz2 hvk pt pq eDM eKF HV11 p0 p1 hnn HOS
 go_wp2
 rw [HW5.out,EG.out]
 clear q1 q2 qb HW5 EG HS7 HU7
 go_loopw [14,12] (fun c vv wr=>∃ j:Nat,j≤2∧c=.int .i64 j∧(∃ aq cq,vv=.slice aq j cq∧wr.ownsRow W5.heap.size 24 32 (.slice aq j cq) j (bl (psQ x s) (32*j)))∧Up W5 wr∧∀ i,i < j→gdB (hqV x (psH s i)) f n=true) (fun c _ _=>2 - (intOf c).toNat)
 case atStart=>exact ⟨0,by omega,rfl,⟨none,0,rfl,World.ownsRow_nil _ _ _ _⟩,Below.refl _ _,fun i h=>by omega⟩
 case round =>
  obtain ⟨j,hj,rfl,⟨aq,cq,rfl,ho⟩,hu,hg⟩:=hrel
  have HG:=hid hg
  have HO:=hid ho
  have HUU:=hid hu
  clear hg ho hu
  by_cases hlt:j < 2
  ·have j1:(j:Int) < 2:=by omega
   have jw:IntKind.i64.wrap ((j:Int)+1)=(j:Int)+1:=by rw [IntKind.wrap_i64];omega
   have is:=fun W=>aRw W g 2 2 j hlt
   have lh:=aSa (upR HUU.out R5.out) j hlt
   have HIS:=hid is
   have zr:=aAj
   obtain ⟨QV,eQV⟩:∃ q,hqV x (psH s j)=q:=⟨_,rfl⟩
   have hqj:=fun (W:World) y (h:Up W0 W) hy=>HQU0.out W y j hlt h hy
   have hrj:=fun (W:World) (h:Up W0 W)=>HRH0.out W j hlt h
   have hoj:=fun (W:World) (h:Up W0 W)=>HRO0.out W j hlt h
   have hgj:=fun (W:World) (h:Up W0 W)=>HGO.out W j h
   simp only [eQV] at hqj hgj
   have HEQ:=hid eQV
   have hsg:=fun W (h:Up W5 W)=>aSb (upR h R5.out) j hlt
   obtain ⟨RT,eRT⟩:∃ q,tw (aBn (psH s j).f0) DM=q:=⟨_,rfl⟩
   simp only [eRT] at hqj hoj
   obtain ⟨HR,eHR⟩:∃ q,aBn (psH s j).f0=q:=⟨_,rfl⟩
   simp only [eHR] at hrj hoj
   obtain ⟨HC,eHC⟩:∃ q,cel (aAm (psH s j).f0)=q:=⟨_,rfl⟩
   simp only [eHC] at hrj
   rw [eHC] at lh
   obtain ⟨SG,eSG⟩:∃ q,(psH s j).f1=q:=⟨_,rfl⟩
   simp only [eSG] at hqj hsg
   have HRJ:=hid hrj
   have HOJ:=hid hoj
   have HQJ:=hid hqj
   have HGJ:=hid hgj
   have HSG:=hid hsg
   clear eQV eRT eHR eHC eSG hqj hrj hoj hgj hsg
   go_upto_region 22 with (go_at_call 23;refine (HRJ.out _ (upT HU5.out HUU.out)).mono ?_;rintro e' wB ⟨rfl,hbB⟩;have sv:=aBc wB (fun _=>0) HR)
   obtain ⟨V2,y15,hV2,ey15,r15r,hd15,_⟩:=aD1 hbB (.cells (vs .u8 32 HR) 24)
   rw [hV2,ey15]
   have hw2:=upT HUU.out (upT hbB hd15)
   have HW2:=hid hw2
   have HD2:=hid (upT hbB hd15)
   have RR:=hid r15r
   have hdj:=HDO0.out
   have HDO:=hid (fun W (h:Up V2 W)=>hdj W (upT HU5.out (upT hw2 h)))
   have HRO:=hid (fun W (h:Up V2 W)=>HOJ.out W (upT HU5.out (upT hw2 h)))
   have HQU:=hid (fun W y (h:Up V2 W) hy=>HQJ.out W y (upT HU5.out (upT hw2 h)) hy)
   have HLK:=hid (fun W (h:Up V2 W)=>HLK0.out W (upT HS5.out (upT hw2 h)))
   have HSL:=hid (fun W (h:Up V2 W)=>HSL0.out W (upT HS5.out (upT hw2 h)))
   have HLX2:=hid (fun W (h:Up V2 W)=>aAg (upR (upT HU5.out (upT hw2 h)) R0.out))
   have HLS:=hid (fun W (h:Up V2 W)=>HSG.out W (upT hw2 h))
   have pt:=PT.out
   have pq:=PQ.out
   clear hV2 ey15 r15r hd15 hw2 hbB sv lh is hdj HRJ HOJ HQJ HSG
   go_cut [17] from 85 to 100 (fun u wx=>∃ y,u=.pointer (some ⟨y,0,none⟩)∧wx.heap[y]?=some (.cells (vs .u8 32 QV) 24)∧Up V2 wx∧V2.heap.size≤y)
   case first =>
    refine wp_region_noPanic ?_
    refine wp_region_held_drew (S:=fun W=>Up V2 W) (by kernel_rfl) ((Below.refl _ _).drew) (fun hHeld=>?_)
    generalize V2.drew=wd at hHeld ⊢
    refine tk 0 (v:=?v704) ?y704 hHeld ?r704
    case y704=>intro w hSw;go_simp;try with_reducible rfl
    refine tk 1 (v:=?v705) ?y705 hHeld ?r705
    case y705=>intro w hSw;have ld0:=HLK.out w hSw;go_simp;try with_reducible rfl
    refine tk 3 (v:=?v706) ?y706 hHeld ?r706
    case y706=>intro w hSw;have ld0:=aAU (upR hSw RR.out);go_simp;try with_reducible rfl
    refine tk 4 (v:=?v707) ?y707 hHeld ?r707
    case y707=>intro w hSw;have ld0:=HLX2.out w hSw;go_simp;try with_reducible rfl
    refine tk 5 (v:=?v708) ?y708 hHeld ?r708
    case y708=>intro w hSw;go_simp;try with_reducible rfl
    refine tk 6 (v:=?v709) ?y709 hHeld ?r709
    case y709=>intro w hSw;have ld0:=HSL.out w hSw;go_simp;try with_reducible rfl
    refine tk 7 (v:=?v710) ?y710 hHeld ?r710
    case y710=>intro w hSw;go_simp;try with_reducible rfl
    refine tk 10 (v:=?v711) ?y711 hHeld ?r711
    case y711=>intro w hSw;go_simp;try with_reducible rfl
    refine tk 11 (v:=?v712) ?y712 hHeld ?r712
    case y712=>intro w hSw;go_simp;try with_reducible rfl
    refine tk 12 (v:=?v713) ?y713 hHeld ?r713
    case y713=>intro w hSw;have ld0:=HIS.out w;go_simp;try with_reducible rfl
    refine tk 13 (v:=?v714) ?y714 hHeld ?r714
    case y714=>intro w hSw;go_simp;try with_reducible rfl
    refine tk 14 (v:=?v715) ?y715 hHeld ?r715
    case y715=>intro w hSw;have ld0:=HLS.out w hSw;go_simp;try with_reducible rfl
    try simp only [Act.put,z_1,z_2,z_3,z_4,z_5,z_6,z_7]
    refine sh2 (fuel':=?f307) (listed':=?l307) (act:=?a307) (fun (y6:Nat) (y15:Nat) V=>Up V2 V∧V.heap[y6]?=some (.cells (vs .u8 48 KF) 44)∧V2.heap.size≤y6∧V.heap[y15]?=some (.cells (vs .u8 32 fun _=>0) 24)∧V2.heap.size≤y15) (fun K307=>?m307) ?t307
    case' m307=>skip
    refine sh2 (fuel':=?f306) (listed':=?l306) (act:=?a306) (fun (y6:Nat) (y15:Nat) V=>Up V2 V∧V.heap[y6]?=some (.cells (vs .u8 48 KF) 44)∧V2.heap.size≤y6∧V.heap[y15]?=some (.cells (vs .u8 32 fun _=>0) 24)∧V2.heap.size≤y15) (fun K306=>?m306) ?t306
    case' m306=>skip
    refine sh1 (fuel':=?f305) (listed':=?l305) (act:=?a305) (fun (y6:Nat) V=>Up V2 V∧V.heap[y6]?=some (.cells (vs .u8 48 KF) 44)∧V2.heap.size≤y6) (fun K305=>?m305) ?t305
    case' m305=>skip
    refine sh1 (fuel':=?f304) (listed':=?l304) (act:=?a304) (fun (y15:Nat) V=>Up V2 V∧V.heap[y15]?=some (.cells (vs .u8 32 fun _=>0) 24)∧V2.heap.size≤y15) (fun K304=>?m304) ?t304
    case' m304=>skip
    refine sh2 (fuel':=?f303) (listed':=?l303) (act:=?a303) (fun (y6:Nat) (y15:Nat) V=>Up V2 V∧V.heap[y6]?=some (.cells (vs .u8 48 KF) 44)∧V2.heap.size≤y6∧V.heap[y15]?=some (.cells (vs .u8 32 fun _=>0) 24)∧V2.heap.size≤y15) (fun K303=>?m303) ?t303
    case' m303=>skip
    refine sh1 (fuel':=?f302) (listed':=?l302) (act:=?a302) (fun (y6:Nat) V=>Up V2 V∧V.heap[y6]?=some (.cells (vs .u8 48 KF) 44)∧V2.heap.size≤y6) (fun K302=>?m302) ?t302
    case' m302=>skip
    refine sh2 (fuel':=?f301) (listed':=?l301) (act:=?a301) (fun (y6:Nat) (y15:Nat) V=>Up V2 V∧V.heap[y6]?=some (.cells (vs .u8 48 KF) 44)∧V2.heap.size≤y6∧V.heap[y15]?=some (.cells (vs .u8 32 fun _=>0) 24)∧V2.heap.size≤y15) (fun K301=>?m301) ?t301
    case' m301=>skip
    refine sh1 (fuel':=?f300) (listed':=?l300) (act:=?a300) (fun (y15:Nat) V=>Up V2 V∧V.heap[y15]?=some (.cells (vs .u8 32 fun _=>0) 24)∧V2.heap.size≤y15) (fun K300=>?m300) ?t300
    case' m300=>skip
    refine rd3 2 8 16 (fun K hK=>?_) (fun K hK=>?_) (fun K hK=>?_)
    ·have zr:=aHt wd KF
     go_simp
     obtain ⟨x401,y6,hx,ey,r6,hd401,b6⟩:=aD1 hHeld (.cells (vs .u8 48 KF) 44)
     rw [hx,ey]
     have l401:=Nat.le_of_eq ey
     clear hx ey zr
     have hc401:=upT hHeld hd401
     refine hK.out _ _ hc401 (fun hHeld=>?_)
     clear hK K
     try simp only [Act.put,z_1,z_2,z_3,z_4,z_5,z_6,z_7]
     refine rd2 8 16 (fun K hK=>?_) (fun K hK=>?_)
     ·go_simp
      refine (HDO.out _ (hc401)).mono ?_
      rintro e' x402 ⟨rfl,hd402⟩
      dsimp only
      have hc402:=upT hc401 hd402
      replace r6:=upR hd402 r6
      refine hK.out _ _ hc402 (fun hHeld=>?_)
      clear hK K
      try simp only [Act.put,z_1,z_2,z_3,z_4,z_5,z_6,z_7]
      exact K302.out y6 x402 ⟨hc402,r6,b6⟩
     ·have zr:=aAj
      go_simp
      obtain ⟨x403,y15,hx,ey,r15,hd403,b15⟩:=aD1 hc401 (.cells (vs .u8 32 fun _=>0) 24)
      rw [hx,ey]
      have l403:=Nat.le_of_eq ey
      clear hx ey zr
      have hc403:=upT hc401 hd403
      replace r6:=upR hd403 r6
      refine hK.out _ _ hc403 (fun hHeld=>?_)
      clear hK K
      try simp only [Act.put,z_1,z_2,z_3,z_4,z_5,z_6,z_7]
      exact K301.out y6 y15 x403 ⟨hc403,r6,b6,r15,b15⟩
    ·go_simp
     refine (HDO.out _ (hHeld)).mono ?_
     rintro e' x404 ⟨rfl,hd404⟩
     dsimp only
     have hc404:=upT hHeld hd404
     refine hK.out _ _ hc404 (fun hHeld=>?_)
     clear hK K
     try simp only [Act.put,z_1,z_2,z_3,z_4,z_5,z_6,z_7]
     refine rd3 2 9 16 (fun K hK=>?_) (fun K hK=>?_) (fun K hK=>?_)
     ·have zr:=aHt x404 KF
      go_simp
      obtain ⟨x405,y6,hx,ey,r6,hd405,b6⟩:=aD1 hc404 (.cells (vs .u8 48 KF) 44)
      rw [hx,ey]
      have l405:=Nat.le_of_eq ey
      clear hx ey zr
      have hc405:=upT hc404 hd405
      refine hK.out _ _ hc405 (fun hHeld=>?_)
      clear hK K
      try simp only [Act.put,z_1,z_2,z_3,z_4,z_5,z_6,z_7]
      exact K302.out y6 x405 ⟨hc405,r6,b6⟩
     ·go_simp
      refine (HRO.out _ (hc404)).mono ?_
      rintro e' x406 ⟨rfl,hd406⟩
      dsimp only
      have hc406:=upT hc404 hd406
      refine hK.out _ _ hc406 (fun hHeld=>?_)
      clear hK K
      try simp only [Act.put,z_1,z_2,z_3,z_4,z_5,z_6,z_7]
      refine rd2 2 16 (fun K hK=>?_) (fun K hK=>?_)
      ·have zr:=aHt x406 KF
       go_simp
       obtain ⟨x407,y6,hx,ey,r6,hd407,b6⟩:=aD1 hc406 (.cells (vs .u8 48 KF) 44)
       rw [hx,ey]
       have l407:=Nat.le_of_eq ey
       clear hx ey zr
       have hc407:=upT hc406 hd407
       refine hK.out _ _ hc407 (fun hHeld=>?_)
       clear hK K
       try simp only [Act.put,z_1,z_2,z_3,z_4,z_5,z_6,z_7]
       exact K305.out y6 x407 ⟨hc407,r6,b6⟩
      ·have zr:=aAj
       go_simp
       obtain ⟨x408,y15,hx,ey,r15,hd408,b15⟩:=aD1 hc406 (.cells (vs .u8 32 fun _=>0) 24)
       rw [hx,ey]
       have l408:=Nat.le_of_eq ey
       clear hx ey zr
       have hc408:=upT hc406 hd408
       refine hK.out _ _ hc408 (fun hHeld=>?_)
       clear hK K
       try simp only [Act.put,z_1,z_2,z_3,z_4,z_5,z_6,z_7]
       exact K304.out y15 x408 ⟨hc408,r15,b15⟩
     ·have zr:=aAj
      go_simp
      obtain ⟨x409,y15,hx,ey,r15,hd409,b15⟩:=aD1 hc404 (.cells (vs .u8 32 fun _=>0) 24)
      rw [hx,ey]
      have l409:=Nat.le_of_eq ey
      clear hx ey zr
      have hc409:=upT hc404 hd409
      refine hK.out _ _ hc409 (fun hHeld=>?_)
      clear hK K
      try simp only [Act.put,z_1,z_2,z_3,z_4,z_5,z_6,z_7]
      exact K300.out y15 x409 ⟨hc409,r15,b15⟩
    ·have zr:=aAj
     go_simp
     obtain ⟨x410,y15,hx,ey,r15,hd410,b15⟩:=aD1 hHeld (.cells (vs .u8 32 fun _=>0) 24)
     rw [hx,ey]
     have l410:=Nat.le_of_eq ey
     clear hx ey zr
     have hc410:=upT hHeld hd410
     refine hK.out _ _ hc410 (fun hHeld=>?_)
     clear hK K
     try simp only [Act.put,z_1,z_2,z_3,z_4,z_5,z_6,z_7]
     refine rd2 2 8 (fun K hK=>?_) (fun K hK=>?_)
     ·have zr:=aHt x410 KF
      go_simp
      obtain ⟨x411,y6,hx,ey,r6,hd411,b6⟩:=aD1 hc410 (.cells (vs .u8 48 KF) 44)
      rw [hx,ey]
      have l411:=Nat.le_of_eq ey
      clear hx ey zr
      have hc411:=upT hc410 hd411
      replace r15:=upR hd411 r15
      refine hK.out _ _ hc411 (fun hHeld=>?_)
      clear hK K
      try simp only [Act.put,z_1,z_2,z_3,z_4,z_5,z_6,z_7]
      exact K301.out y6 y15 x411 ⟨hc411,r6,b6,r15,b15⟩
     ·go_simp
      refine (HDO.out _ (hc410)).mono ?_
      rintro e' x412 ⟨rfl,hd412⟩
      dsimp only
      have hc412:=upT hc410 hd412
      replace r15:=upR hd412 r15
      refine hK.out _ _ hc412 (fun hHeld=>?_)
      clear hK K
      try simp only [Act.put,z_1,z_2,z_3,z_4,z_5,z_6,z_7]
      exact K300.out y15 x412 ⟨hc412,r15,b15⟩
    case t300 =>
     rintro y15 V ⟨hB,r15,b15⟩
     have hHeld:=hB
     refine rd2 2 9 (fun K hK=>?_) (fun K hK=>?_)
     ·have zr:=aHt V KF
      go_simp
      obtain ⟨x413,y6,hx,ey,r6,hd413,b6⟩:=aD1 hB (.cells (vs .u8 48 KF) 44)
      rw [hx,ey]
      have l413:=Nat.le_of_eq ey
      clear hx ey zr
      have hc413:=upT hB hd413
      replace r15:=upR hd413 r15
      refine hK.out _ _ hc413 (fun hHeld=>?_)
      clear hK K
      try simp only [Act.put,z_1,z_2,z_3,z_4,z_5,z_6,z_7]
      exact K303.out y6 y15 x413 ⟨hc413,r6,b6,r15,b15⟩
     ·go_simp
      refine (HRO.out _ (hB)).mono ?_
      rintro e' x414 ⟨rfl,hd414⟩
      dsimp only
      have hc414:=upT hB hd414
      replace r15:=upR hd414 r15
      refine hK.out _ _ hc414 (fun hHeld=>?_)
      clear hK K
      try simp only [Act.put,z_1,z_2,z_3,z_4,z_5,z_6,z_7]
      exact K304.out y15 x414 ⟨hc414,r15,b15⟩
    case t301 =>
     rintro y6 y15 V ⟨hB,r6,b6,r15,b15⟩
     have hHeld:=hB
     refine rd1 8 (fun K hK=>?_)
     go_simp
     refine (HDO.out _ (hB)).mono ?_
     rintro e' x415 ⟨rfl,hd415⟩
     dsimp only
     have hc415:=upT hB hd415
     replace r6:=upR hd415 r6
     replace r15:=upR hd415 r15
     refine hK.out _ _ hc415 (fun hHeld=>?_)
     clear hK K
     try simp only [Act.put,z_1,z_2,z_3,z_4,z_5,z_6,z_7]
     exact K303.out y6 y15 x415 ⟨hc415,r6,b6,r15,b15⟩
    case t302 =>
     rintro y6 V ⟨hB,r6,b6⟩
     have hHeld:=hB
     refine rd2 9 16 (fun K hK=>?_) (fun K hK=>?_)
     ·go_simp
      refine (HRO.out _ (hB)).mono ?_
      rintro e' x416 ⟨rfl,hd416⟩
      dsimp only
      have hc416:=upT hB hd416
      replace r6:=upR hd416 r6
      refine hK.out _ _ hc416 (fun hHeld=>?_)
      clear hK K
      try simp only [Act.put,z_1,z_2,z_3,z_4,z_5,z_6,z_7]
      exact K305.out y6 x416 ⟨hc416,r6,b6⟩
     ·have zr:=aAj
      go_simp
      obtain ⟨x417,y15,hx,ey,r15,hd417,b15⟩:=aD1 hB (.cells (vs .u8 32 fun _=>0) 24)
      rw [hx,ey]
      have l417:=Nat.le_of_eq ey
      clear hx ey zr
      have hc417:=upT hB hd417
      replace r6:=upR hd417 r6
      refine hK.out _ _ hc417 (fun hHeld=>?_)
      clear hK K
      try simp only [Act.put,z_1,z_2,z_3,z_4,z_5,z_6,z_7]
      exact K303.out y6 y15 x417 ⟨hc417,r6,b6,r15,b15⟩
    case t303 =>
     rintro y6 y15 V ⟨hB,r6,b6,r15,b15⟩
     have hHeld:=hB
     refine rd1 9 (fun K hK=>?_)
     go_simp
     refine (HRO.out _ (hB)).mono ?_
     rintro e' x418 ⟨rfl,hd418⟩
     dsimp only
     have hc418:=upT hB hd418
     replace r6:=upR hd418 r6
     replace r15:=upR hd418 r15
     refine hK.out _ _ hc418 (fun hHeld=>?_)
     clear hK K
     try simp only [Act.put,z_1,z_2,z_3,z_4,z_5,z_6,z_7]
     exact K306.out y6 y15 x418 ⟨hc418,r6,b6,r15,b15⟩
    case t304 =>
     rintro y15 V ⟨hB,r15,b15⟩
     have hHeld:=hB
     refine rd1 2 (fun K hK=>?_)
     have zr:=aHt V KF
     go_simp
     obtain ⟨x419,y6,hx,ey,r6,hd419,b6⟩:=aD1 hB (.cells (vs .u8 48 KF) 44)
     rw [hx,ey]
     have l419:=Nat.le_of_eq ey
     clear hx ey zr
     have hc419:=upT hB hd419
     replace r15:=upR hd419 r15
     refine hK.out _ _ hc419 (fun hHeld=>?_)
     clear hK K
     try simp only [Act.put,z_1,z_2,z_3,z_4,z_5,z_6,z_7]
     exact K306.out y6 y15 x419 ⟨hc419,r6,b6,r15,b15⟩
    case t305 =>
     rintro y6 V ⟨hB,r6,b6⟩
     have hHeld:=hB
     refine rd2 15 16 (fun K hK=>?_) (fun K hK=>?_)
     ·go_simp
      refine (HQU.out _ y6 (hB) r6).mono ?_
      rintro e' x420 ⟨rfl,hd420⟩
      dsimp only
      have hc420:=upT hB hd420
      replace r6:=upR hd420 r6
      refine hK.out _ _ hc420 (fun hHeld=>?_)
      clear hK K
      try simp only [Act.put,z_1,z_2,z_3,z_4,z_5,z_6,z_7]
      refine rd1 16 (fun K hK=>?_)
      have zr:=aAj
      go_simp
      obtain ⟨x421,y15,hx,ey,r15,hd421,b15⟩:=aD1 hc420 (.cells (vs .u8 32 fun _=>0) 24)
      rw [hx,ey]
      have l421:=Nat.le_of_eq ey
      clear hx ey zr
      have hc421:=upT hc420 hd421
      replace r6:=upR hd421 r6
      refine hK.out _ _ hc421 (fun hHeld=>?_)
      clear hK K
      try simp only [Act.put,z_1,z_2,z_3,z_4,z_5,z_6,z_7]
      exact K307.out y6 y15 x421 ⟨hc421,r6,b6,r15,b15⟩
     ·have zr:=aAj
      go_simp
      obtain ⟨x422,y15,hx,ey,r15,hd422,b15⟩:=aD1 hB (.cells (vs .u8 32 fun _=>0) 24)
      rw [hx,ey]
      have l422:=Nat.le_of_eq ey
      clear hx ey zr
      have hc422:=upT hB hd422
      replace r6:=upR hd422 r6
      refine hK.out _ _ hc422 (fun hHeld=>?_)
      clear hK K
      try simp only [Act.put,z_1,z_2,z_3,z_4,z_5,z_6,z_7]
      exact K306.out y6 y15 x422 ⟨hc422,r6,b6,r15,b15⟩
    case t306 =>
     rintro y6 y15 V ⟨hB,r6,b6,r15,b15⟩
     have hHeld:=hB
     refine rd1 15 (fun K hK=>?_)
     go_simp
     refine (HQU.out _ y6 (hB) r6).mono ?_
     rintro e' x423 ⟨rfl,hd423⟩
     dsimp only
     have hc423:=upT hB hd423
     replace r6:=upR hd423 r6
     replace r15:=upR hd423 r15
     refine hK.out _ _ hc423 (fun hHeld=>?_)
     clear hK K
     try simp only [Act.put,z_1,z_2,z_3,z_4,z_5,z_6,z_7]
     exact K307.out y6 y15 x423 ⟨hc423,r6,b6,r15,b15⟩
    case t307 =>
     rintro y6 y15 V ⟨hB,r6,b6,r15,b15⟩
     have hHeld:=hB
     refine rd1 17 (fun K hK=>?_)
     have v3:=aAv r15 QV
     go_simp
     have hce:Up V2 _:=aA6 (hB) b15 (vs .u8 32 QV)
     refine hK.out _ _ hce (fun hHeld=>?_)
     clear hK K
     try simp only [Act.put,z_1,z_2,z_3,z_4,z_5,z_6,z_7]
     refine wpAnyH_done (by kernel_rfl) ?_ _
     refine NoPanic.normal ?_
     go_wp2
     go_meet
     exact ⟨_,rfl,aA4 r15,hce,b15⟩
   case rest =>
    obtain ⟨y14,rfl,r14,hcw,hy14⟩:=hcut
    obtain ⟨V4,eV4⟩:∃ W,wc=W:=⟨_,rfl⟩
    rw [eV4] at r14 hcw ⊢
    have hd2:=upT HD2.out hcw
    have hy14b:wr.heap.size≤y14:=Nat.le_trans HD2.out.size hy14
    have hu2:=upT HUU.out hd2
    have lq:=aAU r14
    have bs1:=aFu V4 QV
    obtain ⟨V3,y16,hV3,ey16,r16,hd16,_⟩:=aD1 hu2 (.cells (vs .u8 32 QV) 24)
    have HO3:=hid (ownsRow_below HO.out (upT hd2 hd16))
    have R14:=hid (upR hd16 r14)
    have SS:=hid (aGn (n:=1) (c:=1) (f:=QV) (.inr (.inr ⟨y16,0,rfl,Nat.le_refl _,aAe r16,fun j hj=>by rw [Nat.zero_add];exact aA8 r16 j hj⟩):Rts V3 (some ⟨y16,0,none⟩) 1 1 QV))
    have HU3:=hid (upT hu2 hd16)
    have HV3:=hid hV3
    have EY16:=hid ey16
    clear eV4 hV3 ey16 r16 hd16 r14 hcw hd2 hu2 hy14 HDO HRO HQU HLK HSL HLX2 HLS RR HD2 HW2 pt pq zr
    go_upto_region 24 with (at_builtin;rw [HV3.out,EY16.out];refine aCg _ rfl _ _ 32 rfl W5.heap.size 24 ii (.agg (vs .u8 32 fun _=>0)) 32 32 Tryz.underlying32 II.out.1 II.out.2.1 II.out.2.2.1 II.out.2.2.2 (by kernel_rfl) (by omega) (.slice aq j cq) j _ rfl HO3.out _ _ _ _ rfl SS.out (by unfold maxLen;omega) (by omega) HU3.out.size ?_;intro v7 w8 ho7 hg7;obtain ⟨a7,c7,rfl⟩:=aBb ho7;have HO7:=hid ho7;have HG7:=hid hg7;clear ho7 hg7)
    have hu7:=aB1 HU3.out HO3.out HU3.out.size HG7.out
    have r14:=(HG7.out.block y14 (aAe R14.out) (fun e=>by have:=(HO.out.lt y14 e.symm).2;omega)).trans R14.out
    have eb:bl (psQ x s) (32*j)++bl QV (32*1)=bl (psQ x s) (32*(j+1)):=by rw [←HEQ.out];exact aOB x s j hlt
    rw [eb] at HO7
    have lq:=aAU r14
    have hgj:=HGJ.out w8 (upT HU5.out hu7)
    have HGK:=hid hgj
    have HU7:=hid hu7
    obtain ⟨GB,eGB⟩:∃ b,gdB QV f n=b:=⟨_,rfl⟩
    rw [eGB] at HGK
    have EGB:=hid eGB
    clear hu7 r14 eb hgj eGB HU3 HO3 HG7 R14 SS HV3 EY16 bs1 HGJ hy14b
    cases GB
    ·go_wp2_with (go_at_call 27;refine HGK.out.mono ?_;rintro e' w9 ⟨rfl,hb9⟩;have s1:=aAA (upR (upT HU5.out (upT HU7.out hb9)) R2.out) aAn)
     have q2:=upR (upT HU5.out (upT HU7.out hb9)) R2.out
     have ho8:=ownsRow_below HO7.out hb9
     exact aBu 6 7 8 (w.heap.size+2) aAn 49 (.slice a7 (j+1) c7) (.int .i64 25) rfl rfl rfl rfl rfl (aA4 q2) (aL0 HP0.out hlt HG.out (by rw [HEQ.out];exact EGB.out) (aCD (aA9 ho8 ((Kept.refl _ _).setRow _) (aAx ho8 q2 (by decide)))) ((aDC ho8).mono (upT HB.out HU5.out).size) (aA6 (upT HB.out (upT HU5.out (upT HU7.out hb9))) (by omega) _))
    ·go_wp2_with (go_at_call 27;refine HGK.out.mono ?_;rintro e' w9 ⟨rfl,hb9⟩)
     go_roundw
     case rel =>
      exact ⟨j+1,by omega,by go_num,⟨a7,c7,rfl,ownsRow_below HO7.out hb9⟩,upT HU7.out hb9,fun i hi=>by
       by_cases h:i < j
       ·exact HG.out i h
       ·obtain rfl:i=j:=by omega
        rw [HEQ.out]
        exact EGB.out⟩
     case measure=>simp [intOf];omega
  ·obtain rfl:j=2:=by omega
   have j2:¬ ((2:Nat):Int) < 2:=by omega
   have hu2:=upT HU5.out HUU.out
   have lx:=aAg (upR hu2 R0.out)
   have HCQ:=hid (HCP0.out wr hu2)
   have ca1:=HA1.out wr (upT HS5.out HUU.out)
   have HUW:=hid (upT HB.out hu2)
   have Q2:=hid (upR hu2 R2.out)
   have HRG:=hid (HRT.out.rg HXO.out)
   have HKX:Hid (k < x.f11.n):=by show k < x.f11.n;rw [EN.out];exact hk
   have HSQ:Hid (sqE x (k:Int)=if prE x=0 then (if aAN (slS x k)=true then 0 else 2) else prE x):=by
    show sqE x (k:Int)=_
    unfold sqE
    rw [HRB.out,if_pos ⟨rfl,by rw [EN.out];omega⟩]
    rfl
   have HSI:Hid (s.f0.f0.f1=(k:Int)):=by show s.f0.f0.f1=_;rw [EA.out];exact EQ.out
   have z:=aBg
   clear hu2 HCP0 HDO0 HRH0 HRO0 HQU0 HGO HLK0 HSL0 II
   go_upto_region 27 with (go_at_call 5;refine HCQ.out.mono ?_;rintro e' w2 ⟨Y,rfl,hsim,hcd,hb2⟩;have sv:=aBK w2 aAn Y;have HSM:=hid hsim;have HCD:=hid hcd;have HB2:=hid hb2;clear hsim hcd hb2)
   obtain ⟨V0,hV⟩:∃ V,w2.alloc (.cells (cel (aA0 Y)) 49)=V:=⟨_,rfl⟩
   have hbf:=BF.make HB2.out HCD.out hV
   have hbk:BK wr w2.heap.size V0 Y:=⟨Kept.ofBelow hbf.bel,hbf.row,hbf.cpd⟩
   rw [hV]
   have hy:wr.heap.size≤w2.heap.size:=HB2.out.size
   obtain ⟨y,ey⟩:∃ y,w2.heap.size=y:=⟨_,rfl⟩
   rw [ey] at hbk hy ⊢
   have hrY:=HRG.out.sim HSM.out
   have hkY:k < Y.f11.n:=by rw [HSM.out.l11];exact HKX.out
   have hca:=aGa Y k y wr V0 hbk hrY hkY (HTC.out.below HUW.out) (by have:=HTC.out.1;have:=HUW.out.size;omega)
   have ca2:=HA1.out V0 (upT HS5.out (upT HUU.out hbf.bel))
   have HCA:=hid hca
   have HY:=hid hy
   clear hbf hbk hV ey sv HCD HB2 HCQ lx hca hrY hkY hy ca1
   go_upto_region 28 with (go_at_call 28;refine HCA.out.mono ?_;rintro e' w3 ⟨rfl,hb3⟩)
   have ly:=aAg hb3.row
   have hrY:=HRG.out.sim HSM.out
   have hkY:k < Y.f11.n:=by rw [HSM.out.l11];exact HKX.out
   have hpe:slE Y k=prE x:=((aOy hrY.ok hrY.sl k).2).trans (aKW HSM.out)
   rw [hpe]
   have hdn:=aL8 (slS Y k) (prE x) w3 (hrY.s k hkY).ok hb3.inW
   have hqE:dnE (slS Y k) (prE x)=sqE x (k:Int):=by rw [HSQ.out,←aFB (aGj k HSM.out)];rfl
   have hfS:∀ V b,V.heap[b]?=some (.cells (cel (aA0 aAn)) 49)→Below w3.heap.size w3 V→Res w.heap.size (V.setRow b (cel (aA0 (dnS (slS Y k) (prE x))))) (sqS x (k:Int)) (dnS (slS Y k) (prE x)):=fun V b r h=>by
    unfold dnS sqS
    rw [hqE]
    by_cases hz:sqE x (k:Int)=0
    ·rw [if_pos hz,if_pos hz]
     exact ((hb3.below h).give r _).to HUW.out.size (aGj k HSM.out)
    ·rw [if_neg hz,if_neg hz]
     exact aMl _ _
   rw [hqE] at hdn
   have r13:=hb3.old Q2.out (by have:=HY.out;have:=aAe Q2.out;omega)
   have ho3:=aA9 HO.out hb3.kep (fun e=>by have:=(HO.out.lt y e).2;have:=HY.out;omega)
   have HU3:=hid ((HUW.out).trans (hb3.kep.below (B:=w.heap.size) (by have:=HUW.out.size;have:=HY.out;omega) HUW.out.size))
   obtain ⟨D,eD⟩:∃ d,dnS (slS Y k) (prE x)=d:=⟨_,rfl⟩
   rw [eD] at hdn
   simp only [eD] at hfS
   obtain ⟨PE,ePE⟩:∃ d,prE x=d:=⟨_,rfl⟩
   rw [ePE] at hdn ⊢
   obtain ⟨SY,eSY⟩:∃ d,slS Y k=d:=⟨_,rfl⟩
   rw [eSY] at hdn ly
   have HDN:=hid hdn
   have HFS:=hid hfS
   have R13:=hid r13
   have HO3:=hid ho3
   clear hdn hfS r13 ho3 hb3 hqE hpe eD ePE eSY hrY hkY HCA HSM HRG HSQ Q2 ca2
   go_upto_region 29 with (go_at_call 29;refine HDN.out.mono ?_;rintro e' w4 ⟨rfl,hb4⟩;have sv:=aBK w4 aAn D)
   obtain ⟨V9,y20,hV9,ey20,r20,hd9,_⟩:=aD1 hb4 (.cells (cel (aA0 D)) 49)
   rw [hV9,ey20]
   have lz:=aAg r20
   have q2:=upR (upT hb4 hd9) R13.out
   have s1:=aAA q2 D
   have HQ2:=hid q2
   have HU9:=hid (upT HU3.out (upT hb4 hd9))
   have HO9:=hid (ownsRow_below HO3.out (upT hb4 hd9))
   have HRF:=hid (HFS.out V9 _ q2 (upT hb4 hd9))
   have HK9:Hid (Kept (w.heap.size+2) V9 (V9.setRow (w.heap.size+2) (cel (aA0 D)))):=(Kept.refl _ _).setRow _
   clear hV9 ey20 r20 hd9 hb4 q2 sv ly HDN HFS R13 HO3 HU3
   go_wp2
   have he:sqE x (k:Int)=sqE x s.f0.f0.f1:=by rw [HSI.out]
   have hrf:=HRF.out
   rw [show sqS x (k:Int)=sqS x s.f0.f0.f1 by rw [HSI.out]] at hrf
   rw [he]
   exact aBu 6 7 8 (w.heap.size+2) D 49 (.slice aq 2 cq) (.int .i64 (sqE x s.f0.f0.f1)) rfl rfl rfl rfl rfl (aA4 HQ2.out) (aOz HP0.out HG.out hrf (aCD (aA9 HO9.out HK9.out (aAx HO9.out HQ2.out (by decide)))) ((aDC HO9.out).mono (upT HB.out HU5.out).size) (aA6 HU9.out (by omega) _))
end Go.Proofs.YtdjplhibmomajaaGreatDoor
