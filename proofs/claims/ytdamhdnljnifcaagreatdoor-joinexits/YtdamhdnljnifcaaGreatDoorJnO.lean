/- A part. -/
import Derived.Test.YtdamhdnljnifcaaGreatDoorJnF
import Derived.Test.YtdamhdnljnifcaaGreatDoorQN
import Derived.Test.YtdamhdnljnifcaaGreatDoorQQ
import Derived.Test.YtdamhdnljnifcaaGreatDoorSgB
import Derived.Test.YtdamhdnljnifcaaGreatDoorQR
import Derived.Test.YtdamhdnljnifcaaGreatDoorHdC
import Derived.Test.YtdamhdnljnifcaaGreatDoorStY
import Derived.Test.YtdamhdnljnifcaaGreatDoorQH
import Derived.Test.YtdamhdnljnifcaaGreatDoorQT
import Derived.BigRegion
namespace Go.Proofs.YtdamhdnljnifcaaGreatDoor
open Go.RowKit
set_option linter.unusedVariables false
set_option linter.unusedSimpArgs false
set_option maxRecDepth 20000
theorem va_key {w:World} {g:Nat} {t:TypeId} {v:VValidator} (h:w.heap[g]?=some (.cells (cel (sValidator v)) t)):(lvKy ⟨g,0,none⟩).run Tryz.prog w=.ok (.agg (vs .u8 48 v.f0)) w:=by
 have h1:=rangeX (a:=[]) (b:=[]) h (celL (sValidator v)) (by rw [List.append_nil];rfl)
 exact lvKy_mid fun j hj=>val_key h1 j hj
attribute [local go_sem ↓] lvState_eq svState_eq bdState_eq lv24_eq sv24_eq lvExit_eq lvSg_eq lvKy_eq bsK_eq bs22_eq lvValidator_eq svValidator_eq ixValidator_eq
set_option maxHeartbeats 16000000 in
theorem rexit_any (x : VState) (s : VSignedExit) (a : Option Addr) (n cap : Nat) (f : Nat → Int) (w : World) (hx : OkState x) (hw : InW w x) (hn : NilW x) (hs : OkSignedExit s) (hr : Rts w a n cap f) (hnn : n ≤ 9223372036854775807) (hC : Tab w 1 64 KW) :
    Calls Tryz.prog 13 #[.agg (cel (sState x)),.agg (cel (sSignedExit s)),.slice a n cap] w (ExA x s f n w):=by
 obtain ⟨W0,hW0⟩:∃ W,((w.alloc (.cells (cel (sState x)) 49)).alloc (.cells (cel (sSignedExit s)) 71)).alloc (.cells (cel (sState oState)) 49)=W:=⟨_,rfl⟩
 have r0:W0.heap[w.heap.size]?=some (.cells (cel (sState x)) 49):=by rw [←hW0];exact (heap_old (by simp<;>omega)).trans ((heap_old (by simp)).trans (heap_new rfl))
 have r1:W0.heap[w.heap.size+1]?=some (.cells (cel (sSignedExit s)) 71):=by rw [←hW0];exact (heap_old (by simp)).trans (heap_new (by simp))
 have r2:W0.heap[w.heap.size+2]?=some (.cells (cel (sState oState)) 49):=by rw [←hW0];exact heap_new (by simp)
 have hB0:Up w W0:=by rw [←hW0];exact (((Below.refl _ _).alloc (Nat.le_refl _) _).alloc (by simp) _).alloc (by simp<;>omega) _
 have hri:=rright_any x W0 hx.r' (hw.below hB0).r' ⟨hx.o10.1,hx.o4.1.1,hx.o18.1.1,hx.o19.1.1,hx.o20.1.1⟩
 have lx:=lvState_run r0
 have z:=zeroState
 have bz:=bdState_0
 have HB:=hid hB0
 have HW:=hid hW0
 have R0:=hid r0
 have R1:=hid r1
 have R2:=hid r2
 unfold ExA
 cases hR:rightB x
 ·rw [hR] at hri
  have HRI:=hid hri
  have eP:exP x s.f0=1:=by unfold exP;rw [hR];rfl
  have eK:exK x s=0:=by unfold exK;rw [eP];rfl
  have eE:exE x s f n=1:=by unfold exE;rw [eP];rfl
  have eS:exS x s f n=oState:=by unfold exS;rw [eE];rfl
  rw [eK,eE,eS]
  clear hri hB0 hW0 r0 r1 r2 hx hw hn hs hr hnn hC eP eK eE eS
  go_enter Tryz.func13,Tryz.ntmps13
  go_upto_region 1 with fail
  rw [HW.out]
  clear HW z
  go_wp2_with (go_at_call 21;refine HRI.out.mono ?_;rintro e' w1 ⟨rfl,hu⟩;have s1:=svState_run (upR hu R2.out) oState)
  exact retState3 6 7 8 (w.heap.size+2) oState 49 (.slice none 0 0) (.int .i64 1) rfl rfl rfl rfl rfl (setRow_at (upR hu R2.out)) ⟨oState,none,0,rfl,resO _ _,.inl ⟨rfl,rfl,rfl⟩,.inl rfl,below_row (upT HB.out hu) (by omega) _⟩
 ·rw [hR] at hri
  have HRI:=hid hri
  have x20:=hx.o2.1
  have x2b:x.f2 < 1099511627776:=(rightB_out hR).c7
  have hnb:x.f11.n≤65536:=(right_small hR).2.2.1
  have hep:=fun (W:World)=>repoch_any x W x20 x2b
  have i0:=hs.1.2.1
  have i1:=hs.1.2.2
  have e0:=hs.1.1.1
  have nw:IntKind.u64.wrap (x.f11.n:Int)=(x.f11.n:Int):=by rw [IntKind.wrap_u64];omega
  have hlx:∀ W,Up W0 W→(lvState ⟨w.heap.size,0,none⟩).run Tryz.prog W=.ok (.agg (cel (sState x))) W:=fun W h=>lvState_run (upR h r0)
  have hcw:∀ W,Up W0 W→W.cell? ⟨w.heap.size+1,1,none⟩=some (.int .u64 s.f0.f1):=fun W h=>se_who (upR h r1)
  have hce:∀ W,Up W0 W→W.cell? ⟨w.heap.size+1,0,none⟩=some (.int .u64 s.f0.f0):=fun W h=>seg_nu (upR h r1) 0 s.f0.f0 rfl 0 rfl
  obtain ⟨P0,eP0⟩:∃ p,exP x s.f0=p:=⟨_,rfl⟩
  obtain ⟨KK,eKK⟩:∃ p,exK x s=p:=⟨_,rfl⟩
  obtain ⟨EE,eEE⟩:∃ p,exE x s f n=p:=⟨_,rfl⟩
  obtain ⟨SS,eSS⟩:∃ p,exS x s f n=p:=⟨_,rfl⟩
  have hne:¬ P0=0→KK=0∧EE=P0∧SS=oState:=fun h=>by
   have hE:exE x s f n=P0:=by unfold exE;rw [eP0,if_neg h]
   refine ⟨by rw [←eKK];unfold exK;rw [eP0,if_neg h],eEE.symm.trans hE,?_⟩
   rw [←eSS]
   unfold exS
   rw [hE,if_neg h]
  have hze:P0=0→KK=1∧EE=(if gdB (exQ x s) f n=true then lqE x s.f0.f1 else 25)∧SS=(if gdB (exQ x s) f n=true then lqS x s.f0.f1 else oState):=fun h=>by
   have hE:exE x s f n=if gdB (exQ x s) f n=true then lqE x s.f0.f1 else 25:=by unfold exE;rw [eP0,if_pos h]
   refine ⟨by rw [←eKK];unfold exK;rw [eP0,if_pos h],eEE.symm.trans hE,?_⟩
   rw [←eSS]
   unfold exS
   rw [hE]
   by_cases hg:gdB (exQ x s) f n=true
   ·rw [if_pos hg,if_pos hg];unfold lqS;split<;>rfl
   ·rw [if_neg hg,if_neg hg];rfl
  rw [eKK,eEE,eSS]
  have HNE:=hid hne
  have HZE:=hid hze
  have HEP:=hid hep
  have HLX:=hid hlx
  have HCW:=hid hcw
  have HCE:=hid hce
  obtain ⟨EP,eEP⟩:∃ e,x.f2 / 4=e:=⟨_,rfl⟩
  have ep61:EP < 1099511627776:=by omega
  rw [eEP] at HEP
  have hP:P0=exC x s.f0:=by rw [←eP0];unfold exP;rw [hR,if_pos rfl]
  unfold exC at hP
  rw [eEP] at hP
  clear hri hB0 hW0 hne hze hep hlx hcw hce eP0 eKK eEE eSS
  by_cases hi:s.f0.f1 < (x.f11.n:Int)
  ·obtain ⟨k,ek⟩:∃ k:Nat,s.f0.f1=(k:Int):=⟨s.f0.f1.toNat,by omega⟩
   have hk:k < x.f11.n:=by omega
   rw [if_pos hi,ek,Int.toNat_natCast] at hP
   rcases (hw.below HB.out).i11 with h0 | ⟨b,off,ea,hbl,hc⟩
   ·omega
   have hva:∀ W,Up W0 W→(lvValidator ⟨b,off+86*k,none⟩).run Tryz.prog W=.ok (.agg (cel (sValidator (x.f11.z k)))) W:=fun W h=>lvValidator_at (rangeAt_below (hc k hk) hbl h)
   have hix:=fun W=>ixValidator_u W b off x.f11.n x.f11.c k hk
   have hc11:∀ W,Up W0 W→W.cell? ⟨w.heap.size,721,none⟩=some (.slice (some ⟨b,off,none⟩) x.f11.n x.f11.c):=fun W h=>by
    have:=cS11 (upR h r0)
    rw [ea] at this
    exact this
   have hov:=hx.o11 k hk
   have hac:=fun (W:World)=>ractive_any (x.f11.z k) EP W
   have hrx:=fun (W:World) (h:Up w W)=>rrootExit_any s.f0 W hs.1 (hC.below h)
   have hdo:=fun (W:World) (h:Up w W)=>rDomain_any x 4 s.f0.f0 W hx (hC.below h)
   have hro:=fun (W:World) (h:Up w W)=>rRoot_any (hExit s.f0) (domV x 4 s.f0.f0) W (fun j hj=>hExit_bd hs.1 j hj) (fun j _=>domB ..) (hC.below h)
   have eQ:exQ x s=qsV (x.f11.z k).f0 1 (tw (hExit s.f0) (domV x 4 s.f0.f0)) s.f1:=by unfold exQ;rw [ek];rfl
   have hqu:∀ (W:World) y,Up w W→W.heap[y]?=some (.cells (vs .u8 48 (x.f11.z k).f0) 44)→Calls Tryz.prog 25 #[.slice (some ⟨y,0,none⟩) 1 1,.agg (vs .u8 32 (tw (hExit s.f0) (domV x 4 s.f0.f0))),.agg (vs .u8 96 s.f1)] W fun e' w'=>e'=.returned (.agg (vs .u8 32 (exQ x s)))∧Below W.heap.size W w':=fun W y h hy=>by
    rw [eQ]
    exact rQuestion_any (some ⟨y,0,none⟩) 1 1 (x.f11.z k).f0 _ s.f1 W (.inr (.inr ⟨y,0,rfl,by omega,some_ltK hy,fun j hj=>by rw [Nat.zero_add];exact row_int hy j (by omega)⟩)) (fun j hj=>hov.1 j (by omega)) (fun j _=>twB ..) hs.2 (by omega) (hC.below h)
   have hgo:=fun (W:World) (h:Up w W)=>rGood_any (exQ x s) f a n cap W (hr.below h) hnn
   have hle:∀ W,Up w W→Calls Tryz.prog 40 #[.agg (cel (sState x)),.int .u64 s.f0.f1] W fun e' w'=>∃ X,e'=.returned (.tuple #[.agg (cel (sState X)),.int .i64 (lqE x s.f0.f1)])∧Res W.heap.size w' (lqS x s.f0.f1) X∧Below W.heap.size W w':=fun W h=>rleave_any x s.f0.f1 W hx (hw.below h) hn i0
   have hls:∀ W,Up W0 W→(lvSg ⟨w.heap.size+1,2,none⟩).run Tryz.prog W=.ok (.agg (vs .u8 96 s.f1)) W:=fun W h=>se_sig (upR h r1)
   have hlh:∀ W,Up W0 W→(lvExit ⟨w.heap.size+1,0,none⟩).run Tryz.prog W=.ok (.agg (cel (sExit s.f0))) W:=fun W h=>se_head (upR h r1)
   rw [ek] at HCW hle
   have hze:=HZE.out
   rw [ek] at hze
   obtain ⟨V,eV⟩:∃ v,x.f11.z k=v:=⟨_,rfl⟩
   rw [eV] at hP hov hqu
   simp only [eV] at hva hac
   obtain ⟨P,eP⟩:∃ p,off+86*k=p:=⟨_,rfl⟩
   rw [eP] at hva
   simp only [eP] at hix
   have f5b:=hov.2.2.2.2.2.1
   obtain ⟨QV,eQV⟩:∃ q,exQ x s=q:=⟨_,rfl⟩
   rw [eQV] at hqu hze ⊢
   simp only [eQV] at hgo
   obtain ⟨RT,eRT⟩:∃ q,tw (hExit s.f0) (domV x 4 s.f0.f0)=q:=⟨_,rfl⟩
   rw [eRT] at hqu
   simp only [eRT] at hro
   obtain ⟨DM,eDM⟩:∃ q,domV x 4 s.f0.f0=q:=⟨_,rfl⟩
   simp only [eDM] at hdo hro
   obtain ⟨HX,eHX⟩:∃ q,hExit s.f0=q:=⟨_,rfl⟩
   simp only [eHX] at hrx hro
   obtain ⟨KF,eKF⟩:∃ q,V.f0=q:=⟨_,rfl⟩
   rw [eKF] at hqu
   obtain ⟨GB,eGB⟩:∃ g,gdB QV f n=g:=⟨_,rfl⟩
   rw [eGB] at hze
   simp only [eGB] at hgo
   obtain ⟨QE,eQE⟩:∃ g,lqE x (k:Int)=g:=⟨_,rfl⟩
   obtain ⟨QS,eQS⟩:∃ g,lqS x (k:Int)=g:=⟨_,rfl⟩
   rw [eQE,eQS] at hze hle
   obtain ⟨p0,ep0⟩:∃ p,s.f0.f0=p:=⟨_,rfl⟩
   rw [ep0] at HCE hP e0
   simp only [ep0] at hdo
   replace HZE:=hid hze
   have HVA:=hid hva
   have HIX:=hid hix
   have HC11:=hid hc11
   have HAC:=hid hac
   have HRX0:=hid hrx
   have HDO0:=hid hdo
   have HRO0:=hid hro
   have HQU0:=hid hqu
   have HGO0:=hid hgo
   have HLE0:=hid hle
   have HLS0:=hid hls
   have HLH0:=hid hlh
   have HPP:=hid hP
   have HKF:=hid eKF
   have k1:¬ (x.f11.n:Int)≤(k:Int):=by omega
   clear hze hva hix hc11 hac hrx hdo hro hqu hgo hle hls hlh hP hw hx hn hs hr hnn hC r0 r1 r2 hc hbl eQ ek eV eP eQV eRT eDM eHX eKF eGB eQE eQS ep0 ea hi i0 i1 x20 x2b hR eEP
   generalize x.f11.n=N11 at *
   generalize x.f11.c=C11 at *
   go_enter Tryz.func13,Tryz.ntmps13
   go_upto_region 1 with fail
   rw [HW.out]
   clear HW
   go_upto_region 3 with (go_at_call 21;refine HRI.out.mono ?_;rintro e' w1 ⟨rfl,hb1⟩;have lx1:=HLX.out w1 hb1)
   have HE1:=hid (HEP.out w1)
   have HU1:=hid hb1
   clear hb1 HRI HEP lx
   go_upto_region 4 with (go_at_call 36;refine HE1.out.mono ?_;rintro e' w2 ⟨rfl,hb2⟩)
   have hu2:=upT HU1.out hb2
   have cw:=HCW.out w2 hu2
   have c11:=HC11.out w2 hu2
   have ix:=HIX.out
   have va:=HVA.out w2 hu2
   have HU2:=hid hu2
   have HA2:=hid (HAC.out w2)
   clear hb2 hu2 HU1 HE1 lx1
   cases hA:actB V EP
   ·rw [hA] at HA2
    obtain rfl:P0=27:=by rw [HPP.out,hA];rfl
    obtain ⟨rfl,rfl,rfl⟩:=HNE.out (by decide)
    clear HNE HZE HPP HVA HIX HC11 HAC HRX0 HDO0 HRO0 HQU0 HGO0 HLE0 HLS0 HLH0 HKF HCW HCE HLX
    go_wp2_with (go_at_call 37;refine HA2.out.mono ?_;rintro e' w3 ⟨rfl,hb3⟩;have s3:=svState_run (upR (upT HU2.out hb3) R2.out) oState)
    exact retState3 6 7 8 (w.heap.size+2) oState 49 (.slice none 0 0) (.int .i64 27) rfl rfl rfl rfl rfl (setRow_at (upR (upT HU2.out hb3) R2.out)) ⟨oState,none,0,rfl,resO _ _,.inl ⟨rfl,rfl,rfl⟩,.inl rfl,below_row (upT HB.out (upT HU2.out hb3)) (by omega) _⟩
   ·rw [hA] at HA2
    have hp2:=HPP.out
    rw [if_pos hA] at hp2
    have HP2:=hid hp2
    clear HPP hp2
    have hact:V.f5≤EP∧EP < V.f6:=by
     unfold actB at hA
     simp only [Bool.and_eq_true,decide_eq_true_eq] at hA
     exact hA
    clear hA
    go_upto_region 7 with (go_at_call 37;refine HA2.out.mono ?_;rintro e' w3 ⟨rfl,hb3⟩)
    have hu3:=upT HU2.out hb3
    have c11:=HC11.out w3 hu3
    have va:=HVA.out w3 hu3
    have zv:=zeroValidator
    have svv:=svValidator_newv w3 oValidator V
    go_upto_region 8 with fail
    obtain ⟨W4,y4,hW4,ey4,r4,hd4,b4⟩:=upN2 hu3 (.cells (cel (sValidator V)) 75)
    rw [hW4,ey4]
    have hu4:=upT hu3 hd4
    have v6:=seg_nu r4 6 V.f6 rfl 84 rfl
    have v5:=seg_nu r4 5 V.f5 rfl 83 rfl
    have c0:=HCE.out W4 hu4
    have HU4:=hid hu4
    have R4:=hid r4
    have q2:=upR hu4 R2.out
    have Q2:=hid q2
    have HB4:=hid (upT HB.out hu4)
    clear hb3 hu3 HU2 HA2 hd4 hu4 r4 b4 q2 HAC c11 va ix svv zv hW4 ey4 cw
    have kk:IntKind.u64.wrap (V.f5+2)=V.f5+2:=by rw [IntKind.wrap_u64];omega
    by_cases h6:V.f6=far
    ·unfold far at h6
     rw [h6] at v6
     have hp3:=HP2.out
     rw [if_pos (show V.f6=far from h6)] at hp3
     by_cases h0:p0≤EP
     ·rw [if_pos h0] at hp3
      have h0':¬ EP < p0:=by omega
      by_cases h5:V.f5+2≤EP
      ·rw [if_pos h5] at hp3
       subst hp3
       have h5':¬ EP < V.f5+2:=by omega
       obtain ⟨rfl,hEE,hSS⟩:=HZE.out rfl
       have lh4:=HLH0.out W4 HU4.out
       have HR4:=hid (HRX0.out W4 HB4.out)
       have zr:=zero_root
       have HEE:=hid hEE
       have HSS:=hid hSS
       clear hEE hSS HZE HNE HP2 HLH0 HRX0
       go_upto_region 15 with (go_at_call 38;refine HR4.out.mono ?_;rintro e' w5 ⟨rfl,hb5⟩;have sv:=sv24_newv w5 (fun _=>0) HX)
       obtain ⟨W5,y5,hW5,ey5,r5,hd5,b5⟩:=upN2 hb5 (.cells (vs .u8 32 HX) 24)
       rw [hW5,ey5]
       have h45:=upT hb5 hd5
       have HU5:=hid (upT HU4.out h45)
       have HB5:=hid (upT HB4.out h45)
       have HLK:=hid (show ∀ W,Up W5 W→(lvKy ⟨y4,0,none⟩).run Tryz.prog W=.ok (.agg (vs .u8 48 KF)) W from fun W h=>by rw [←HKF.out];exact va_key (upR (upT h45 h) R4.out))
       have HLE:=hid (show ∀ W,Up W5 W→(lv24 ⟨y5,0,none⟩).run Tryz.prog W=.ok (.agg (vs .u8 32 HX)) W from fun W h=>lv24_run (upR h r5))
       have HLXx:=hid (fun W (h:Up W5 W)=>HLX.out W (upT HU5.out h))
       have HLS:=hid (fun W (h:Up W5 W)=>HLS0.out W (upT HU5.out h))
       have HCEx:=hid (fun W (h:Up W5 W)=>HCE.out W (upT HU5.out h))
       have HDO:=hid (fun W (h:Up W5 W)=>HDO0.out W (upT HB5.out h))
       have HRO:=hid (fun W (h:Up W5 W)=>HRO0.out W (upT HB5.out h))
       have HQU:=hid (fun W y (h:Up W5 W) hy=>HQU0.out W y (upT HB5.out h) hy)
       have HGO:=hid (fun W (h:Up W5 W)=>HGO0.out W (upT HB5.out h))
       have HLE5:=hid (fun W (h:Up W5 W)=>HLE0.out W (upT HB5.out h))
       have Q25:=hid (upR h45 Q2.out)
       clear hW5 ey5 r5 hd5 b5 hb5 h45 sv zr HR4 HLX HCE HLS0 HDO0 HRO0 HQU0 HGO0 HLE0 HU4 HB4 R4 Q2 v6 v5 c0 lh4 HVA HC11 HIX HCW HKF
       go_cut [14] from 70 (fun u wx=>∃ y,u=.pointer (some ⟨y,0,none⟩)∧wx.heap[y]?=some (.cells (vs .u8 32 QV) 24)∧Up W5 wx)
       case first =>
        refine wp_region_noPanic ?_
        refine wp_region_held_drew (S:=fun W=>Up W5 W) (by kernel_rfl) ((Below.refl _ _).drew) (fun hHeld=>?_)
        generalize W5.drew=wd at hHeld ⊢
        refine tk 0 (v:=?v701) ?y701 hHeld ?r701
        case y701=>intro w hSw;go_simp;try with_reducible rfl
        refine tk 1 (v:=?v702) ?y702 hHeld ?r702
        case y702=>intro w hSw;have ld0:=HLK.out w hSw;go_simp;try with_reducible rfl
        refine tk 3 (v:=?v703) ?y703 hHeld ?r703
        case y703=>intro w hSw;have ld0:=HLE.out w hSw;go_simp;try with_reducible rfl
        refine tk 4 (v:=?v704) ?y704 hHeld ?r704
        case y704=>intro w hSw;have ld0:=HLXx.out w hSw;go_simp;try with_reducible rfl
        refine tk 5 (v:=?v705) ?y705 hHeld ?r705
        case y705=>intro w hSw;go_simp;try with_reducible rfl
        refine tk 6 (v:=?v706) ?y706 hHeld ?r706
        case y706=>intro w hSw;go_simp;try with_reducible rfl
        refine tk 7 (v:=?v707) ?y707 hHeld ?r707
        case y707=>intro w hSw;have ld0:=HCEx.out w hSw;go_simp;try with_reducible rfl
        refine tk 10 (v:=?v708) ?y708 hHeld ?r708
        case y708=>intro w hSw;go_simp;try with_reducible rfl
        refine tk 11 (v:=?v709) ?y709 hHeld ?r709
        case y709=>intro w hSw;have ld0:=HLS.out w hSw;go_simp;try with_reducible rfl
        try simp only [Act.put,z_1,z_2,z_3,z_4,z_5,z_6,z_7]
        refine sh2 (fuel':=?f307) (listed':=?l307) (act:=?a307) (fun (y6:Nat) (y15:Nat) V=>Up W5 V∧V.heap[y6]?=some (.cells (vs .u8 48 KF) 44)∧W5.heap.size≤y6∧V.heap[y15]?=some (.cells (vs .u8 32 fun _=>0) 24)∧W5.heap.size≤y15) (fun K307=>?m307) ?t307
        case' m307=>skip
        refine sh2 (fuel':=?f306) (listed':=?l306) (act:=?a306) (fun (y6:Nat) (y15:Nat) V=>Up W5 V∧V.heap[y6]?=some (.cells (vs .u8 48 KF) 44)∧W5.heap.size≤y6∧V.heap[y15]?=some (.cells (vs .u8 32 fun _=>0) 24)∧W5.heap.size≤y15) (fun K306=>?m306) ?t306
        case' m306=>skip
        refine sh1 (fuel':=?f305) (listed':=?l305) (act:=?a305) (fun (y6:Nat) V=>Up W5 V∧V.heap[y6]?=some (.cells (vs .u8 48 KF) 44)∧W5.heap.size≤y6) (fun K305=>?m305) ?t305
        case' m305=>skip
        refine sh1 (fuel':=?f304) (listed':=?l304) (act:=?a304) (fun (y15:Nat) V=>Up W5 V∧V.heap[y15]?=some (.cells (vs .u8 32 fun _=>0) 24)∧W5.heap.size≤y15) (fun K304=>?m304) ?t304
        case' m304=>skip
        refine sh2 (fuel':=?f303) (listed':=?l303) (act:=?a303) (fun (y6:Nat) (y15:Nat) V=>Up W5 V∧V.heap[y6]?=some (.cells (vs .u8 48 KF) 44)∧W5.heap.size≤y6∧V.heap[y15]?=some (.cells (vs .u8 32 fun _=>0) 24)∧W5.heap.size≤y15) (fun K303=>?m303) ?t303
        case' m303=>skip
        refine sh1 (fuel':=?f302) (listed':=?l302) (act:=?a302) (fun (y6:Nat) V=>Up W5 V∧V.heap[y6]?=some (.cells (vs .u8 48 KF) 44)∧W5.heap.size≤y6) (fun K302=>?m302) ?t302
        case' m302=>skip
        refine sh2 (fuel':=?f301) (listed':=?l301) (act:=?a301) (fun (y6:Nat) (y15:Nat) V=>Up W5 V∧V.heap[y6]?=some (.cells (vs .u8 48 KF) 44)∧W5.heap.size≤y6∧V.heap[y15]?=some (.cells (vs .u8 32 fun _=>0) 24)∧W5.heap.size≤y15) (fun K301=>?m301) ?t301
        case' m301=>skip
        refine sh1 (fuel':=?f300) (listed':=?l300) (act:=?a300) (fun (y15:Nat) V=>Up W5 V∧V.heap[y15]?=some (.cells (vs .u8 32 fun _=>0) 24)∧W5.heap.size≤y15) (fun K300=>?m300) ?t300
        case' m300=>skip
        refine rd3 2 8 13 (fun K hK=>?_) (fun K hK=>?_) (fun K hK=>?_)
        ·have zr:=bsK_1 wd KF
         go_simp
         obtain ⟨x501,y6,hx,ey,r6,hd501,b6⟩:=upN2 hHeld (.cells (vs .u8 48 KF) 44)
         rw [hx,ey]
         have l501:=Nat.le_of_eq ey
         clear hx ey zr
         have hc501:=upT hHeld hd501
         refine hK.out _ _ hc501 (fun hHeld=>?_)
         clear hK K
         try simp only [Act.put,z_1,z_2,z_3,z_4,z_5,z_6,z_7]
         refine rd2 8 13 (fun K hK=>?_) (fun K hK=>?_)
         ·go_simp
          refine (HDO.out _ (hc501)).mono ?_
          rintro e' x502 ⟨rfl,hd502⟩
          dsimp only
          have hc502:=upT hc501 hd502
          replace r6:=upR hd502 r6
          refine hK.out _ _ hc502 (fun hHeld=>?_)
          clear hK K
          try simp only [Act.put,z_1,z_2,z_3,z_4,z_5,z_6,z_7]
          exact K302.out y6 x502 ⟨hc502,r6,b6⟩
         ·have zr:=zero_root
          go_simp
          obtain ⟨x503,y15,hx,ey,r15,hd503,b15⟩:=upN2 hc501 (.cells (vs .u8 32 fun _=>0) 24)
          rw [hx,ey]
          have l503:=Nat.le_of_eq ey
          clear hx ey zr
          have hc503:=upT hc501 hd503
          replace r6:=upR hd503 r6
          refine hK.out _ _ hc503 (fun hHeld=>?_)
          clear hK K
          try simp only [Act.put,z_1,z_2,z_3,z_4,z_5,z_6,z_7]
          exact K301.out y6 y15 x503 ⟨hc503,r6,b6,r15,b15⟩
        ·go_simp
         refine (HDO.out _ (hHeld)).mono ?_
         rintro e' x504 ⟨rfl,hd504⟩
         dsimp only
         have hc504:=upT hHeld hd504
         refine hK.out _ _ hc504 (fun hHeld=>?_)
         clear hK K
         try simp only [Act.put,z_1,z_2,z_3,z_4,z_5,z_6,z_7]
         refine rd3 2 9 13 (fun K hK=>?_) (fun K hK=>?_) (fun K hK=>?_)
         ·have zr:=bsK_1 x504 KF
          go_simp
          obtain ⟨x505,y6,hx,ey,r6,hd505,b6⟩:=upN2 hc504 (.cells (vs .u8 48 KF) 44)
          rw [hx,ey]
          have l505:=Nat.le_of_eq ey
          clear hx ey zr
          have hc505:=upT hc504 hd505
          refine hK.out _ _ hc505 (fun hHeld=>?_)
          clear hK K
          try simp only [Act.put,z_1,z_2,z_3,z_4,z_5,z_6,z_7]
          exact K302.out y6 x505 ⟨hc505,r6,b6⟩
         ·go_simp
          refine (HRO.out _ (hc504)).mono ?_
          rintro e' x506 ⟨rfl,hd506⟩
          dsimp only
          have hc506:=upT hc504 hd506
          refine hK.out _ _ hc506 (fun hHeld=>?_)
          clear hK K
          try simp only [Act.put,z_1,z_2,z_3,z_4,z_5,z_6,z_7]
          refine rd2 2 13 (fun K hK=>?_) (fun K hK=>?_)
          ·have zr:=bsK_1 x506 KF
           go_simp
           obtain ⟨x507,y6,hx,ey,r6,hd507,b6⟩:=upN2 hc506 (.cells (vs .u8 48 KF) 44)
           rw [hx,ey]
           have l507:=Nat.le_of_eq ey
           clear hx ey zr
           have hc507:=upT hc506 hd507
           refine hK.out _ _ hc507 (fun hHeld=>?_)
           clear hK K
           try simp only [Act.put,z_1,z_2,z_3,z_4,z_5,z_6,z_7]
           exact K305.out y6 x507 ⟨hc507,r6,b6⟩
          ·have zr:=zero_root
           go_simp
           obtain ⟨x508,y15,hx,ey,r15,hd508,b15⟩:=upN2 hc506 (.cells (vs .u8 32 fun _=>0) 24)
           rw [hx,ey]
           have l508:=Nat.le_of_eq ey
           clear hx ey zr
           have hc508:=upT hc506 hd508
           refine hK.out _ _ hc508 (fun hHeld=>?_)
           clear hK K
           try simp only [Act.put,z_1,z_2,z_3,z_4,z_5,z_6,z_7]
           exact K304.out y15 x508 ⟨hc508,r15,b15⟩
         ·have zr:=zero_root
          go_simp
          obtain ⟨x509,y15,hx,ey,r15,hd509,b15⟩:=upN2 hc504 (.cells (vs .u8 32 fun _=>0) 24)
          rw [hx,ey]
          have l509:=Nat.le_of_eq ey
          clear hx ey zr
          have hc509:=upT hc504 hd509
          refine hK.out _ _ hc509 (fun hHeld=>?_)
          clear hK K
          try simp only [Act.put,z_1,z_2,z_3,z_4,z_5,z_6,z_7]
          exact K300.out y15 x509 ⟨hc509,r15,b15⟩
        ·have zr:=zero_root
         go_simp
         obtain ⟨x510,y15,hx,ey,r15,hd510,b15⟩:=upN2 hHeld (.cells (vs .u8 32 fun _=>0) 24)
         rw [hx,ey]
         have l510:=Nat.le_of_eq ey
         clear hx ey zr
         have hc510:=upT hHeld hd510
         refine hK.out _ _ hc510 (fun hHeld=>?_)
         clear hK K
         try simp only [Act.put,z_1,z_2,z_3,z_4,z_5,z_6,z_7]
         refine rd2 2 8 (fun K hK=>?_) (fun K hK=>?_)
         ·have zr:=bsK_1 x510 KF
          go_simp
          obtain ⟨x511,y6,hx,ey,r6,hd511,b6⟩:=upN2 hc510 (.cells (vs .u8 48 KF) 44)
          rw [hx,ey]
          have l511:=Nat.le_of_eq ey
          clear hx ey zr
          have hc511:=upT hc510 hd511
          replace r15:=upR hd511 r15
          refine hK.out _ _ hc511 (fun hHeld=>?_)
          clear hK K
          try simp only [Act.put,z_1,z_2,z_3,z_4,z_5,z_6,z_7]
          exact K301.out y6 y15 x511 ⟨hc511,r6,b6,r15,b15⟩
         ·go_simp
          refine (HDO.out _ (hc510)).mono ?_
          rintro e' x512 ⟨rfl,hd512⟩
          dsimp only
          have hc512:=upT hc510 hd512
          replace r15:=upR hd512 r15
          refine hK.out _ _ hc512 (fun hHeld=>?_)
          clear hK K
          try simp only [Act.put,z_1,z_2,z_3,z_4,z_5,z_6,z_7]
          exact K300.out y15 x512 ⟨hc512,r15,b15⟩
        case t300 =>
         rintro y15 V ⟨hB,r15,b15⟩
         have hHeld:=hB
         refine rd2 2 9 (fun K hK=>?_) (fun K hK=>?_)
         ·have zr:=bsK_1 V KF
          go_simp
          obtain ⟨x513,y6,hx,ey,r6,hd513,b6⟩:=upN2 hB (.cells (vs .u8 48 KF) 44)
          rw [hx,ey]
          have l513:=Nat.le_of_eq ey
          clear hx ey zr
          have hc513:=upT hB hd513
          replace r15:=upR hd513 r15
          refine hK.out _ _ hc513 (fun hHeld=>?_)
          clear hK K
          try simp only [Act.put,z_1,z_2,z_3,z_4,z_5,z_6,z_7]
          exact K303.out y6 y15 x513 ⟨hc513,r6,b6,r15,b15⟩
         ·go_simp
          refine (HRO.out _ (hB)).mono ?_
          rintro e' x514 ⟨rfl,hd514⟩
          dsimp only
          have hc514:=upT hB hd514
          replace r15:=upR hd514 r15
          refine hK.out _ _ hc514 (fun hHeld=>?_)
          clear hK K
          try simp only [Act.put,z_1,z_2,z_3,z_4,z_5,z_6,z_7]
          exact K304.out y15 x514 ⟨hc514,r15,b15⟩
        case t301 =>
         rintro y6 y15 V ⟨hB,r6,b6,r15,b15⟩
         have hHeld:=hB
         refine rd1 8 (fun K hK=>?_)
         go_simp
         refine (HDO.out _ (hB)).mono ?_
         rintro e' x515 ⟨rfl,hd515⟩
         dsimp only
         have hc515:=upT hB hd515
         replace r6:=upR hd515 r6
         replace r15:=upR hd515 r15
         refine hK.out _ _ hc515 (fun hHeld=>?_)
         clear hK K
         try simp only [Act.put,z_1,z_2,z_3,z_4,z_5,z_6,z_7]
         exact K303.out y6 y15 x515 ⟨hc515,r6,b6,r15,b15⟩
        case t302 =>
         rintro y6 V ⟨hB,r6,b6⟩
         have hHeld:=hB
         refine rd2 9 13 (fun K hK=>?_) (fun K hK=>?_)
         ·go_simp
          refine (HRO.out _ (hB)).mono ?_
          rintro e' x516 ⟨rfl,hd516⟩
          dsimp only
          have hc516:=upT hB hd516
          replace r6:=upR hd516 r6
          refine hK.out _ _ hc516 (fun hHeld=>?_)
          clear hK K
          try simp only [Act.put,z_1,z_2,z_3,z_4,z_5,z_6,z_7]
          exact K305.out y6 x516 ⟨hc516,r6,b6⟩
         ·have zr:=zero_root
          go_simp
          obtain ⟨x517,y15,hx,ey,r15,hd517,b15⟩:=upN2 hB (.cells (vs .u8 32 fun _=>0) 24)
          rw [hx,ey]
          have l517:=Nat.le_of_eq ey
          clear hx ey zr
          have hc517:=upT hB hd517
          replace r6:=upR hd517 r6
          refine hK.out _ _ hc517 (fun hHeld=>?_)
          clear hK K
          try simp only [Act.put,z_1,z_2,z_3,z_4,z_5,z_6,z_7]
          exact K303.out y6 y15 x517 ⟨hc517,r6,b6,r15,b15⟩
        case t303 =>
         rintro y6 y15 V ⟨hB,r6,b6,r15,b15⟩
         have hHeld:=hB
         refine rd1 9 (fun K hK=>?_)
         go_simp
         refine (HRO.out _ (hB)).mono ?_
         rintro e' x518 ⟨rfl,hd518⟩
         dsimp only
         have hc518:=upT hB hd518
         replace r6:=upR hd518 r6
         replace r15:=upR hd518 r15
         refine hK.out _ _ hc518 (fun hHeld=>?_)
         clear hK K
         try simp only [Act.put,z_1,z_2,z_3,z_4,z_5,z_6,z_7]
         exact K306.out y6 y15 x518 ⟨hc518,r6,b6,r15,b15⟩
        case t304 =>
         rintro y15 V ⟨hB,r15,b15⟩
         have hHeld:=hB
         refine rd1 2 (fun K hK=>?_)
         have zr:=bsK_1 V KF
         go_simp
         obtain ⟨x519,y6,hx,ey,r6,hd519,b6⟩:=upN2 hB (.cells (vs .u8 48 KF) 44)
         rw [hx,ey]
         have l519:=Nat.le_of_eq ey
         clear hx ey zr
         have hc519:=upT hB hd519
         replace r15:=upR hd519 r15
         refine hK.out _ _ hc519 (fun hHeld=>?_)
         clear hK K
         try simp only [Act.put,z_1,z_2,z_3,z_4,z_5,z_6,z_7]
         exact K306.out y6 y15 x519 ⟨hc519,r6,b6,r15,b15⟩
        case t305 =>
         rintro y6 V ⟨hB,r6,b6⟩
         have hHeld:=hB
         refine rd2 12 13 (fun K hK=>?_) (fun K hK=>?_)
         ·go_simp
          refine (HQU.out _ y6 (hB) r6).mono ?_
          rintro e' x520 ⟨rfl,hd520⟩
          dsimp only
          have hc520:=upT hB hd520
          replace r6:=upR hd520 r6
          refine hK.out _ _ hc520 (fun hHeld=>?_)
          clear hK K
          try simp only [Act.put,z_1,z_2,z_3,z_4,z_5,z_6,z_7]
          refine rd1 13 (fun K hK=>?_)
          have zr:=zero_root
          go_simp
          obtain ⟨x521,y15,hx,ey,r15,hd521,b15⟩:=upN2 hc520 (.cells (vs .u8 32 fun _=>0) 24)
          rw [hx,ey]
          have l521:=Nat.le_of_eq ey
          clear hx ey zr
          have hc521:=upT hc520 hd521
          replace r6:=upR hd521 r6
          refine hK.out _ _ hc521 (fun hHeld=>?_)
          clear hK K
          try simp only [Act.put,z_1,z_2,z_3,z_4,z_5,z_6,z_7]
          exact K307.out y6 y15 x521 ⟨hc521,r6,b6,r15,b15⟩
         ·have zr:=zero_root
          go_simp
          obtain ⟨x522,y15,hx,ey,r15,hd522,b15⟩:=upN2 hB (.cells (vs .u8 32 fun _=>0) 24)
          rw [hx,ey]
          have l522:=Nat.le_of_eq ey
          clear hx ey zr
          have hc522:=upT hB hd522
          replace r6:=upR hd522 r6
          refine hK.out _ _ hc522 (fun hHeld=>?_)
          clear hK K
          try simp only [Act.put,z_1,z_2,z_3,z_4,z_5,z_6,z_7]
          exact K306.out y6 y15 x522 ⟨hc522,r6,b6,r15,b15⟩
        case t306 =>
         rintro y6 y15 V ⟨hB,r6,b6,r15,b15⟩
         have hHeld:=hB
         refine rd1 12 (fun K hK=>?_)
         go_simp
         refine (HQU.out _ y6 (hB) r6).mono ?_
         rintro e' x523 ⟨rfl,hd523⟩
         dsimp only
         have hc523:=upT hB hd523
         replace r6:=upR hd523 r6
         replace r15:=upR hd523 r15
         refine hK.out _ _ hc523 (fun hHeld=>?_)
         clear hK K
         try simp only [Act.put,z_1,z_2,z_3,z_4,z_5,z_6,z_7]
         exact K307.out y6 y15 x523 ⟨hc523,r6,b6,r15,b15⟩
        case t307 =>
         rintro y6 y15 V ⟨hB,r6,b6,r15,b15⟩
         have hHeld:=hB
         refine wpAnyH_ready (rs:=[14]) (by kernel_rfl) (by simp) ?_
         refine AllReadyH.cons rfl (fun K hK=>?_) AllReadyH.nil
         have v3:=sv24_run r15 QV
         go_simp
         have hce:Up W5 _:=below_row (hB) b15 (vs .u8 32 QV)
         refine hK.out _ _ hce (fun hHeld=>?_)
         clear hK K
         try simp only [Act.put,z_1,z_2,z_3,z_4,z_5,z_6,z_7]
         refine wpAnyH_done (by kernel_rfl) ?_ _
         refine NoPanic.normal ?_
         go_wp2
         go_meet
         exact ⟨_,rfl,setRow_at r15,hce⟩
       case rest =>
        obtain ⟨y12,rfl,rq,hcw⟩:=hcut
        have lq:=lv24_run rq
        have RQ0:=hid rq
        have HGC:=hid (HGO.out wc hcw)
        have HUC:=hid hcw
        have hee:=HEE.out
        have hss:=HSS.out
        clear rq hcw HLK HLE HCEx HDO HRO HQU HGO HLS HEE HSS
        cases GB
        ·rw [if_neg (by simp)] at hee hss
         subst hee hss
         have HGF:Hid (SimF oState oState):=SimF.refl _
         clear HLE5 HLXx
         go_upto_region 17 with (go_at_call 29;refine HGC.out.mono ?_;rintro e' w5 ⟨rfl,hb5⟩;have RQ:=hid (upR hb5 RQ0.out);have HBX:=hid (upT HB5.out (upT HUC.out hb5));have R6X:=hid (upR (upT HUC.out hb5) Q25.out))
         have HNE:Hid (y12≠w.heap.size+2):=rows_ne RQ.out R6X.out (by decide)
         clear lq RQ0 HGC HUC hb5
         refine wp_region_noPanic ?_
         refine wp_region_held_drew (S:=fun W=>W.heap[y12]?=some (.cells (vs .u8 32 QV) 24)) (by kernel_rfl) ((drew_row RQ.out)) (fun hHeld=>?_)
         generalize eWD:w5.drew=wd at hHeld ⊢
         have hBd:Up w wd:=by rw [←eWD];exact HBX.out.drew
         have RW0:Hid (wd.heap[y12]?=some (.cells (vs .u8 32 QV) 24)):=by rw [←eWD];exact drew_row RQ.out
         have R6:Hid (wd.heap[w.heap.size+2]?=some (.cells (cel (sState oState)) 49)):=by rw [←eWD];exact drew_row R6X.out
         clear eWD
         refine tk 0 (v:=?v710) ?y710 hHeld ?r710
         case y710=>intro w hSw;have ld0:=bz w;go_simp;try with_reducible rfl
         refine tk 1 (v:=?v711) ?y711 hHeld ?r711
         case y711=>intro w hSw;have ld0:=lv24_run hSw;go_simp;try with_reducible rfl
         try simp only [Act.put,z_1,z_2,z_3,z_4,z_5,z_6,z_7]
         refine rd2 2 3 (fun K hK=>?_) (fun K hK=>?_)
         ·have ld:=bs22_1 wd QV
          go_simp
          obtain ⟨x1,yq,hx,ey,rq,hd1,bq⟩:=upN2 hBd (.cells (vs .u8 32 QV) 24)
          have qq:wd.heap.size≤yq:=Nat.le_of_eq ey
          have r6l:=some_ltK R6.out
          rw [hx,ey]
          clear hx ey ld
          refine hK.out _ _ (upR hd1 RW0.out) (fun hHeld=>?_)
          clear hK K
          try simp only [Act.put,z_1,z_2,z_3,z_4,z_5,z_6,z_7]
          refine rd1 3 (fun K hK=>?_)
          have r61:=upR hd1 R6.out
          have sv:=svState_run r61 oState
          go_simp
          have q0:(x1.setRow (w.heap.size+2) (cel (sState oState))).heap[y12]?=some (.cells (vs .u8 32 QV) 24):=by rw [setRow_other HNE.out];exact upR hd1 RW0.out
          refine hK.out _ _ q0 (fun hHeld=>?_)
          clear hK K
          try simp only [Act.put,z_1,z_2,z_3,z_4,z_5,z_6,z_7]
          have rq2:(x1.setRow (w.heap.size+2) (cel (sState oState))).heap[yq]?=some (.cells (vs .u8 32 QV) 24):=by rw [setRow_other (by omega)];exact rq
          refine rd1 4 (fun K hK=>?_)
          go_simp
          refine hK.out _ _ q0 (fun hHeld=>?_)
          clear hK K
          try simp only [Act.put,z_1,z_2,z_3,z_4,z_5,z_6,z_7]
          refine rd1 5 (fun K hK=>?_)
          go_simp
          refine hK.out _ _ q0 (fun hHeld=>?_)
          clear hK K
          try simp only [Act.put,z_1,z_2,z_3,z_4,z_5,z_6,z_7]
          refine wpAnyH_done (by kernel_rfl) ?_ _
          refine NoPanic.normal ?_
          go_wp2
          exact retState3 6 7 8 (w.heap.size+2) oState 49 (.slice (some ⟨yq,0,none⟩) 1 1) (.int .i64 25) rfl rfl rfl rfl rfl (setRow_at r61) ⟨_,_,_,rfl,(resO w.heap.size (x1.setRow (w.heap.size+2) (cel (sState oState)))).to (by omega) HGF.out,.inr (.inr ⟨yq,0,rfl,by omega,some_ltK (rq2),fun j hj=>by rw [Nat.zero_add];exact row_int (rq2) j hj⟩),.inr ⟨_,rfl,bq⟩,below_row (upT hBd hd1) (by omega) _⟩
         ·have sv:=svState_run R6.out oState
          go_simp
          obtain ⟨x0,hx0⟩:∃ W,wd.setRow (w.heap.size+2) (cel (sState oState))=W:=⟨_,rfl⟩
          have r60:x0.heap[w.heap.size+2]?=some (.cells (cel (sState oState)) 49):=by rw [←hx0];exact setRow_at R6.out
          have hB0:Up w x0:=by rw [←hx0];exact below_row hBd (by omega) _
          have q0:x0.heap[y12]?=some (.cells (vs .u8 32 QV) 24):=by rw [←hx0,setRow_other HNE.out];exact RW0.out
          have hrs:=resO w.heap.size (wd.setRow (w.heap.size+2) (cel (sState oState)))
          rw [hx0] at hrs ⊢
          refine hK.out _ _ q0 (fun hHeld=>?_)
          clear hK K hx0 sv
          try simp only [Act.put,z_1,z_2,z_3,z_4,z_5,z_6,z_7]
          refine rd1 2 (fun K hK=>?_)
          have ld:=bs22_1 x0 QV
          go_simp
          obtain ⟨x1,yq,hx,ey,rq,hd1,bq⟩:=upN2 hB0 (.cells (vs .u8 32 QV) 24)
          rw [hx,ey]
          clear hx ey ld
          refine hK.out _ _ (upR hd1 q0) (fun hHeld=>?_)
          clear hK K
          try simp only [Act.put,z_1,z_2,z_3,z_4,z_5,z_6,z_7]
          refine rd1 4 (fun K hK=>?_)
          go_simp
          refine hK.out _ _ (upR hd1 q0) (fun hHeld=>?_)
          clear hK K
          try simp only [Act.put,z_1,z_2,z_3,z_4,z_5,z_6,z_7]
          refine rd1 5 (fun K hK=>?_)
          go_simp
          refine hK.out _ _ (upR hd1 q0) (fun hHeld=>?_)
          clear hK K
          try simp only [Act.put,z_1,z_2,z_3,z_4,z_5,z_6,z_7]
          refine wpAnyH_done (by kernel_rfl) ?_ _
          refine NoPanic.normal ?_
          go_wp2
          exact retState3 6 7 8 (w.heap.size+2) oState 49 (.slice (some ⟨yq,0,none⟩) 1 1) (.int .i64 25) rfl rfl rfl rfl rfl (upR hd1 r60) ⟨_,_,_,rfl,(hrs.below hd1).to (by omega) HGF.out,.inr (.inr ⟨yq,0,rfl,by omega,some_ltK (rq),fun j hj=>by rw [Nat.zero_add];exact row_int (rq) j hj⟩),.inr ⟨_,rfl,bq⟩,upT hB0 hd1⟩
        ·rw [if_pos rfl] at hee hss
         subst hee hss
         go_upto_region 18 with (go_at_call 29;refine HGC.out.mono ?_;rintro e' w5 ⟨rfl,hb5⟩)
         have h5c:=upT HUC.out hb5
         have lx5:=HLXx.out w5 h5c
         have HL5:=hid (HLE5.out w5 h5c)
         have RQ5:=hid (upR hb5 RQ0.out)
         have HB7:=hid (upT HB5.out h5c)
         have Q27:=hid (upR h5c Q25.out)
         clear hb5 h5c HGC HUC RQ0 lq HLXx HLE5 HB5 HU5 Q25
         go_upto_region 19 with (go_at_call 40;refine HL5.out.mono ?_;rintro e' w7 ⟨X,rfl,hres,hb7⟩;have sv:=svState_newv w7 oState X;have HRES:=hid hres;have HB77:=hid hb7;clear hres hb7)
         obtain ⟨wr,y15,hWr,ey15,r15,hd15,b15⟩:=upN2 HB77.out (.cells (cel (sState X)) 49)
         rw [hWr,ey15]
         have h57:=upT HB77.out hd15
         have RQ:=hid (upR h57 RQ5.out)
         have RY:=hid r15
         have HBX:=hid (upT HB7.out h57)
         have R6X:=hid (upR h57 Q27.out)
         have HNE:Hid (y12≠w.heap.size+2):=rows_ne RQ.out R6X.out (by decide)
         have HNY:Hid (y15≠w.heap.size+2):=by have:=some_ltK Q27.out;unfold Hid;omega
         have HRX:=hid (HRES.out.below hd15)
         have HGF:=hid HRES.out.sim
         have HZ6:=hid (some_ltK Q27.out)
         have hw5:w.heap.size≤w5.heap.size:=HB7.out.size
         clear hWr ey15 r15 hd15 h57 sv HRES HB77 HL5 RQ5 lx5 HB7 Q27
         refine wp_region_noPanic ?_
         refine wp_region_held_drew (S:=fun W=>W.heap[y12]?=some (.cells (vs .u8 32 QV) 24)∧W.heap[y15]?=some (.cells (cel (sState X)) 49)) (by kernel_rfl) (⟨(drew_row RQ.out),(drew_row RY.out)⟩) (fun hHeld=>?_)
         generalize eWD:wr.drew=wd at hHeld ⊢
         have hBd:Up w wd:=by rw [←eWD];exact HBX.out.drew
         have RW0:Hid (wd.heap[y12]?=some (.cells (vs .u8 32 QV) 24)):=by rw [←eWD];exact drew_row RQ.out
         have RW1:Hid (wd.heap[y15]?=some (.cells (cel (sState X)) 49)):=by rw [←eWD];exact drew_row RY.out
         have R6:Hid (wd.heap[w.heap.size+2]?=some (.cells (cel (sState oState)) 49)):=by rw [←eWD];exact drew_row R6X.out
         have HRG:=hid (show Res w5.heap.size wd SS X by rw [←eWD];exact HRX.out.below ((Below.refl _ _).drew))
         clear eWD
         refine tk 0 (v:=?v712) ?y712 hHeld ?r712
         case y712=>intro w hSw;have ld0:=lvState_run hSw.2;go_simp;try with_reducible rfl
         refine tk 1 (v:=?v713) ?y713 hHeld ?r713
         case y713=>intro w hSw;have ld0:=lv24_run hSw.1;go_simp;try with_reducible rfl
         refine tk 3 (v:=?v714) ?y714 hHeld ?r714
         case y714=>intro w hSw;go_simp;try with_reducible rfl
         try simp only [Act.put,z_1,z_2,z_3,z_4,z_5,z_6,z_7]
         refine rd2 2 4 (fun K hK=>?_) (fun K hK=>?_)
         ·have ld:=bs22_1 wd QV
          go_simp
          obtain ⟨x1,yq,hx,ey,rq,hd1,bq⟩:=upN2 hBd (.cells (vs .u8 32 QV) 24)
          have qq:wd.heap.size≤yq:=Nat.le_of_eq ey
          have r6l:=some_ltK R6.out
          rw [hx,ey]
          clear hx ey ld
          refine hK.out _ _ ⟨(upR hd1 RW0.out),(upR hd1 RW1.out)⟩ (fun hHeld=>?_)
          clear hK K
          try simp only [Act.put,z_1,z_2,z_3,z_4,z_5,z_6,z_7]
          refine rd1 4 (fun K hK=>?_)
          have r61:=upR hd1 R6.out
          have sv:=svState_run r61 X
          go_simp
          have q0:(x1.setRow (w.heap.size+2) (cel (sState X))).heap[y12]?=some (.cells (vs .u8 32 QV) 24):=by rw [setRow_other HNE.out];exact upR hd1 RW0.out
          have q1:(x1.setRow (w.heap.size+2) (cel (sState X))).heap[y15]?=some (.cells (cel (sState X)) 49):=by rw [setRow_other HNY.out];exact upR hd1 RW1.out
          refine hK.out _ _ ⟨q0,q1⟩ (fun hHeld=>?_)
          clear hK K
          try simp only [Act.put,z_1,z_2,z_3,z_4,z_5,z_6,z_7]
          have rq2:(x1.setRow (w.heap.size+2) (cel (sState X))).heap[yq]?=some (.cells (vs .u8 32 QV) 24):=by rw [setRow_other (by omega)];exact rq
          refine rd1 5 (fun K hK=>?_)
          go_simp
          refine hK.out _ _ ⟨q0,q1⟩ (fun hHeld=>?_)
          clear hK K
          try simp only [Act.put,z_1,z_2,z_3,z_4,z_5,z_6,z_7]
          refine rd1 6 (fun K hK=>?_)
          go_simp
          refine hK.out _ _ ⟨q0,q1⟩ (fun hHeld=>?_)
          clear hK K
          try simp only [Act.put,z_1,z_2,z_3,z_4,z_5,z_6,z_7]
          refine wpAnyH_done (by kernel_rfl) ?_ _
          refine NoPanic.normal ?_
          go_wp2
          exact retState3 6 7 8 (w.heap.size+2) X 49 (.slice (some ⟨yq,0,none⟩) 1 1) (.int .i64 EE) rfl rfl rfl rfl rfl (setRow_at r61) ⟨_,_,_,rfl,(((HRG.out.below hd1).row HZ6.out (cel (sState X)))).to (by omega) HGF.out,.inr (.inr ⟨yq,0,rfl,by omega,some_ltK (rq2),fun j hj=>by rw [Nat.zero_add];exact row_int (rq2) j hj⟩),.inr ⟨_,rfl,bq⟩,below_row (upT hBd hd1) (by omega) _⟩
         ·have sv:=svState_run R6.out X
          go_simp
          obtain ⟨x0,hx0⟩:∃ W,wd.setRow (w.heap.size+2) (cel (sState X))=W:=⟨_,rfl⟩
          have r60:x0.heap[w.heap.size+2]?=some (.cells (cel (sState X)) 49):=by rw [←hx0];exact setRow_at R6.out
          have hB0:Up w x0:=by rw [←hx0];exact below_row hBd (by omega) _
          have q0:x0.heap[y12]?=some (.cells (vs .u8 32 QV) 24):=by rw [←hx0,setRow_other HNE.out];exact RW0.out
          have q1:x0.heap[y15]?=some (.cells (cel (sState X)) 49):=by rw [←hx0,setRow_other HNY.out];exact RW1.out
          have hrs:=(HRG.out.row HZ6.out (cel (sState X)))
          rw [hx0] at hrs ⊢
          refine hK.out _ _ ⟨q0,q1⟩ (fun hHeld=>?_)
          clear hK K hx0 sv
          try simp only [Act.put,z_1,z_2,z_3,z_4,z_5,z_6,z_7]
          refine rd1 2 (fun K hK=>?_)
          have ld:=bs22_1 x0 QV
          go_simp
          obtain ⟨x1,yq,hx,ey,rq,hd1,bq⟩:=upN2 hB0 (.cells (vs .u8 32 QV) 24)
          rw [hx,ey]
          clear hx ey ld
          refine hK.out _ _ ⟨(upR hd1 q0),(upR hd1 q1)⟩ (fun hHeld=>?_)
          clear hK K
          try simp only [Act.put,z_1,z_2,z_3,z_4,z_5,z_6,z_7]
          refine rd1 5 (fun K hK=>?_)
          go_simp
          refine hK.out _ _ ⟨(upR hd1 q0),(upR hd1 q1)⟩ (fun hHeld=>?_)
          clear hK K
          try simp only [Act.put,z_1,z_2,z_3,z_4,z_5,z_6,z_7]
          refine rd1 6 (fun K hK=>?_)
          go_simp
          refine hK.out _ _ ⟨(upR hd1 q0),(upR hd1 q1)⟩ (fun hHeld=>?_)
          clear hK K
          try simp only [Act.put,z_1,z_2,z_3,z_4,z_5,z_6,z_7]
          refine wpAnyH_done (by kernel_rfl) ?_ _
          refine NoPanic.normal ?_
          go_wp2
          exact retState3 6 7 8 (w.heap.size+2) X 49 (.slice (some ⟨yq,0,none⟩) 1 1) (.int .i64 EE) rfl rfl rfl rfl rfl (upR hd1 r60) ⟨_,_,_,rfl,(hrs.below hd1).to (by omega) HGF.out,.inr (.inr ⟨yq,0,rfl,by omega,some_ltK (rq),fun j hj=>by rw [Nat.zero_add];exact row_int (rq) j hj⟩),.inr ⟨_,rfl,bq⟩,upT hB0 hd1⟩
      ·rw [if_neg h5] at hp3
       subst hp3
       obtain ⟨rfl,rfl,rfl⟩:=HNE.out (by decide)
       have h5':EP < V.f5+2:=by omega
       have s4:=svState_run Q2.out oState
       clear HNE HZE HP2 HVA HIX HC11 HRX0 HDO0 HRO0 HQU0 HGO0 HLE0 HLS0 HLH0 HKF HCW HCE HLX
       go_wp2
       exact retState3 6 7 8 (w.heap.size+2) oState 49 (.slice none 0 0) (.int .i64 31) rfl rfl rfl rfl rfl (setRow_at Q2.out) ⟨oState,none,0,rfl,resO _ _,.inl ⟨rfl,rfl,rfl⟩,.inl rfl,below_row HB4.out (by omega) _⟩
     ·rw [if_neg h0] at hp3
      subst hp3
      obtain ⟨rfl,rfl,rfl⟩:=HNE.out (by decide)
      have h0':EP < p0:=by omega
      have s4:=svState_run Q2.out oState
      clear HNE HZE HP2 HVA HIX HC11 HRX0 HDO0 HRO0 HQU0 HGO0 HLE0 HLS0 HLH0 HKF HCW HCE HLX
      go_wp2
      exact retState3 6 7 8 (w.heap.size+2) oState 49 (.slice none 0 0) (.int .i64 29) rfl rfl rfl rfl rfl (setRow_at Q2.out) ⟨oState,none,0,rfl,resO _ _,.inl ⟨rfl,rfl,rfl⟩,.inl rfl,below_row HB4.out (by omega) _⟩
    ·have hp3:=HP2.out
     rw [if_neg h6] at hp3
     subst hp3
     obtain ⟨rfl,rfl,rfl⟩:=HNE.out (by decide)
     unfold far at h6
     have hf2:(V.f6 != 18446744073709551615)=true:=by simp [h6]
     have s4:=svState_run Q2.out oState
     clear HNE HZE HP2 HVA HIX HC11 HRX0 HDO0 HRO0 HQU0 HGO0 HLE0 HLS0 HLH0 HKF HCW HCE HLX
     go_wp2
     exact retState3 6 7 8 (w.heap.size+2) oState 49 (.slice none 0 0) (.int .i64 36) rfl rfl rfl rfl rfl (setRow_at Q2.out) ⟨oState,none,0,rfl,resO _ _,.inl ⟨rfl,rfl,rfl⟩,.inl rfl,below_row HB4.out (by omega) _⟩
  ·rw [if_neg hi] at hP
   subst hP
   obtain ⟨rfl,rfl,rfl⟩:=HNE.out (by decide)
   have k1:(x.f11.n:Int)≤s.f0.f1:=by omega
   have hc11:∀ W,Up W0 W→W.cell? ⟨w.heap.size,721,none⟩=some (.slice x.f11.a x.f11.n x.f11.c):=fun W h=>cS11 (upR h r0)
   have HC11:=hid hc11
   obtain ⟨i,ei⟩:∃ i,s.f0.f1=i:=⟨_,rfl⟩
   rw [ei] at HCW k1
   clear hc11 hw hx hn hs hr hnn hC r0 r1 r2 HNE HZE hR HCE hi i0 i1 e0 ei x20 x2b eEP
   generalize x.f11.a=A11 at *
   generalize x.f11.n=N11 at *
   generalize x.f11.c=C11 at *
   go_enter Tryz.func13,Tryz.ntmps13
   go_upto_region 1 with fail
   rw [HW.out]
   clear HW
   go_upto_region 3 with (go_at_call 21;refine HRI.out.mono ?_;rintro e' w1 ⟨rfl,hb1⟩;have lx1:=HLX.out w1 hb1)
   have HE1:=hid (HEP.out w1)
   have HU1:=hid hb1
   clear hb1 HRI HEP lx HLX
   go_wp2_with (go_at_call 36;refine HE1.out.mono ?_;rintro e' w2 ⟨rfl,hb2⟩;have cw:=HCW.out w2 (upT HU1.out hb2);have c11:=HC11.out w2 (upT HU1.out hb2);have s2:=svState_run (upR (upT HU1.out hb2) R2.out) oState)
   exact retState3 6 7 8 (w.heap.size+2) oState 49 (.slice none 0 0) (.int .i64 27) rfl rfl rfl rfl rfl (setRow_at (upR (upT HU1.out hb2) R2.out)) ⟨oState,none,0,rfl,resO _ _,.inl ⟨rfl,rfl,rfl⟩,.inl rfl,below_row (upT HB.out (upT HU1.out hb2)) (by omega) _⟩
end Go.Proofs.YtdamhdnljnifcaaGreatDoor
