/- A part. -/
import Derived.Test.YtfgmddnfhphdeaaGreatDoorQK
import Derived.Test.YtfgmddnfhphdeaaGreatDoorSlI
import Derived.Test.YtfgmddnfhphdeaaGreatDoorQL
namespace Go.Proofs.YtfgmddnfhphdeaaGreatDoor
open Go.RowKit
set_option linter.unusedVariables false
set_option linter.unusedSimpArgs false
set_option maxRecDepth 20000
attribute [local go_sem ↓] lvState_eq svState_eq bdState_eq lvValidator_eq svValidator_eq ixValidator_eq
set_option maxHeartbeats 1000000 in
theorem epoS_any (x : VState) (w : World) (h0 : 0 ≤ x.f2) (h1 : x.f2 < 1099511627776) :
    Calls Tryz.prog 117 #[.agg (cel (sState x))] w fun e' w'=>e'=.returned (.int .u64 (x.f2 / 4))∧Below w.heap.size w w':=by
 obtain ⟨W0,hW0⟩:∃ W,w.alloc (.cells (cel (sState x)) 49)=W:=⟨_,rfl⟩
 have r0:W0.heap[w.heap.size]?=some (.cells (cel (sState x)) 49):=by rw [←hW0];exact heap_new rfl
 have hB0:Below w.heap.size w W0:=by rw [←hW0];exact (Below.refl _ _).alloc (Nat.le_refl _) _
 have l2:=cS2 r0
 generalize x.f2=p at *
 have HB:=hid hB0
 have HW:=hid hW0
 clear hB0 hW0 r0
 go_enter Tryz.func117,Tryz.ntmps117
 go_upto_region 1 with fail
 rw [HW.out]
 clear HW
 go_wp2
 go_ret
 exact ⟨ret_int rfl,HB.out⟩
set_option maxHeartbeats 1000000 in
theorem thereS_any (x : VState) (i : Int) (w : World) (hn : x.f11.n ≤ 65536) :
    Calls Tryz.prog 79 #[.agg (cel (sState x)),.int .u64 i] w fun e' w'=>e'=.returned (.bool (decide (i < (x.f11.n:Int))))∧Below w.heap.size w w':=by
 obtain ⟨W0,hW0⟩:∃ W,w.alloc (.cells (cel (sState x)) 49)=W:=⟨_,rfl⟩
 have r0:W0.heap[w.heap.size]?=some (.cells (cel (sState x)) 49):=by rw [←hW0];exact heap_new rfl
 have hB0:Below w.heap.size w W0:=by rw [←hW0];exact (Below.refl _ _).alloc (Nat.le_refl _) _
 have c0:=cS11 r0
 generalize x.f11.a=A at *
 generalize x.f11.n=n at *
 generalize x.f11.c=C at *
 have nw:IntKind.u64.wrap (n:Int)=(n:Int):=by rw [IntKind.wrap_u64];omega
 have HB:=hid hB0
 have HW:=hid hW0
 clear hB0 hW0 r0
 go_enter Tryz.func79,Tryz.ntmps79
 go_upto_region 1 with fail
 rw [HW.out]
 clear HW
 go_wp2
 go_ret
 exact ⟨ret_bool rfl,HB.out⟩
set_option maxHeartbeats 2000000 in
theorem leavingAt_any (x : VState) (e : Int) (w : World) (hx : Lk w x) :
    Calls Tryz.prog 118 #[.agg (cel (sState x)),.int .u64 e] w fun e' w'=>e'=.returned (.int .u64 (lvN x.f11.z e x.f11.n:Nat))∧Below w.heap.size w w':=by
 obtain ⟨W0,hW0⟩:∃ W,w.alloc (.cells (cel (sState x)) 49)=W:=⟨_,rfl⟩
 have r0:W0.heap[w.heap.size]?=some (.cells (cel (sState x)) 49):=by rw [←hW0];exact heap_new rfl
 have hB0:Below w.heap.size w W0:=by rw [←hW0];exact (Below.refl _ _).alloc (Nat.le_refl _) _
 have z0:w.heap.size < W0.heap.size:=(Array.getElem?_eq_some_iff.1 r0).1
 have hcs:∀ W:World,Below W0.heap.size W0 W→W.cell? ⟨w.heap.size,721,none⟩=some (.slice x.f11.a x.f11.n x.f11.c):=fun W h=>cS11 ((h.block _ z0).trans r0)
 have hel:=hx.el.below hB0
 have hnb:=hx.nb
 generalize x.f11.a=A at *
 generalize x.f11.n=n at *
 generalize x.f11.c=C at *
 generalize x.f11.z=z at *
 have HB:=hid hB0
 have HW:=hid hW0
 have HC:=hid hcs
 have HE:=hid hel
 clear hB0 hW0 r0 hcs hel hx
 go_enter Tryz.func118,Tryz.ntmps118
 go_upto_region 1 with fail
 rw [HW.out]
 clear HW
 have cc:=HC.out W0 (Below.refl _ _)
 have zv:=zeroValidator
 go_wp2
 go_loopw [5,11] (fun v c wr=>∃ k:Nat,k≤n∧v=.int .u64 (lvN z e k:Nat)∧c=.int .i64 k∧Below W0.heap.size W0 wr) (fun _ c _=>n - (intOf c).toNat)
 case atStart=>exact ⟨0,by omega,rfl,rfl,Below.refl _ _⟩
 case round =>
  obtain ⟨k,hk,rfl,rfl,hw⟩:=hrel
  have c0:=HC.out wr hw
  have hst:lvN z e (k+1)=lvN z e k+(if (z k).f6=e then 1 else 0):=rfl
  have hle:=lvN_le z e k
  obtain ⟨N,eN⟩:∃ N,lvN z e k=N:=⟨_,rfl⟩
  rw [eN] at hst hle ⊢
  have HST:=hid hst
  have EN:=hid eN
  clear hst eN
  by_cases hkn:k < n
  ·have k1:(k:Int) < (n:Int):=by omega
   have k2:(0:Int)≤(k:Int):=by omega
   have kw:IntKind.i64.wrap ((k:Int)+1)=(k:Int)+1:=by rw [IntKind.wrap_i64];omega
   have kw2:IntKind.u64.wrap ((N:Int)+1)=(N:Int)+1:=by rw [IntKind.wrap_u64];omega
   rcases HE.out.below hw with h0 | ⟨b,off,ea,hbl,hc⟩
   ·omega
   subst ea
   have lv:=lvValidator_at (hc k hkn)
   have ix:=fun W=>ixValidator_run W b off n C k hkn
   obtain ⟨P,eP⟩:∃ P,off+86*k=P:=⟨_,rfl⟩
   rw [eP] at lv
   simp only [eP] at ix
   obtain ⟨V,hV⟩:∃ V,z k=V:=⟨_,rfl⟩
   rw [hV] at lv HST
   have HW:=hid hw
   have sv:=svValidator_newv wr oValidator V
   obtain ⟨W1,hW1⟩:∃ W,wr.alloc (.cells (cel (sValidator V)) 74)=W:=⟨_,rfl⟩
   rw [hW1] at sv
   have r1:W1.heap[wr.heap.size]?=some (.cells (cel (sValidator V)) 74):=by rw [←hW1];exact heap_new rfl
   have hE1:Below wr.heap.size wr W1:=by rw [←hW1];exact (Below.refl _ _).alloc (Nat.le_refl _) _
   obtain ⟨y,ey⟩:∃ y,wr.heap.size=y:=⟨_,rfl⟩
   rw [ey] at sv r1
   have c6:=seg_nu r1 6 V.f6 rfl 84 rfl
   obtain ⟨F,eF⟩:∃ F,V.f6=F:=⟨_,rfl⟩
   rw [eF] at c6 HST
   have hw':=HW.out.trans (hE1.mono HW.out.size)
   clear HW
   have HW:=hid hw'
   clear hw hc hbl eP hV hw' hE1 r1 eF
   go_upto_region 5 with fail
   clear sv lv ix c0 hW1 ey
   by_cases hF:F=e
   ·subst hF
    go_wp2
    go_roundw
    case rel=>exact ⟨k+1,by omega,by rw [HST.out,if_pos rfl];go_num,by go_num,HW.out⟩
    case measure=>simp [intOf];omega
   ·have hF2:(F == e)=false:=by simp [hF]
    go_wp2
    go_roundw
    case rel=>exact ⟨k+1,by omega,by rw [HST.out,if_neg hF];go_num,by go_num,HW.out⟩
    case measure=>simp [intOf];omega
  ·obtain rfl:k=n:=by omega
   have HW:=hid hw
   clear hw HST
   go_wp2
   go_ret
   exact ⟨ret_int (by rw [EN.out]),HB.out.trans (HW.out.mono (by omega))⟩
set_option maxHeartbeats 4000000 in
theorem nextExit_any (x : VState) (w : World) (hR : Rg x) (hi : InW w x) :
    Calls Tryz.prog 101 #[.agg (cel (sState x))] w fun e' w'=>e'=.returned (.int .u64 (lvX x))∧Below w.heap.size w w':=by
 have hx:=hR.lk hi
 obtain ⟨W0,hW0⟩:∃ W,w.alloc (.cells (cel (sState x)) 49)=W:=⟨_,rfl⟩
 have r0:W0.heap[w.heap.size]?=some (.cells (cel (sState x)) 49):=by rw [←hW0];exact heap_new rfl
 have hB0:Below w.heap.size w W0:=by rw [←hW0];exact (Below.refl _ _).alloc (Nat.le_refl _) _
 have z0:w.heap.size < W0.heap.size:=(Array.getElem?_eq_some_iff.1 r0).1
 have hcs:∀ W:World,Below W0.heap.size W0 W→W.cell? ⟨w.heap.size,721,none⟩=some (.slice x.f11.a x.f11.n x.f11.c):=fun W h=>cS11 ((h.block _ z0).trans r0)
 have hld:∀ W:World,Below W0.heap.size W0 W→(lvState ⟨w.heap.size,0,none⟩).run Tryz.prog W=.ok (.agg (cel (sState x))) W:=fun W h=>lvState_run ((h.block _ z0).trans r0)
 have hx0:=hx.below hB0
 have hep:=epoS_any x W0 hx.sl.1 hx.sl.2
 have hla:∀ e W,Below W0.heap.size W0 W→Calls Tryz.prog 118 #[.agg (cel (sState x)),.int .u64 e] W fun e' w'=>e'=.returned (.int .u64 (lvN x.f11.z e x.f11.n:Nat))∧Below W.heap.size W w':=fun e W h=>leavingAt_any x e W (hx0.below h)
 have hch:∀ W,Below W0.heap.size W0 W→Calls Tryz.prog 119 #[.agg (cel (sState x))] W fun e' w'=>e'=.returned (.int .u64 (chuS x))∧Below W.heap.size W w':=fun W h=>churn_any x W (hx0.below h)
 have hlx:lvX x=if chuS x≤(lvN x.f11.z (lvQ x.f11.z (x.f2 / 4) x.f11.n) x.f11.n:Int) then w64 (lvQ x.f11.z (x.f2 / 4) x.f11.n+1) else lvQ x.f11.z (x.f2 / 4) x.f11.n:=rfl
 have hel:=hx.el.below hB0
 have hnb:=hx.nb
 have h2:=hx.sl.1
 have h2':=hx.sl.2
 obtain ⟨E,eE⟩:∃ E,x.f2 / 4=E:=⟨_,rfl⟩
 have hE0:0≤E:=by omega
 have hE1:E < 274877906944:=by omega
 rw [eE] at hep hlx
 have l0:=hld W0 (Below.refl _ _)
 have HLD0:=hid hld
 have HEP:=hid hep
 have HLA0:=hid hla
 have HCH0:=hid hch
 obtain ⟨LX,eLX⟩:∃ L,lvX x=L:=⟨_,rfl⟩
 obtain ⟨CH,eCH⟩:∃ L,chuS x=L:=⟨_,rfl⟩
 rw [eLX] at hlx ⊢
 rw [eCH] at HCH0 hlx
 have hW1:w.alloc (.cells (cel (sState x)) 49)=W0:=hW0
 have HLX0:=hid hlx
 clear hld hep hla hch hx0 hx hR hi hlx eE eLX eCH h2 h2' hW0
 generalize x.f11.a=A at *
 generalize x.f11.n=n at *
 generalize x.f11.c=C at *
 generalize x.f11.z=z at *
 have k1:IntKind.u64.wrap (E+1)=E+1:=by rw [IntKind.wrap_u64];omega
 have k2:IntKind.u64.wrap (E+1+2)=E+3:=by rw [IntKind.wrap_u64];omega
 have HB:=hid hB0
 have HW:=hid hW1
 have HC:=hid hcs
 have HE:=hid hel
 clear hB0 hW1 r0 hcs hel
 go_enter Tryz.func101,Tryz.ntmps101
 go_upto_region 1 with fail
 rw [HW.out]
 clear HW
 go_upto_region 2 with (go_at_call 117;refine HEP.out.mono ?_;rintro e' w1 ⟨rfl,hb1⟩)
 have cc:=HC.out w1 hb1
 have HB1:=hid hb1
 have zv:=zeroValidator
 clear hb1 l0 k1 k2 HEP
 go_wp2
 go_loopw [3,13] (fun v c wr=>∃ k:Nat,k≤n∧v=.int .u64 (lvQ z E k)∧c=.int .i64 k∧Below W0.heap.size W0 wr) (fun _ c _=>n - (intOf c).toNat)
 case atStart=>exact ⟨0,by omega,rfl,rfl,HB1.out⟩
 case round =>
  obtain ⟨k,hk,rfl,rfl,hw⟩:=hrel
  have c0:=HC.out wr hw
  have hst:lvQ z E (k+1)=if ¬ (z k).f6=far∧lvQ z E k < (z k).f6 then (z k).f6 else lvQ z E k:=rfl
  unfold far at hst
  obtain ⟨Q,eQ⟩:∃ Q,lvQ z E k=Q:=⟨_,rfl⟩
  rw [eQ] at hst ⊢
  have HST:=hid hst
  clear hst
  by_cases hkn:k < n
  ·clear eQ
   have k1:(k:Int) < (n:Int):=by omega
   have k2:(0:Int)≤(k:Int):=by omega
   have kw:IntKind.i64.wrap ((k:Int)+1)=(k:Int)+1:=by rw [IntKind.wrap_i64];omega
   rcases HE.out.below hw with h0 | ⟨b,off,ea,hbl,hc⟩
   ·omega
   subst ea
   have lv:=lvValidator_at (hc k hkn)
   have ix:=fun W=>ixValidator_run W b off n C k hkn
   obtain ⟨P,eP⟩:∃ P,off+86*k=P:=⟨_,rfl⟩
   rw [eP] at lv
   simp only [eP] at ix
   obtain ⟨V,hV⟩:∃ V,z k=V:=⟨_,rfl⟩
   rw [hV] at lv HST
   have HW:=hid hw
   have sv:=svValidator_newv wr oValidator V
   obtain ⟨W1,hW1⟩:∃ W,wr.alloc (.cells (cel (sValidator V)) 74)=W:=⟨_,rfl⟩
   rw [hW1] at sv
   have r1:W1.heap[wr.heap.size]?=some (.cells (cel (sValidator V)) 74):=by rw [←hW1];exact heap_new rfl
   have hE1:Below wr.heap.size wr W1:=by rw [←hW1];exact (Below.refl _ _).alloc (Nat.le_refl _) _
   obtain ⟨y,ey⟩:∃ y,wr.heap.size=y:=⟨_,rfl⟩
   rw [ey] at sv r1
   have c6:=seg_nu r1 6 V.f6 rfl 84 rfl
   obtain ⟨F,eF⟩:∃ F,V.f6=F:=⟨_,rfl⟩
   rw [eF] at c6 HST
   have hw':=HW.out.trans (hE1.mono HW.out.size)
   clear HW
   have HW:=hid hw'
   clear hw hc hbl eP hV hw' hE1 r1 eF
   go_upto_region 5 with fail
   clear sv lv ix c0 hW1 ey
   by_cases hF:F=18446744073709551615
   ·subst hF
    go_wp2
    go_roundw
    case rel=>exact ⟨k+1,by omega,by rw [HST.out,if_neg (fun h=>h.1 rfl)],by go_num,HW.out⟩
    case measure=>simp [intOf];omega
   ·have hF2:(F != 18446744073709551615)=true:=by simp [hF]
    by_cases hG:Q < F
    ·have hm:max Q F=F:=by omega
     have hG2:Q≤F:=by omega
     go_wp2
     all_goals go_roundw
     case rel=>exact ⟨k+1,by omega,by rw [HST.out,if_pos ⟨hF,hG⟩],by go_num,HW.out⟩
     case measure=>simp [intOf];omega
    ·have hm:max Q F=Q:=by omega
     have hG2:F≤Q:=by omega
     go_wp2
     all_goals go_roundw
     case rel=>exact ⟨k+1,by omega,by rw [HST.out,if_neg (fun h=>hG h.2)],by go_num,HW.out⟩
     case measure=>simp [intOf];omega
  ·obtain rfl:k=n:=by omega
   have kN:¬ (k:Int) < (k:Int):=by omega
   have hlx:=HLX0.out
   rw [eQ] at hlx
   have hla:∀ W,Up wr W→_:=fun W h=>HLA0.out Q W (hw.trans (h.mono hw.size))
   have hch:∀ W,Up wr W→_:=fun W h=>HCH0.out W (hw.trans (h.mono hw.size))
   have hld:∀ W,Up wr W→_:=fun W h=>HLD0.out W (hw.trans (h.mono hw.size))
   have HLA:=hid hla
   have HCH:=hid hch
   have HLD:=hid hld
   have HW:=hid hw
   obtain ⟨N,eN⟩:∃ N,lvN z Q k=N:=⟨_,rfl⟩
   rw [eN] at HLA hlx
   clear HST HLX0 hla hch hld hw eQ HLA0 HCH0 HLD0 eN
   by_cases hC:CH≤(N:Int)
   ·have kq:IntKind.u64.wrap (Q+1)=LX:=by rw [if_pos hC] at hlx;exact hlx.symm
    clear hlx
    go_upto_region 8 with fail
    refine wp_region_noPanic ?_
    refine wp_region_held_drew (S:=fun W=>Up wr W) (by kernel_rfl) ((Below.refl _ _).drew) (fun hHeld=>?_)
    have hUd:Up wr wr.drew:=(Below.refl _ _).drew
    generalize wr.drew=wd at hHeld hUd ⊢
    refine tk 0 (v:=?v701) ?y701 hHeld ?r701
    case y701=>intro w hSw;have ld0:=HLD.out w hSw;go_simp;try with_reducible rfl
    refine tk 1 (v:=?v702) ?y702 hHeld ?r702
    case y702=>intro w hSw;go_simp;try with_reducible rfl
    refine tk 3 (v:=?v703) ?y703 hHeld ?r703
    case y703=>intro w hSw;have ld0:=HLD.out w hSw;go_simp;try with_reducible rfl
    try simp only [Act.put,z_1,z_2,z_3,z_4,z_5,z_6,z_7]
    refine wpAnyH_ready (rs:=[2]) (by kernel_rfl) (by simp) ?_
    refine AllReadyH.cons rfl (fun K hK=>?_) AllReadyH.nil
    go_simp
    refine (HLA.out wd hUd).mono ?_
    rintro e' x1 ⟨rfl,hd1⟩
    dsimp only
    have hc1:Up wr x1:=hUd.trans (hd1.mono hUd.size)
    refine hK.out _ _ hc1 (fun hHeld=>?_)
    clear hK K
    try simp only [Act.put,z_1,z_2,z_3,z_4,z_5,z_6,z_7]
    refine wpAnyH_ready (rs:=[4]) (by kernel_rfl) (by simp) ?_
    refine AllReadyH.cons rfl (fun K hK=>?_) AllReadyH.nil
    go_simp
    refine (HCH.out x1 hc1).mono ?_
    rintro e' x2 ⟨rfl,hd2⟩
    dsimp only
    have hc2:Up wr x2:=hc1.trans (hd2.mono hc1.size)
    refine hK.out _ _ hc2 (fun hHeld=>?_)
    clear hK K
    try simp only [Act.put,z_1,z_2,z_3,z_4,z_5,z_6,z_7]
    refine tk 5 (v:=?v704) ?y704 hHeld ?r704
    case y704=>intro w hSw;go_simp;try with_reducible rfl
    try simp only [Act.put,z_1,z_2,z_3,z_4,z_5,z_6,z_7]
    refine wpAnyH_done (by kernel_rfl) ?_ _
    refine NoPanic.normal ?_
    go_wp2
    go_ret
    exact ⟨ret_int rfl,HB.out.trans ((HW.out.trans (hc2.mono HW.out.size)).mono HB.out.size)⟩
   ·rw [if_neg hC] at hlx
    subst hlx
    go_upto_region 8 with fail
    refine wp_region_noPanic ?_
    refine wp_region_held_drew (S:=fun W=>Up wr W) (by kernel_rfl) ((Below.refl _ _).drew) (fun hHeld=>?_)
    have hUd:Up wr wr.drew:=(Below.refl _ _).drew
    generalize wr.drew=wd at hHeld hUd ⊢
    refine tk 0 (v:=?v801) ?y801 hHeld ?r801
    case y801=>intro w hSw;have ld0:=HLD.out w hSw;go_simp;try with_reducible rfl
    refine tk 1 (v:=?v802) ?y802 hHeld ?r802
    case y802=>intro w hSw;go_simp;try with_reducible rfl
    refine tk 3 (v:=?v803) ?y803 hHeld ?r803
    case y803=>intro w hSw;have ld0:=HLD.out w hSw;go_simp;try with_reducible rfl
    try simp only [Act.put,z_1,z_2,z_3,z_4,z_5,z_6,z_7]
    refine wpAnyH_ready (rs:=[2]) (by kernel_rfl) (by simp) ?_
    refine AllReadyH.cons rfl (fun K hK=>?_) AllReadyH.nil
    go_simp
    refine (HLA.out wd hUd).mono ?_
    rintro e' x1 ⟨rfl,hd1⟩
    dsimp only
    have hc1:Up wr x1:=hUd.trans (hd1.mono hUd.size)
    refine hK.out _ _ hc1 (fun hHeld=>?_)
    clear hK K
    try simp only [Act.put,z_1,z_2,z_3,z_4,z_5,z_6,z_7]
    refine wpAnyH_ready (rs:=[4]) (by kernel_rfl) (by simp) ?_
    refine AllReadyH.cons rfl (fun K hK=>?_) AllReadyH.nil
    go_simp
    refine (HCH.out x1 hc1).mono ?_
    rintro e' x2 ⟨rfl,hd2⟩
    dsimp only
    have hc2:Up wr x2:=hc1.trans (hd2.mono hc1.size)
    refine hK.out _ _ hc2 (fun hHeld=>?_)
    clear hK K
    try simp only [Act.put,z_1,z_2,z_3,z_4,z_5,z_6,z_7]
    refine tk 5 (v:=?v804) ?y804 hHeld ?r804
    case y804=>intro w hSw;go_simp;try with_reducible rfl
    try simp only [Act.put,z_1,z_2,z_3,z_4,z_5,z_6,z_7]
    refine wpAnyH_done (by kernel_rfl) ?_ _
    refine NoPanic.normal ?_
    go_wp2
    go_ret
    exact ⟨ret_int rfl,HB.out.trans ((HW.out.trans (hc2.mono HW.out.size)).mono HB.out.size)⟩
set_option maxHeartbeats 4000000 in
theorem letLeave_any (X : VState) (i y : Nat) (w V : World) (hb : BK w y V X) (hR : Rg X) (hi : i < X.f11.n) :
    Calls Tryz.prog 80 #[.pointer (some ⟨y,0,none⟩),.int .u64 i] V fun e' V'=>e'=.returned (.tuple #[])∧BK w y V' (lvS X i):=by
 obtain ⟨g,hg⟩:=own_some hb.cpd.o11 (by omega)
 have hvl:=hb.vl hg
 have c0:=hvl.c11
 have e0:=val_e6 (hvl.at_ i hi)
 have ix:=fun W=>ixV_u W g X.f11.n X.f11.c i hi
 by_cases hf:(X.f11.z i).f6=far
 ·have hE:lvS X i=valS X i (lvV (lvX X)):=if_pos hf
  rw [hf] at e0
  unfold far at e0
  have hne:=nextExit_any X V hR hb.inW
  have ld:=lvState_run hb.row
  have HB:=hid hb
  have HG:=hid hg
  have HE:=hid hE
  have HNE:=hid hne
  have HI:=hid hi
  obtain ⟨L,eL⟩:∃ L,lvX X=L:=⟨_,rfl⟩
  rw [eL] at HE HNE
  have kl:IntKind.u64.wrap (L+2)=w64 (L+2):=rfl
  clear hb hvl hf hE hg hR hne eL hi
  go_enter Tryz.func80,Tryz.ntmps80
  go_upto_region 2 with fail
  go_upto_region 3 with (go_at_call 101;refine HNE.out.mono ?_;rintro e' w2 ⟨rfl,hb2⟩;have hB2:=HB.out.below hb2;have hv2:=hB2.vl HG.out;have ci:=val_e6 (hv2.at_ i HI.out);obtain ⟨RC,hRC⟩:=hv2.row;have fi:=row_frozen hRC (86*i+84);have HB3:=hid (hB2.val (fun v=>{ v with f6:=L }) (.int .u64 L) (val_put6 _ L) (by omega) HG.out HI.out);clear hB2 hv2 hRC hb2)
  obtain ⟨W3,hW3⟩:∃ W,w2.setCell ⟨g,86*i+84,none⟩ (.int .u64 L)=W:=⟨_,rfl⟩
  rw [hW3] at HB3 ⊢
  clear hW3 ci fi c0 e0 ld HNE
  have hi3:i < (valS X i fun v=>{ v with f6:=L }).f11.n:=HI.out
  have hv3:=HB3.out.vl HG.out
  have e6:=val_e6 (hv3.at_ i hi3)
  rw [valS_at] at e6
  have ci:=val_e7 (hv3.at_ i hi3)
  obtain ⟨RC,hRC⟩:=hv3.row
  have fi:=row_frozen hRC (86*i+85)
  have hB4:=HB3.out.val (fun v=>{ v with f7:=w64 (L+2) }) (.int .u64 (w64 (L+2))) (val_put7 _ _) (by omega) HG.out hi3
  rw [valS_valS] at hB4
  have HB4:=hid hB4
  clear hv3 hRC hB4 HB3 hi3
  go_wp2
  go_end0
  refine ⟨rfl,?_⟩
  rw [HE.out]
  exact HB4.out
 ·have hE:lvS X i=X:=if_neg hf
  have HB:=hid hb
  obtain ⟨F,eF⟩:∃ F,(X.f11.z i).f6=F:=⟨_,rfl⟩
  rw [eF] at hf e0
  unfold far at hf
  have hf2:(F != 18446744073709551615)=true:=by simp [hf]
  rw [hE]
  clear hb hvl hE hR eF hg
  go_enter Tryz.func80,Tryz.ntmps80
  go_wp2
  exact bodyPost_ret (results_none rfl _ _ _) rfl ⟨rfl,HB.out⟩
end Go.Proofs.YtfgmddnfhphdeaaGreatDoor
