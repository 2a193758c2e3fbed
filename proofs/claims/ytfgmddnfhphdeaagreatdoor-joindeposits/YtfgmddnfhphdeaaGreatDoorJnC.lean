/- A part. -/
import Derived.Test.YtfgmddnfhphdeaaGreatDoorQM
import Derived.Test.YtfgmddnfhphdeaaGreatDoorQN
import Derived.Test.YtfgmddnfhphdeaaGreatDoorSgP
import Derived.Test.YtfgmddnfhphdeaaGreatDoorPkB
import Derived.Test.YtfgmddnfhphdeaaGreatDoorQL
import Derived.Test.YtfgmddnfhphdeaaGreatDoorQH
import Derived.Test.YtfgmddnfhphdeaaGreatDoorQG
import Derived.Test.YtfgmddnfhphdeaaGreatDoorQI
import Derived.Test.YtfgmddnfhphdeaaGreatDoorQQ
namespace Go.Proofs.YtfgmddnfhphdeaaGreatDoor
open Go.RowKit
set_option linter.unusedVariables false
set_option linter.unusedSimpArgs false
set_option maxRecDepth 20000
theorem rangeX {w:World} {g:Nat} {t:TypeId} {a b:List Value} {C:Array Value} (h:w.heap[g]?=some (.cells C t)) (l:List Value) (e:C=(a++(l++b)).toArray):w.rangeAt g a.length l:=by
 intro j v hj
 rw [row_cell h,e,List.getElem?_toArray,List.getElem?_append_right (by omega),Nat.add_sub_cancel_left,List.getElem?_append_left (List.getElem?_eq_some_iff.1 hj).1]
 exact hj
theorem lvEx_in {w:World} {g o:Nat} {x:VExit} (h:w.rangeAt g o (celL (sExit x))):(lvExit ⟨g,o,none⟩).run Tryz.prog w=.ok (.agg (cel (sExit x))) w :=
 loadAt_var (run_loadAt_mid w g o 70 _ _ h Tryz.underlying70 rfl (by rw [celL_len,show slen (sExit x)=2 from rfl];kernel_rfl))
theorem lvSx_in {w:World} {g o:Nat} {s:Nat→Int} (h:w.rangeAt g o (bl s 96)):(lvSg ⟨g,o,none⟩).run Tryz.prog w=.ok (.agg (vs .u8 96 s)) w :=
 loadAt_var (run_loadAt_mid w g o 56 _ _ h Tryz.underlying56 rfl (by rw [List.length_map,List.length_range];kernel_rfl))
theorem se_cel (s:VSignedExit):cel (sSignedExit s)=([]++(celL (sExit s.f0)++bl s.f1 96)).toArray:=by kernel_rfl
theorem se_cel2 (s:VSignedExit):cel (sSignedExit s)=(celL (sExit s.f0)++(bl s.f1 96++[])).toArray:=by kernel_rfl
theorem se_head {w:World} {g:Nat} {t:TypeId} {s:VSignedExit} (h:w.heap[g]?=some (.cells (cel (sSignedExit s)) t)):(lvExit ⟨g,0,none⟩).run Tryz.prog w=.ok (.agg (cel (sExit s.f0))) w :=
 lvEx_in (rangeX (a:=[]) h _ (se_cel s))
theorem se_sig {w:World} {g:Nat} {t:TypeId} {s:VSignedExit} (h:w.heap[g]?=some (.cells (cel (sSignedExit s)) t)):(lvSg ⟨g,2,none⟩).run Tryz.prog w=.ok (.agg (vs .u8 96 s.f1)) w:=by
 have:=rangeX (a:=celL (sExit s.f0)) (b:=[]) h _ (se_cel2 s)
 rw [celL_len,show slen (sExit s.f0)=2 from rfl] at this
 exact lvSx_in this
theorem lvSE_run {w:World} {b:Nat} {x:VSignedExit} {t:TypeId} (h:w.heap[b]?=some (.cells (cel (sSignedExit x)) t)):(lvSignedExit ⟨b,0,none⟩).run Tryz.prog w=.ok (.agg (cel (sSignedExit x))) w :=
 loadAt_var (load_row h 72 _ Tryz.underlying72 rfl (by rw [cel_size,show slen (sSignedExit x)=98 from rfl];kernel_rfl))
theorem lvVa_run {w:World} {b:Nat} {x:VValidator} {t:TypeId} (h:w.heap[b]?=some (.cells (cel (sValidator x)) t)):(lvValidator ⟨b,0,none⟩).run Tryz.prog w=.ok (.agg (cel (sValidator x))) w :=
 loadAt_var (load_row h 74 _ Tryz.underlying74 rfl (by rw [cel_size,show slen (sValidator x)=86 from rfl];kernel_rfl))
theorem Res.row {B b:Nat} {w:World} {Y X:VState} (h:Res B w Y X) (hb:b < B) (c:Array Value):Res B (w.setRow b c) Y X:=⟨h.sim,h.inw.kept (h.new.aw hb) ((Kept.refl _ _).setRow _),h.nil,h.new⟩
theorem se_who {w:World} {g:Nat} {t:TypeId} {s:VSignedExit} (h:w.heap[g]?=some (.cells (cel (sSignedExit s)) t)):w.cell? ⟨g,1,none⟩=some (.int .u64 s.f0.f1):=seg_nu h 1 s.f0.f1 rfl 1 rfl
attribute [local go_sem ↓] lvState_eq lv24_eq sv24_eq lvSg_eq lvKy_eq bsK_eq lvExit_eq ixValidator_eq lvValidator_eq
set_option maxHeartbeats 8000000 in
theorem xq_any (x : VState) (h : VSignedExit) (V : Nat) (w : World) (hx : OkState x) (hw : InW w x) (hV : V < x.f11.n) (hv : h.f0.f1 = (V : Int)) (hh : OkExit h.f0 ∧ ∀ j, j < 96 → 0 ≤ h.f1 j ∧ h.f1 j < 256) (hS : Sh w) :
    Calls Tryz.prog 31 #[.agg (cel (sState x)),.agg (cel (sSignedExit h))] w fun e' w'=>e'=.returned (.agg (vs .u8 32 (exQ x h)))∧Below w.heap.size w w':=by
 obtain ⟨W0,hW0⟩:∃ W,((w.alloc (.cells (cel (sState x)) 49)).alloc (.cells (cel (sSignedExit h)) 72)).alloc (.cells (vs .u8 32 fun _=>0) 24)=W:=⟨_,rfl⟩
 have r0:W0.heap[w.heap.size]?=some (.cells (cel (sState x)) 49):=by rw [←hW0];exact (heap_old (by simp<;>omega)).trans ((heap_old (by simp)).trans (heap_new rfl))
 have r1:W0.heap[w.heap.size+1]?=some (.cells (cel (sSignedExit h)) 72):=by rw [←hW0];exact (heap_old (by simp)).trans (heap_new (by simp))
 have r2:W0.heap[w.heap.size+2]?=some (.cells (vs .u8 32 fun _=>0) 24):=by rw [←hW0];exact heap_new (by simp)
 have hB0:Up w W0:=by rw [←hW0];exact (((Below.refl _ _).alloc (Nat.le_refl _) _).alloc (by simp) _).alloc (by simp<;>omega) _
 have p0:0≤h.f0.f0:=hh.1.1.1
 have p1:h.f0.f0 < 18446744073709551616:=hh.1.1.2
 have hs:=hh.2
 have ehq:exQ x h=qsV (x.f11.z V).f0 1 (tw (hExit h.f0) (domV x 4 h.f0.f0)) h.f1:=by unfold exQ;rw [hv];rfl
 have hdo:=fun (W:World) (h':Up W0 W)=>dom_prog x 4 h.f0.f0 W hx (by omega) (by omega) (by omega) (by omega) (hS.below (upT hB0 h'))
 have hrh:=fun (W:World) (h':Up W0 W)=>rootExit_any h.f0 W hh.1 (hS.below (upT hB0 h'))
 have hro:=fun (W:World) (h':Up W0 W)=>roo_prog (hExit h.f0) (domV x 4 h.f0.f0) W (fun j hj=>hExit_bd hh.1 j hj) (fun j _=>domB ..) (hS.below (upT hB0 h'))
 have hqu:∀ (W:World) y,Up W0 W→W.heap[y]?=some (.cells (vs .u8 48 (x.f11.z V).f0) 44)→Calls Tryz.prog 77 #[.slice (some ⟨y,0,none⟩) 1 1,.agg (vs .u8 32 (tw (hExit h.f0) (domV x 4 h.f0.f0))),.agg (vs .u8 96 h.f1)] W fun e' w'=>e'=.returned (.agg (vs .u8 32 (qsV (x.f11.z V).f0 1 (tw (hExit h.f0) (domV x 4 h.f0.f0)) h.f1)))∧Below W.heap.size W w':=fun W y h' hy=>que_prog (some ⟨y,0,none⟩) 1 1 (x.f11.z V).f0 _ h.f1 W (.inr (.inr ⟨y,0,rfl,by omega,some_ltK hy,fun j hj=>by rw [Nat.zero_add];exact row_int hy j (by omega)⟩)) (fun j hj=>(hx.o11 V hV).1 j (by omega)) (fun j _=>twB ..) hs (by omega) (hS.below (upT hB0 h'))
 rw [←ehq] at hqu
 clear ehq
 rcases hw.i11 with h' | ⟨b,off,ea,hbl,hrr⟩
 ·omega
 have hc11:∀ W,Kept (w.heap.size+2) W0 W→W.cell? ⟨w.heap.size,721,none⟩=some (.slice (some ⟨b,off,none⟩) x.f11.n x.f11.c):=fun W h=>by
  have:=cS11 ((h.block _ (some_ltK r0) (by omega)).trans r0)
  rw [ea] at this
  exact this
 have hix:=fun W=>ixValidator_u W b off x.f11.n x.f11.c V hV
 have hlk2:∀ W,Kept (w.heap.size+2) W0 W→(lvKy ⟨b,off+86*V,none⟩).run Tryz.prog W=.ok (.agg (vs .u8 48 (x.f11.z V).f0)) W:=fun W h=>lvKy_mid fun j hj=>(h.cell (Nat.lt_of_lt_of_le hbl hB0.size) (by omega)).trans ((below_cell hB0 hbl).trans (val_key (hrr V hV) j hj))
 have hr1:∀ W,Kept (w.heap.size+2) W0 W→W.heap[w.heap.size+1]?=some (.cells (cel (sSignedExit h)) 72):=fun W h=>(h.block _ (some_ltK r1) (by omega)).trans r1
 have hlh:∀ W,Up W0 W→(lvExit ⟨w.heap.size+1,0,none⟩).run Tryz.prog W=.ok (.agg (cel (sExit h.f0))) W:=fun W h'=>se_head (hr1 W (Kept.ofBelow h'))
 have hls:∀ W,Kept (w.heap.size+2) W0 W→(lvSg ⟨w.heap.size+1,2,none⟩).run Tryz.prog W=.ok (.agg (vs .u8 96 h.f1)) W:=fun W h'=>se_sig (hr1 W h')
 have hwho:∀ W,Kept (w.heap.size+2) W0 W→W.cell? ⟨w.heap.size+1,1,none⟩=some (.int .u64 (V:Int)):=fun W h'=>by
  have:=seg_nu (hr1 W h') 1 h.f0.f1 rfl 1 rfl
  rw [hv] at this
  exact this
 have csl:W0.cell? ⟨w.heap.size+1,0,none⟩=some (.int .u64 h.f0.f0):=seg_nu r1 0 h.f0.f0 rfl 0 rfl
 have lx:=lvState_run r0
 have z0:w.heap.size+2 < W0.heap.size:=some_ltK r2
 generalize exQ x h=QV at hqu ⊢
 generalize tw (hExit h.f0) (domV x 4 h.f0.f0)=RT at hro hqu
 generalize domV x 4 h.f0.f0=DM at hdo hro
 generalize hExit h.f0=HR at hrh hro
 generalize (x.f11.z V).f0=KF at hqu hlk2
 generalize x.f11.c=C11 at hc11 hix
 generalize x.f11.n=N11 at hc11 hix hV
 have HDO:=hid hdo
 have HRH0:=hid hrh
 have HRO0:=hid hro
 have HQU0:=hid hqu
 have HC110:=hid hc11
 have HIX:=hid hix
 have HLK0:=hid hlk2
 have HLH0:=hid hlh
 have HLS0:=hid hls
 have HWHO0:=hid hwho
 have HB:=hid hB0
 have HWo:=hid hW0
 have RR:=hid r2
 clear hdo hrh hro hqu hc11 hix hlk2 hlh hls hwho hB0 hW0 r0 r1 r2 hx hw hs hS hr1 hv hh ea hbl hrr
 obtain ⟨XC,eXC⟩:∃ X,cel (sState x)=X:=⟨_,rfl⟩
 obtain ⟨HC,eHC⟩:∃ X,cel (sSignedExit h)=X:=⟨_,rfl⟩
 obtain ⟨HH,eHH⟩:∃ X,cel (sExit h.f0)=X:=⟨_,rfl⟩
 obtain ⟨SG,eSG⟩:∃ X,h.f1=X:=⟨_,rfl⟩
 rw [eXC] at HDO HWo lx ⊢
 rw [eHC] at HWo ⊢
 rw [eHH] at HRH0 HLH0
 rw [eSG] at HQU0 HLS0
 obtain ⟨p,ep⟩:∃ p,h.f0.f0=p:=⟨_,rfl⟩
 rw [ep] at HDO csl p0 p1
 clear eXC eHC eHH eSG ep
 have z:=zero_root
 go_enter Tryz.func31,Tryz.ntmps31
 go_upto_region 1 with fail
 rw [HWo.out]
 clear HWo
 go_upto_region 2 with (go_at_call 74;refine (HDO.out _ (Below.refl _ _)).mono ?_;rintro e' W3 ⟨rfl,hb3⟩;have sv:=sv24_newv W3 (fun _=>0) DM)
 obtain ⟨W4,y5,hV4,ey5,r5,hd5,hy5⟩:=upN2 hb3 (.cells (vs .u8 32 DM) 24)
 rw [hV4,ey5]
 have HU4:=hid (upT hb3 hd5)
 have RD:=hid r5
 clear hb3 lx csl z HDO sv hV4 ey5 r5 hd5 hy5 p0 p1
 have HRH:=hid (fun W (h:Up W4 W)=>HRH0.out W (upT HU4.out h))
 have HRO:=hid (fun W (h:Up W4 W)=>HRO0.out W (upT HU4.out h))
 have HQU:=hid (fun W y (h:Up W4 W) hy=>HQU0.out W y (upT HU4.out h) hy)
 have HC11:=hid (fun W (h:Kept (w.heap.size+2) W4 W)=>HC110.out W ((Kept.ofBelow HU4.out).trans h))
 have HLK:=hid (fun W (h:Kept (w.heap.size+2) W4 W)=>HLK0.out W ((Kept.ofBelow HU4.out).trans h))
 have HLH:=hid (fun W (h:Up W4 W)=>HLH0.out W (upT HU4.out h))
 have HLS:=hid (fun W (h:Kept (w.heap.size+2) W4 W)=>HLS0.out W ((Kept.ofBelow HU4.out).trans h))
 have HWHO:=hid (fun W (h:Kept (w.heap.size+2) W4 W)=>HWHO0.out W ((Kept.ofBelow HU4.out).trans h))
 clear HRH0 HRO0 HQU0 HC110 HLK0 HLH0 HLS0 HWHO0
 go_cut [6] from 12 (fun u wx=>∃ y,u=.pointer (some ⟨y,0,none⟩)∧wx.heap[y]?=some (.cells (vs .u8 32 RT) 24)∧Up W4 wx∧W4.heap.size≤y)
 case first =>
  refine wp_region_noPanic ?_
  refine wp_region_held_drew (S:=fun W=>Up W4 W) (by kernel_rfl) ((Below.refl _ _).drew) (fun hHeld=>?_)
  generalize W4.drew=wd at hHeld ⊢
  refine tk 0 (v:=?v901) ?y901 hHeld ?r901
  case y901=>intro w hSw;go_simp;try with_reducible rfl
  refine tk 1 (v:=?v902) ?y902 hHeld ?r902
  case y902=>intro w hSw;have ld0:=HLH.out w hSw;go_simp;try with_reducible rfl
  refine tk 3 (v:=?v903) ?y903 hHeld ?r903
  case y903=>intro w hSw;have ld0:=lv24_run (upR hSw RD.out);go_simp;try with_reducible rfl
  try simp only [Act.put,z_1,z_2,z_3,z_4,z_5,z_6,z_7]
  refine sh1 (fuel':=?f201) (listed':=?l201) (act:=?a201) (fun (y15:Nat) V=>Up W4 V∧V.heap[y15]?=some (.cells (vs .u8 32 fun _=>0) 24)∧W4.heap.size≤y15) (fun K201=>?m201) ?t201
  case' m201=>skip
  refine sh1 (fuel':=?f200) (listed':=?l200) (act:=?a200) (fun (y15:Nat) V=>Up W4 V∧V.heap[y15]?=some (.cells (vs .u8 32 fun _=>0) 24)∧W4.heap.size≤y15) (fun K200=>?m200) ?t200
  case' m200=>skip
  refine rd2 2 5 (fun K hK=>?_) (fun K hK=>?_)
  ·go_simp
   refine (HRH.out _ (hHeld)).mono ?_
   rintro e' x301 ⟨rfl,hd301⟩
   dsimp only
   have hc301:=upT hHeld hd301
   refine hK.out _ _ hc301 (fun hHeld=>?_)
   clear hK K
   try simp only [Act.put,z_1,z_2,z_3,z_4,z_5,z_6,z_7]
   refine rd2 4 5 (fun K hK=>?_) (fun K hK=>?_)
   ·go_simp
    refine (HRO.out _ (hc301)).mono ?_
    rintro e' x302 ⟨rfl,hd302⟩
    dsimp only
    have hc302:=upT hc301 hd302
    refine hK.out _ _ hc302 (fun hHeld=>?_)
    clear hK K
    try simp only [Act.put,z_1,z_2,z_3,z_4,z_5,z_6,z_7]
    refine rd1 5 (fun K hK=>?_)
    have zr:=zero_root
    go_simp
    obtain ⟨x303,y15,hx,ey,r15,hd303,b15⟩:=upN2 hc302 (.cells (vs .u8 32 fun _=>0) 24)
    rw [hx,ey]
    have l303:=Nat.le_of_eq ey
    clear hx ey zr
    have hc303:=upT hc302 hd303
    refine hK.out _ _ hc303 (fun hHeld=>?_)
    clear hK K
    try simp only [Act.put,z_1,z_2,z_3,z_4,z_5,z_6,z_7]
    exact K201.out y15 x303 ⟨hc303,r15,b15⟩
   ·have zr:=zero_root
    go_simp
    obtain ⟨x304,y15,hx,ey,r15,hd304,b15⟩:=upN2 hc301 (.cells (vs .u8 32 fun _=>0) 24)
    rw [hx,ey]
    have l304:=Nat.le_of_eq ey
    clear hx ey zr
    have hc304:=upT hc301 hd304
    refine hK.out _ _ hc304 (fun hHeld=>?_)
    clear hK K
    try simp only [Act.put,z_1,z_2,z_3,z_4,z_5,z_6,z_7]
    exact K200.out y15 x304 ⟨hc304,r15,b15⟩
  ·have zr:=zero_root
   go_simp
   obtain ⟨x305,y15,hx,ey,r15,hd305,b15⟩:=upN2 hHeld (.cells (vs .u8 32 fun _=>0) 24)
   rw [hx,ey]
   have l305:=Nat.le_of_eq ey
   clear hx ey zr
   have hc305:=upT hHeld hd305
   refine hK.out _ _ hc305 (fun hHeld=>?_)
   clear hK K
   try simp only [Act.put,z_1,z_2,z_3,z_4,z_5,z_6,z_7]
   refine rd1 2 (fun K hK=>?_)
   go_simp
   refine (HRH.out _ (hc305)).mono ?_
   rintro e' x306 ⟨rfl,hd306⟩
   dsimp only
   have hc306:=upT hc305 hd306
   replace r15:=upR hd306 r15
   refine hK.out _ _ hc306 (fun hHeld=>?_)
   clear hK K
   try simp only [Act.put,z_1,z_2,z_3,z_4,z_5,z_6,z_7]
   exact K200.out y15 x306 ⟨hc306,r15,b15⟩
  case t200 =>
   rintro y15 V ⟨hB,r15,b15⟩
   have hHeld:=hB
   refine rd1 4 (fun K hK=>?_)
   go_simp
   refine (HRO.out _ (hB)).mono ?_
   rintro e' x307 ⟨rfl,hd307⟩
   dsimp only
   have hc307:=upT hB hd307
   replace r15:=upR hd307 r15
   refine hK.out _ _ hc307 (fun hHeld=>?_)
   clear hK K
   try simp only [Act.put,z_1,z_2,z_3,z_4,z_5,z_6,z_7]
   exact K201.out y15 x307 ⟨hc307,r15,b15⟩
  case t201 =>
   rintro y15 V ⟨hB,r15,b15⟩
   have hHeld:=hB
   refine rd1 6 (fun K hK=>?_)
   have v3:=sv24_run r15 RT
   go_simp
   have hce:Up W4 _:=below_row (hB) b15 (vs .u8 32 RT)
   refine hK.out _ _ hce (fun hHeld=>?_)
   clear hK K
   try simp only [Act.put,z_1,z_2,z_3,z_4,z_5,z_6,z_7]
   refine wpAnyH_done (by kernel_rfl) ?_ _
   refine NoPanic.normal ?_
   go_wp2
   go_meet
   exact ⟨_,rfl,setRow_at r15,hce,b15⟩
 case rest =>
  clear HRH HRO HLH
  obtain ⟨y12,rfl,rq,hcw,hyg⟩:=hcut
  have HUC:=hid hcw
  have RQ:=hid rq
  have hb0:=upT HB.out (upT HU4.out HUC.out)
  have HBW:=hid hb0
  have z1:w.heap.size+2 < W4.heap.size:=Nat.lt_of_lt_of_le z0 HU4.out.size
  clear rq hcw hb0
  go_upto_region 3 with fail
  refine wp_region_noPanic ?_
  refine wp_region_held_drew (S:=fun W=>Kept (w.heap.size+2) wc W) (by kernel_rfl) ((Kept.refl _ _).drew) (fun hHeld=>?_)
  have hUd:Up wc wc.drew:=(Below.refl _ _).drew
  generalize wc.drew=wd at hHeld hUd ⊢
  refine tk 0 (v:=?v904) ?y904 hHeld ?r904
  case y904=>intro w hSw;go_simp;try with_reducible rfl
  refine tk 1 (v:=?v905) ?y905 hHeld ?r905
  case y905=>intro w hSw;have ld0:=HC11.out w ((Kept.ofBelow HUC.out).trans hSw);go_simp;try with_reducible rfl
  refine tk 2 (v:=?v906) ?y906 hHeld ?r906
  case y906=>intro w hSw;go_simp;try with_reducible rfl
  refine tk 3 (v:=?v907) ?y907 hHeld ?r907
  case y907=>intro w hSw;go_simp;try with_reducible rfl
  refine tk 4 (v:=?v908) ?y908 hHeld ?r908
  case y908=>intro w hSw;have ld0:=HWHO.out w ((Kept.ofBelow HUC.out).trans hSw);go_simp;try with_reducible rfl
  refine tk 5 (v:=?v909) ?y909 hHeld ?r909
  case y909=>intro w hSw;have ld0:=HIX.out w;go_simp;try with_reducible rfl
  refine tk 6 (v:=?v910) ?y910 hHeld ?r910
  case y910=>intro w hSw;go_simp;try with_reducible rfl
  refine tk 7 (v:=?v911) ?y911 hHeld ?r911
  case y911=>intro w hSw;have ld0:=HLK.out w ((Kept.ofBelow HUC.out).trans hSw);go_simp;try with_reducible rfl
  refine tk 9 (v:=?v912) ?y912 hHeld ?r912
  case y912=>intro w hSw;have ld0:=lv24_run ((hSw.block y12 (some_ltK RQ.out) (by omega)).trans RQ.out);go_simp;try with_reducible rfl
  refine tk 10 (v:=?v913) ?y913 hHeld ?r913
  case y913=>intro w hSw;go_simp;try with_reducible rfl
  refine tk 11 (v:=?v914) ?y914 hHeld ?r914
  case y914=>intro w hSw;have ld0:=HLS.out w ((Kept.ofBelow HUC.out).trans hSw);go_simp;try with_reducible rfl
  try simp only [Act.put,z_1,z_2,z_3,z_4,z_5,z_6,z_7]
  refine rd1 8 (fun K hK=>?_)
  have zr:=bsK_1 wd KF
  go_simp
  obtain ⟨x1,y6,hx,ey,r6,hd1,_⟩:=upN2 hUd (.cells (vs .u8 48 KF) 44)
  rw [hx,ey]
  clear hx ey zr
  have hc1:=upT hUd hd1
  refine hK.out _ _ (Kept.ofBelow hc1) (fun hHeld=>?_)
  clear hK K
  try simp only [Act.put,z_1,z_2,z_3,z_4,z_5,z_6,z_7]
  refine rd1 12 (fun K hK=>?_)
  go_simp
  refine (HQU.out _ y6 (upT HUC.out hc1) r6).mono ?_
  rintro e' x2 ⟨rfl,hd2⟩
  dsimp only
  have hc2:=upT hc1 hd2
  refine hK.out _ _ (Kept.ofBelow hc2) (fun hHeld=>?_)
  clear hK K
  try simp only [Act.put,z_1,z_2,z_3,z_4,z_5,z_6,z_7]
  have r2:=upR (upT HU4.out (upT HUC.out hc2)) RR.out
  refine rd1 13 (fun K hK=>?_)
  have v3:=sv24_run r2 QV
  go_simp
  have hc3:Up w _:=below_row (upT HBW.out hc2) (by omega:w.heap.size≤w.heap.size+2) (vs .u8 32 QV)
  refine hK.out _ _ ((Kept.ofBelow hc2).setRow _) (fun hHeld=>?_)
  clear hK K
  try simp only [Act.put,z_1,z_2,z_3,z_4,z_5,z_6,z_7]
  refine wpAnyH_done (by kernel_rfl) ?_ _
  refine NoPanic.normal ?_
  go_wp2
  exact ret24 4 (w.heap.size+2) QV 24 rfl rfl rfl (setRow_at r2) ⟨rfl,hc3⟩
attribute [local go_sem ↓] lvSignedExit_eq svState_eq svValidator_eq bdState_eq bs22_eq
set_option maxHeartbeats 8000000 in
theorem chk_any (x : VState) (e : VExit) (w : World) (hx : OkState x) (hw : InW w x) (hR : rightB x = true) (he : OkExit e) :
    Calls Tryz.prog 30 #[.agg (cel (sState x)),.agg (cel (sExit e))] w fun e' w'=>e'=.returned (.int .i64 (exC x e))∧Below w.heap.size w w':=by
 obtain ⟨W0,hW0⟩:∃ W,(w.alloc (.cells (cel (sState x)) 49)).alloc (.cells (cel (sExit e)) 70)=W:=⟨_,rfl⟩
 have r0:W0.heap[w.heap.size]?=some (.cells (cel (sState x)) 49):=by rw [←hW0];exact (heap_old (by simp)).trans (heap_new rfl)
 have r1:W0.heap[w.heap.size+1]?=some (.cells (cel (sExit e)) 70):=by rw [←hW0];exact heap_new (by simp)
 have hB0:Up w W0:=by rw [←hW0];exact ((Below.refl _ _).alloc (Nat.le_refl _) _).alloc (by simp) _
 have e00:=he.1.1
 have e10:=he.2.1
 have e11:=he.2.2
 have x20:=hx.o2.1
 have x2b:x.f2 < 1099511627776:=(rightB_out hR).c7
 have hnb:x.f11.n≤65536:=(right_small hR).2.2.1
 have c2:=cS2 r0
 have c11:=cS11 r0
 have ce0:W0.cell? ⟨w.heap.size+1,0,none⟩=some (.int .u64 e.f0):=seg_nu r1 0 e.f0 rfl 0 rfl
 have ce1:W0.cell? ⟨w.heap.size+1,1,none⟩=some (.int .u64 e.f1):=seg_nu r1 1 e.f1 rfl 1 rfl
 obtain ⟨E,eE⟩:∃ E,x.f2 / 4=E:=⟨_,rfl⟩
 have k1:x.f2.tdiv 4=E:=by rw [←eE];exact Int.tdiv_eq_ediv_of_nonneg x20
 have hE0:0≤E:=by omega
 have hE1:E < 274877906944:=by omega
 have k2:IntKind.u64.wrap E=E:=by rw [IntKind.wrap_u64];omega
 have nw:IntKind.u64.wrap (x.f11.n:Int)=(x.f11.n:Int):=by rw [IntKind.wrap_u64];omega
 obtain ⟨p,ep⟩:∃ p,x.f2=p:=⟨_,rfl⟩
 rw [ep] at c2 k1
 have HB:=hid hB0
 have HW:=hid hW0
 have zv:=zeroValidator
 by_cases hi:e.f1 < (x.f11.n:Int)
 ·obtain ⟨k,ek⟩:∃ k:Nat,e.f1=(k:Int):=⟨e.f1.toNat,by omega⟩
  have hk:k < x.f11.n:=by omega
  have eC:exC x e=if actB (x.f11.z k) E=true then if (x.f11.z k).f6=far then if e.f0≤E then if (x.f11.z k).f5+2≤E then 0 else 31 else 29 else 36 else 27:=by
   unfold exC
   rw [if_pos hi,ek,Int.toNat_natCast,eE]
  have hov:=hx.o11 k hk
  rcases (hw.below hB0).i11 with h0 | ⟨b,off,ea,hbl,hc⟩
  ·omega
  have lv:=lvValidator_at (hc k hk)
  have ix:=fun W=>ixValidator_u W b off x.f11.n x.f11.c k hk
  rw [ea] at c11
  rw [ek] at ce1
  have hi':(k:Int) < (x.f11.n:Int):=by omega
  obtain ⟨P,eP⟩:∃ P,off+86*k=P:=⟨_,rfl⟩
  rw [eP] at lv
  simp only [eP] at ix
  obtain ⟨V,hV⟩:∃ V,x.f11.z k=V:=⟨_,rfl⟩
  rw [hV] at lv eC hov
  obtain ⟨C0,eC0⟩:∃ c,exC x e=c:=⟨_,rfl⟩
  rw [eC0] at eC ⊢
  have HEC:=hid eC
  clear eC0
  have sv:=svValidator_newv W0 oValidator V
  obtain ⟨W1,hW1⟩:∃ W,W0.alloc (.cells (cel (sValidator V)) 74)=W:=⟨_,rfl⟩
  rw [hW1] at sv
  have r2:W1.heap[W0.heap.size]?=some (.cells (cel (sValidator V)) 74):=by rw [←hW1];exact heap_new rfl
  have hU1:Up W0 W1:=by rw [←hW1];exact (Below.refl _ _).alloc (Nat.le_refl _) _
  obtain ⟨y,ey⟩:∃ y,W0.heap.size=y:=⟨_,rfl⟩
  rw [ey] at sv r2
  have HAC:=hid (active_any V E W1)
  have lvv:=lvVa_run r2
  have hls:=fun (W:World)=>lessR_any E V.f5 W hE0 (by omega) hov.2.2.2.2.2.1.1 hov.2.2.2.2.2.1.2
  have HLS:=hid hls
  have HU:=hid (upT hB0 hU1)
  have R2:=hid r2
  have ce0':=(below_cell hU1 (some_ltK r1)).trans ce0
  have HCE:=hid ce0'
  have hlt1:w.heap.size+1 < W1.heap.size:=Nat.lt_of_lt_of_le (some_ltK r1) hU1.size
  have f50:=hov.2.2.2.2.2.1.1
  clear hls hU1 hW1 hc hbl hx hw hR hB0 hW0 r0 r1 r2 eC hov ce0' eP hV ek hi he eE ep x20 x2b e10 e11
  generalize x.f11.n=n at *
  generalize x.f11.c=C at *
  go_enter Tryz.func30,Tryz.ntmps30
  go_upto_region 1 with fail
  rw [HW.out]
  clear HW
  go_upto_region 5 with fail
  clear ix lv sv c11 c2 ce1 k1 nw zv hk hi'
  cases hA:actB V E
  ·rw [hA] at HAC
   obtain rfl:C0=27:=by rw [HEC.out,hA];rfl
   go_wp2_with (go_at_call 72;refine HAC.out.mono ?_;rintro e' w1 ⟨rfl,hb1⟩)
   go_ret
   exact ⟨ret_int rfl,upT HU.out hb1⟩
  ·rw [hA] at HAC
   have hact:V.f5≤E:=by
    unfold actB at hA
    simp only [Bool.and_eq_true,decide_eq_true_eq] at hA
    exact hA.1
   have hl5:lesV E V.f5=E - V.f5:=by unfold lesV;rw [if_neg (by omega)]
   by_cases h6:V.f6=far
   ·by_cases h0:e.f0≤E
    ·have h0':¬ E < e.f0:=by omega
     by_cases h5:V.f5+2≤E
     ·obtain rfl:C0=0:=by rw [HEC.out,if_pos hA,if_pos h6,if_pos h0,if_pos h5]
      have h5':¬ E - V.f5 < 2:=by omega
      simp only [hl5] at HLS
      go_wp2_with (first
       | (go_at_call 72; refine HAC.out.mono ?_; rintro e' w1 ⟨rfl, hb1⟩; have q2 := upR hb1 R2.out; have c6 := seg_nu q2 6 V.f6 rfl 84 rfl; have c5 := seg_nu q2 5 V.f5 rfl 83 rfl; rw [h6] at c6; unfold far at c6; have c0 := (below_cell hb1 hlt1).trans HCE.out)
       | (go_at_call 73; refine (HLS.out w1).mono ?_; rintro e' w2 ⟨rfl, rfl⟩))
      go_ret
      exact ⟨ret_int rfl,upT HU.out hb1⟩
     ·obtain rfl:C0=31:=by rw [HEC.out,if_pos hA,if_pos h6,if_pos h0,if_neg h5]
      have h5':E - V.f5 < 2:=by omega
      simp only [hl5] at HLS
      go_wp2_with (first
       | (go_at_call 72; refine HAC.out.mono ?_; rintro e' w1 ⟨rfl, hb1⟩; have q2 := upR hb1 R2.out; have c6 := seg_nu q2 6 V.f6 rfl 84 rfl; have c5 := seg_nu q2 5 V.f5 rfl 83 rfl; rw [h6] at c6; unfold far at c6; have c0 := (below_cell hb1 hlt1).trans HCE.out)
       | (go_at_call 73; refine (HLS.out w1).mono ?_; rintro e' w2 ⟨rfl, rfl⟩))
      go_ret
      exact ⟨ret_int rfl,upT HU.out hb1⟩
    ·obtain rfl:C0=29:=by rw [HEC.out,if_pos hA,if_pos h6,if_neg h0]
     have h0':E < e.f0:=by omega
     go_wp2_with (go_at_call 72;refine HAC.out.mono ?_;rintro e' w1 ⟨rfl,hb1⟩;have q2:=upR hb1 R2.out;have c6:=seg_nu q2 6 V.f6 rfl 84 rfl;rw [h6] at c6;unfold far at c6;have c0:=(below_cell hb1 hlt1).trans HCE.out)
     go_ret
     exact ⟨ret_int rfl,upT HU.out hb1⟩
   ·obtain rfl:C0=36:=by rw [HEC.out,if_pos hA,if_neg h6]
    unfold far at h6
    have hf2:(V.f6 != 18446744073709551615)=true:=by simp [h6]
    go_wp2_with (go_at_call 72;refine HAC.out.mono ?_;rintro e' w1 ⟨rfl,hb1⟩;have q2:=upR hb1 R2.out;have c6:=seg_nu q2 6 V.f6 rfl 84 rfl)
    go_ret
    exact ⟨ret_int rfl,upT HU.out hb1⟩
 ·have eC:exC x e=27:=by unfold exC;rw [if_neg hi]
  rw [eC]
  clear hx hw hR hB0 hW0 r0 r1 eC he eE ep x20 x2b
  generalize x.f11.a=A at *
  generalize x.f11.n=n at *
  generalize x.f11.c=C at *
  go_enter Tryz.func30,Tryz.ntmps30
  go_upto_region 1 with fail
  rw [HW.out]
  clear HW
  go_wp2
  go_ret
  exact ⟨ret_int rfl,HB.out⟩
end Go.Proofs.YtfgmddnfhphdeaaGreatDoor
