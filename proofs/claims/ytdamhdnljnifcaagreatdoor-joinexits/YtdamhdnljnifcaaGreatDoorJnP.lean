/- A part. -/
import Derived.Test.YtdamhdnljnifcaaGreatDoorJnO
import Derived.Test.YtdamhdnljnifcaaGreatDoorQP
import Derived.Test.YtdamhdnljnifcaaGreatDoorQQ
import Derived.Test.YtdamhdnljnifcaaGreatDoorQR
import Derived.Test.YtdamhdnljnifcaaGreatDoorQM
namespace Go.Proofs.YtdamhdnljnifcaaGreatDoor
open Go.RowKit
set_option linter.unusedVariables false
set_option linter.unusedSimpArgs false
set_option maxRecDepth 20000
theorem apR_step {P : Program} {o : Oper} {a : Act} {w : World} {K : Act → World → Prop} {Q : Exit → Act → World → Prop} (s x : Operand)
    (ho:o.op=.call { callee:=.builtin .append,args:=#[s,x],argTypes:=#[32,32] }) (ws wx v:Value) (w':World) (hs:a.eval s=ws) (hx:a.eval x=wx)
    (hrun:(apR o.type ws wx).run P w=.ok v w') (h:K (a.put o.dst v) w'):Oper.wp P o a w K Q:=by
 unfold apR at hrun
 unfold Oper.wp execOp
 simp only [ho,resolve,invoke,builtin,Sem.run_bind,Sem.run_pure,Result.andThen_ok,List.map_toArray,List.map_cons,List.map_nil,hs,hx,hrun]
 exact h
theorem bsR0 (W:World):(bs22 0 #[]).run Tryz.prog W=.ok (.slice (some ⟨W.heap.size,0,none⟩) 0 0) (W.alloc (.cells #[] 24)):=by kernel_rfl
theorem exS_ok {x:VState} (h:OkState x) (hl:Lns x) (s:VSignedExit) (h0:0≤s.f0.f1) (f:Nat→Int) (n:Nat):OkState (exS x s f n):=by
 unfold exS
 split
 ·exact (lq_all s.f0.f1 h hl (SimF.refl _)).2.1
 ·exact ok_z15
theorem exK_le (x:VState) (s:VSignedExit):exK x s≤1:=by
 unfold exK
 split<;>omega
attribute [local go_sem ↓] lvState_eq svState_eq lvSignedExit_eq bs22_eq
set_option maxHeartbeats 16000000 in
theorem joinExits_law (x : VState) (s : VSignedExit) (b : Option Addr) (m capb : Nat) (g : Nat → Int) (w : World) (hx : OkState x) (hw : InW w x) (hn : NilW x) (hl : Lns x) (hr : Rch x) (hs : OkSignedExit s) (hb : Rts w b m capb g) (hm : 32 * m ≤ 140737488351232) (hS : Sh w) (hC : Tab w 1 64 KW) :
    Calls Tryz.prog 4 #[.agg (cel (sState x)),.agg (cel (sSignedExit s)),.slice b m capb] w fun e' w'=>e'=.returned (.bool true)∧Below w.heap.size w w':=by
 obtain ⟨W0,hW0⟩:∃ W,(w.alloc (.cells (cel (sState x)) 49)).alloc (.cells (cel (sSignedExit s)) 71)=W:=⟨_,rfl⟩
 have hB0:Up w W0:=by rw [←hW0];exact ((Below.refl _ _).alloc (Nat.le_refl _) _).alloc (by simp) _
 have r0:W0.heap[w.heap.size]?=some (.cells (cel (sState x)) 49):=by rw [←hW0];exact (heap_old (by simp)).trans (heap_new rfl)
 have r1:W0.heap[w.heap.size+1]?=some (.cells (cel (sSignedExit s)) 71):=by rw [←hW0];exact heap_new (by simp)
 have haw:=awake20 W0 (hS.below hB0) (hC.below hB0)
 have hcp:∀ W:World,Up W0 W→Calls Tryz.prog 7 #[.agg (cel (sState x))] W fun e w'=>∃ X:VState,e=.returned (.agg (cel (sState X)))∧SimF x X∧CpdF W.heap.size w' X∧Below W.heap.size W w':=fun W h=>copy_full x W (hw.below (upT hB0 h)) hn hr
 have hra0:∀ (W:World) a c,Up W0 W→Rts W a m c g→Calls Tryz.prog 12 #[.agg (cel (sState x)),.agg (cel (sSignedExit s)),.slice a m c] W (ExA x s g m W):=fun W a c h ha=>exit_prog x s a m c g W hx (hw.below (upT hB0 h)) hn hl hs ha (by omega) (hS.below (upT hB0 h))
 have hrr0:∀ (W:World) (Y:VState),Up W0 W→SimF x Y→InW W Y→NilW Y→Calls Tryz.prog 13 #[.agg (cel (sState Y)),.agg (cel (sSignedExit s)),.slice b m capb] W (ExA Y s g m W):=fun W Y h hsm hi hni=>rexit_any Y s b m capb g W (okF_sim hsm hx) hi hni hs (hb.below (upT hB0 h)) (by omega) (hC.below (upT hB0 h))
 have hap:∀ (B W:World) v,Up B W→Up W0 W→W.ownsRow B.heap.size 24 32 v 0 (bl g (32*0))→∀ ty:TypeId,∃v' w',(apR ty v (.slice b m capb)).run Tryz.prog W=.ok v' w'∧w'.ownsRow B.heap.size 24 32 v' m (bl g (32*m))∧W.grownBy w' v.ownBlock:=fun B W v h h0 ho ty=>by
  have:=apR_own W B.heap.size v 0 g ho b m capb g (hb.below (upT hB0 h0)) (by omega) h.size g (fun q _=>rfl) (fun q _=>by rw [Nat.mul_zero,Nat.zero_add]) ty
  rw [Nat.zero_add] at this
  exact this
 have hlx:∀ W,Up W0 W→(lvState ⟨w.heap.size,0,none⟩).run Tryz.prog W=.ok (.agg (cel (sState x))) W:=fun W h=>lvState_run (upR h r0)
 have hls:∀ W,Up W0 W→(lvSignedExit ⟨w.heap.size+1,0,none⟩).run Tryz.prog W=.ok (.agg (cel (sSignedExit s))) W:=fun W h=>lvSE_run (upR h r1)
 have HB:=hid hB0
 have HWo:=hid hW0
 have HAW:=hid haw
 have HCP:=hid hcp
 have HRA0:=hid hra0
 have HRR0:=hid hrr0
 have HAP0:=hid hap
 have HLX0:=hid hlx
 have HLS0:=hid hls
 have HX:=hid hx
 have HSO0:=hid (exS_ok hx hl s hs.1.2.1 g m)
 have HIW:=hid (fun W (h:Up W0 W)=>hw.below (upT hB0 h))
 have z:=zeroState
 clear hB0 hW0 r0 r1 haw hcp hra0 hrr0 hap hlx hls hx hw hn hl hr hs hb hS hC hm
 go_enter Tryz.func4,Tryz.ntmps4
 go_upto_region 1 with fail
 rw [HWo.out]
 clear HWo
 go_upto_region 3 with (go_at_call 5;refine HAW.out.mono ?_;rintro e' w1 ⟨rfl,hb1⟩)
 have lx:=HLX0.out w1 hb1
 have HCQ:=hid (HCP.out w1 hb1)
 have HU1:=hid hb1
 clear hb1 HAW HCP
 go_upto_region 4 with (go_at_call 7;refine HCQ.out.mono ?_;rintro e' w2 ⟨Y,rfl,hsim,hcd,hb2⟩;have sv:=svState_newv w2 oState Y;have HSM:=hid hsim;have HCD:=hid hcd;have HB2:=hid hb2;clear hsim hcd hb2)
 obtain ⟨w4,b7,hV,eb7,r7,hd2,_⟩:=upN2 HB2.out (.cells (cel (sState Y)) 49)
 rw [hV,eb7]
 have hu4:=upT HU1.out (upT HB2.out hd2)
 have hcv:=HCD.out.below hd2
 have iy:InW w4 Y:=⟨own_rtF hcv.o7,own_els hcv.o9 (fun i=>by rw [celL_len];rfl),own_els hcv.o11 (fun i=>by rw [celL_len];rfl),own_nms hcv.o12,own_byF hcv.o15,own_byF hcv.o16,own_nms hcv.o21⟩
 have eE:=exE_sim HSM.out s g m
 have eN:=exK_sim HSM.out s
 have eQ:=exQ_sim HSM.out s
 have hss:=exS_sim HSM.out s g m
 have hso:=HSO0.out
 have hn1:=exK_le x s
 have hra:∀ (W:World) a c,Up w4 W→Rts W a m c g→Calls Tryz.prog 12 #[.agg (cel (sState x)),.agg (cel (sSignedExit s)),.slice a m c] W fun e' w'=>∃ X a c,e'=.returned (.tuple #[.agg (cel (sState X)),.slice a (exK x s) c,.int .i64 (exE x s g m)])∧Res W.heap.size w' (exS x s g m) X∧Rts w' a (exK x s) c (exQ x s)∧NwL W.heap.size a (exK x s)∧Below W.heap.size W w':=fun W a c h ha=>HRA0.out W a c (upT hu4 h) ha
 have hrr:∀ W:World,Up w4 W→Calls Tryz.prog 13 #[.agg (cel (sState Y)),.agg (cel (sSignedExit s)),.slice b m capb] W fun e' w'=>∃ X a c,e'=.returned (.tuple #[.agg (cel (sState X)),.slice a (exK x s) c,.int .i64 (exE x s g m)])∧Res W.heap.size w' (exS Y s g m) X∧Rts w' a (exK x s) c (exQ x s)∧NwL W.heap.size a (exK x s)∧Below W.heap.size W w':=fun W h=>by
  have:=HRR0.out W Y (upT hu4 h) HSM.out (iy.below h) HCD.out.nil
  unfold ExA at this
  rw [eE,eN,eQ] at this
  exact this
 generalize exS x s g m=PS at hra hss hso
 generalize exS Y s g m=QS at hrr hss
 generalize exE x s g m=VE at hra hrr
 generalize exK x s=RN at hra hrr hn1
 generalize exQ x s=QV at hra hrr
 have HRA:=hid hra
 have HRR:=hid hrr
 have HAP:=hid (fun W v (h:Up w4 W) ho ty=>HAP0.out w4 W v h (upT hu4 h) ho ty)
 have HLX:=hid (fun W (h:Up w4 W)=>HLX0.out W (upT hu4 h))
 have HLS:=hid (fun W (h:Up w4 W)=>HLS0.out W (upT hu4 h))
 have HLY:=hid (fun W (h:Up w4 W)=>lvState_run (upR h r7))
 have HU4:=hid hu4
 have HSS:=hid hss
 have HSO:=hid hso
 have HIY:=hid iy
 clear hra hrr hu4 hcv iy hss hso eE eN eQ hV eb7 r7 hd2 HCD HB2 HCQ HU1 lx sv HRA0 HRR0 HAP0 HLX0 HLS0
 go_cut [8,9,10] from 14 (fun u l e wx=>∃ P y a c,u=.pointer (some ⟨y,0,none⟩)∧l=.slice a RN c∧e=.int .i64 VE∧wx.heap[y]?=some (.cells (cel (sState P)) 49)∧Res w4.heap.size wx PS P∧Rts wx a RN c QV∧Up w4 wx)
 case first =>
  refine wp_region_noPanic ?_
  refine wp_region_held_drew (S:=fun W=>Up w4 W) (by kernel_rfl) ((Below.refl _ _).drew) (fun hHeld=>?_)
  generalize w4.drew=wd at hHeld ⊢
  refine tk 0 (v:=?v1001) ?y1001 hHeld ?r1001
  case y1001=>intro w hSw;have ld0:=HLX.out w hSw;go_simp;try with_reducible rfl
  refine tk 1 (v:=?v1002) ?y1002 hHeld ?r1002
  case y1002=>intro w hSw;have ld0:=HLS.out w hSw;go_simp;try with_reducible rfl
  refine tk 3 (v:=?v1003) ?y1003 hHeld ?r1003
  case y1003=>intro w hSw;go_simp;try with_reducible rfl
  try simp only [Act.put,z_1,z_2,z_3,z_4,z_5,z_6,z_7]
  refine rd2 2 10 (fun K hK=>?_) (fun K hK=>?_)
  ·have zr:=bsR0 wd
   go_simp
   have o2:(wd.alloc (.cells #[] 24)).ownsRow w4.heap.size 24 32 (.slice (some ⟨wd.heap.size,0,none⟩) 0 0) 0 (bl g (32*0)):=World.ownsRow_made _ #[] 0 (hHeld).size (Nat.zero_le _) rfl
   obtain ⟨x1,y2,hx,ey,_,hd1,_⟩:=upN2 hHeld (.cells #[] 24)
   rw [hx,ey] at o2
   rw [hx,ey]
   clear hx ey zr
   have hc1:=upT hHeld hd1
   refine hK.out _ _ hc1 (fun hHeld=>?_)
   clear hK K
   try simp only [Act.put,z_1,z_2,z_3,z_4,z_5,z_6,z_7]
   refine rd2 4 10 (fun K hK=>?_) (fun K hK=>?_)
   ·obtain ⟨v2,x2,hp2,hw2,hg2⟩:=HAP.out x1 _ (hc1) o2 32
    obtain ⟨av,cv,ev⟩:=owns_form hw2
    subst ev
    have ra:=own_rtF hw2
    refine apR_step _ _ rfl _ _ _ _ rfl rfl hp2 ?_
    have hc2:Up w4 x2:=below_grownS (hc1) o2 (hc1).size hg2
    refine hK.out _ _ hc2 (fun hHeld=>?_)
    clear hK K
    try simp only [Act.put,z_1,z_2,z_3,z_4,z_5,z_6,z_7]
    refine rd2 5 10 (fun K hK=>?_) (fun K hK=>?_)
    ·go_simp
     refine (HRA.out _ av cv (hc2) ra).mono ?_
     rintro e' x3 ⟨X8,a8,c8,rfl,hr8,hq8,hn8,hd3⟩
     dsimp only
     have hc3:=upT hc2 hd3
     replace hr8:=hr8.to (hc2).size hr8.sim
     replace ra:=ra.below hd3
     refine hK.out _ _ hc3 (fun hHeld=>?_)
     clear hK K
     try simp only [Act.put,z_1,z_2,z_3,z_4,z_5,z_6,z_7]
     refine tk 6 (v:=?v1004) ?y1004 hHeld ?r1004
     case y1004=>intro w hSw;go_simp;try with_reducible rfl
     refine tk 7 (v:=?v1005) ?y1005 hHeld ?r1005
     case y1005=>intro w hSw;go_simp;try with_reducible rfl
     refine tk 8 (v:=?v1006) ?y1006 hHeld ?r1006
     case y1006=>intro w hSw;go_simp;try with_reducible rfl
     refine tk 9 (v:=?v1007) ?y1007 hHeld ?r1007
     case y1007=>intro w hSw;go_simp;try with_reducible rfl
     try simp only [Act.put,z_1,z_2,z_3,z_4,z_5,z_6,z_7]
     refine rd1 10 (fun K hK=>?_)
     have zr:=zeroState
     go_simp
     obtain ⟨x4,y8,hx,ey,ry8,hd4,by8⟩:=upN2 hc3 (.cells (cel (sState oState)) 49)
     rw [hx,ey]
     have l4:=Nat.le_of_eq ey
     clear hx ey zr
     have hc4:=upT hc3 hd4
     have haX:=hr8.inw.aw l4
     have haQ:=rts_aw hq8 l4
     replace ra:=ra.below hd4
     replace hr8:=hr8.below hd4
     replace hq8:=hq8.below hd4
     refine hK.out _ _ hc4 (fun hHeld=>?_)
     clear hK K
     try simp only [Act.put,z_1,z_2,z_3,z_4,z_5,z_6,z_7]
     refine rd1 11 (fun K hK=>?_)
     have sv:=svState_run ry8 X8
     go_simp
     have hce:Up w4 _:=below_row (hc4) by8 (cel (sState X8))
     have hk8:Kept y8 x4 (x4.setRow y8 (cel (sState X8))):=(Kept.refl _ _).setRow _
     have hrz:Res w4.heap.size (x4.setRow y8 (cel (sState X8))) PS X8:=⟨hr8.sim,hr8.inw.kept haX hk8,hr8.nil,hr8.new⟩
     have hqz:=rts_kept hq8 haQ hk8
     refine hK.out _ _ hce (fun hHeld=>?_)
     clear hK K sv
     try simp only [Act.put,z_1,z_2,z_3,z_4,z_5,z_6,z_7]
     refine rd1 12 (fun K hK=>?_)
     go_simp
     refine hK.out _ _ hce (fun hHeld=>?_)
     clear hK K
     try simp only [Act.put,z_1,z_2,z_3,z_4,z_5,z_6,z_7]
     refine rd1 13 (fun K hK=>?_)
     go_simp
     refine hK.out _ _ hce (fun hHeld=>?_)
     clear hK K
     try simp only [Act.put,z_1,z_2,z_3,z_4,z_5,z_6,z_7]
     refine wpAnyH_done (by kernel_rfl) ?_ _
     refine NoPanic.normal ?_
     go_wp2
     go_meet
     exact ⟨X8,y8,a8,c8,rfl,rfl,rfl,setRow_at ry8,hrz,hqz,hce⟩
    ·have zr:=zeroState
     go_simp
     obtain ⟨x5,y8,hx,ey,ry8,hd5,by8⟩:=upN2 hc2 (.cells (cel (sState oState)) 49)
     rw [hx,ey]
     have l5:=Nat.le_of_eq ey
     clear hx ey zr
     have hc5:=upT hc2 hd5
     replace ra:=ra.below hd5
     refine hK.out _ _ hc5 (fun hHeld=>?_)
     clear hK K
     try simp only [Act.put,z_1,z_2,z_3,z_4,z_5,z_6,z_7]
     refine rd1 5 (fun K hK=>?_)
     go_simp
     refine (HRA.out _ av cv (hc5) ra).mono ?_
     rintro e' x6 ⟨X8,a8,c8,rfl,hr8,hq8,hn8,hd6⟩
     dsimp only
     have hc6:=upT hc5 hd6
     have haX:=hr8.new.aw (some_ltK ry8)
     have haQ:=hn8.aw (some_ltK ry8)
     replace hr8:=hr8.to (hc5).size hr8.sim
     replace ra:=ra.below hd6
     replace ry8:=upR hd6 ry8
     refine hK.out _ _ hc6 (fun hHeld=>?_)
     clear hK K
     try simp only [Act.put,z_1,z_2,z_3,z_4,z_5,z_6,z_7]
     refine tk 6 (v:=?v1008) ?y1008 hHeld ?r1008
     case y1008=>intro w hSw;go_simp;try with_reducible rfl
     refine tk 7 (v:=?v1009) ?y1009 hHeld ?r1009
     case y1009=>intro w hSw;go_simp;try with_reducible rfl
     refine tk 8 (v:=?v1010) ?y1010 hHeld ?r1010
     case y1010=>intro w hSw;go_simp;try with_reducible rfl
     refine tk 9 (v:=?v1011) ?y1011 hHeld ?r1011
     case y1011=>intro w hSw;go_simp;try with_reducible rfl
     try simp only [Act.put,z_1,z_2,z_3,z_4,z_5,z_6,z_7]
     refine rd1 11 (fun K hK=>?_)
     have sv:=svState_run ry8 X8
     go_simp
     have hce:Up w4 _:=below_row (hc6) by8 (cel (sState X8))
     have hk8:Kept y8 x6 (x6.setRow y8 (cel (sState X8))):=(Kept.refl _ _).setRow _
     have hrz:Res w4.heap.size (x6.setRow y8 (cel (sState X8))) PS X8:=⟨hr8.sim,hr8.inw.kept haX hk8,hr8.nil,hr8.new⟩
     have hqz:=rts_kept hq8 haQ hk8
     refine hK.out _ _ hce (fun hHeld=>?_)
     clear hK K sv
     try simp only [Act.put,z_1,z_2,z_3,z_4,z_5,z_6,z_7]
     refine rd1 12 (fun K hK=>?_)
     go_simp
     refine hK.out _ _ hce (fun hHeld=>?_)
     clear hK K
     try simp only [Act.put,z_1,z_2,z_3,z_4,z_5,z_6,z_7]
     refine rd1 13 (fun K hK=>?_)
     go_simp
     refine hK.out _ _ hce (fun hHeld=>?_)
     clear hK K
     try simp only [Act.put,z_1,z_2,z_3,z_4,z_5,z_6,z_7]
     refine wpAnyH_done (by kernel_rfl) ?_ _
     refine NoPanic.normal ?_
     go_wp2
     go_meet
     exact ⟨X8,y8,a8,c8,rfl,rfl,rfl,setRow_at ry8,hrz,hqz,hce⟩
   ·have zr:=zeroState
    go_simp
    obtain ⟨x7,y8,hx,ey,ry8,hd7,by8⟩:=upN2 hc1 (.cells (cel (sState oState)) 49)
    rw [hx,ey]
    have l7:=Nat.le_of_eq ey
    clear hx ey zr
    have hc7:=upT hc1 hd7
    replace o2:=ownsRow_below o2 hd7
    refine hK.out _ _ hc7 (fun hHeld=>?_)
    clear hK K
    try simp only [Act.put,z_1,z_2,z_3,z_4,z_5,z_6,z_7]
    refine rd1 4 (fun K hK=>?_)
    obtain ⟨v8,x8,hp8,hw8,hg8⟩:=HAP.out x7 _ (hc7) o2 32
    obtain ⟨av,cv,ev⟩:=owns_form hw8
    subst ev
    have ra:=own_rtF hw8
    refine apR_step _ _ rfl _ _ _ _ rfl rfl hp8 ?_
    have hc8:Up w4 x8:=below_grownS (hc7) o2 (hc7).size hg8
    replace ry8:=(hg8.block _ (some_ltK ry8) (fun e=>own_ne o2 ry8 (by decide) e.symm)).trans ry8
    refine hK.out _ _ hc8 (fun hHeld=>?_)
    clear hK K
    try simp only [Act.put,z_1,z_2,z_3,z_4,z_5,z_6,z_7]
    refine rd1 5 (fun K hK=>?_)
    go_simp
    refine (HRA.out _ av cv (hc8) ra).mono ?_
    rintro e' x9 ⟨X8,a8,c8,rfl,hr8,hq8,hn8,hd9⟩
    dsimp only
    have hc9:=upT hc8 hd9
    have haX:=hr8.new.aw (some_ltK ry8)
    have haQ:=hn8.aw (some_ltK ry8)
    replace hr8:=hr8.to (hc8).size hr8.sim
    replace ra:=ra.below hd9
    replace ry8:=upR hd9 ry8
    refine hK.out _ _ hc9 (fun hHeld=>?_)
    clear hK K
    try simp only [Act.put,z_1,z_2,z_3,z_4,z_5,z_6,z_7]
    refine tk 6 (v:=?v1012) ?y1012 hHeld ?r1012
    case y1012=>intro w hSw;go_simp;try with_reducible rfl
    refine tk 7 (v:=?v1013) ?y1013 hHeld ?r1013
    case y1013=>intro w hSw;go_simp;try with_reducible rfl
    refine tk 8 (v:=?v1014) ?y1014 hHeld ?r1014
    case y1014=>intro w hSw;go_simp;try with_reducible rfl
    refine tk 9 (v:=?v1015) ?y1015 hHeld ?r1015
    case y1015=>intro w hSw;go_simp;try with_reducible rfl
    try simp only [Act.put,z_1,z_2,z_3,z_4,z_5,z_6,z_7]
    refine rd1 11 (fun K hK=>?_)
    have sv:=svState_run ry8 X8
    go_simp
    have hce:Up w4 _:=below_row (hc9) by8 (cel (sState X8))
    have hk8:Kept y8 x9 (x9.setRow y8 (cel (sState X8))):=(Kept.refl _ _).setRow _
    have hrz:Res w4.heap.size (x9.setRow y8 (cel (sState X8))) PS X8:=⟨hr8.sim,hr8.inw.kept haX hk8,hr8.nil,hr8.new⟩
    have hqz:=rts_kept hq8 haQ hk8
    refine hK.out _ _ hce (fun hHeld=>?_)
    clear hK K sv
    try simp only [Act.put,z_1,z_2,z_3,z_4,z_5,z_6,z_7]
    refine rd1 12 (fun K hK=>?_)
    go_simp
    refine hK.out _ _ hce (fun hHeld=>?_)
    clear hK K
    try simp only [Act.put,z_1,z_2,z_3,z_4,z_5,z_6,z_7]
    refine rd1 13 (fun K hK=>?_)
    go_simp
    refine hK.out _ _ hce (fun hHeld=>?_)
    clear hK K
    try simp only [Act.put,z_1,z_2,z_3,z_4,z_5,z_6,z_7]
    refine wpAnyH_done (by kernel_rfl) ?_ _
    refine NoPanic.normal ?_
    go_wp2
    go_meet
    exact ⟨X8,y8,a8,c8,rfl,rfl,rfl,setRow_at ry8,hrz,hqz,hce⟩
  ·have zr:=zeroState
   go_simp
   obtain ⟨x10,y8,hx,ey,ry8,hd10,by8⟩:=upN2 hHeld (.cells (cel (sState oState)) 49)
   rw [hx,ey]
   have l10:=Nat.le_of_eq ey
   clear hx ey zr
   have hc10:=upT hHeld hd10
   refine hK.out _ _ hc10 (fun hHeld=>?_)
   clear hK K
   try simp only [Act.put,z_1,z_2,z_3,z_4,z_5,z_6,z_7]
   refine rd1 2 (fun K hK=>?_)
   have zr:=bsR0 x10
   go_simp
   have o2:(x10.alloc (.cells #[] 24)).ownsRow w4.heap.size 24 32 (.slice (some ⟨x10.heap.size,0,none⟩) 0 0) 0 (bl g (32*0)):=World.ownsRow_made _ #[] 0 (hc10).size (Nat.zero_le _) rfl
   obtain ⟨x11,y2,hx,ey,_,hd11,_⟩:=upN2 hc10 (.cells #[] 24)
   rw [hx,ey] at o2
   rw [hx,ey]
   clear hx ey zr
   have hc11:=upT hc10 hd11
   replace ry8:=upR hd11 ry8
   refine hK.out _ _ hc11 (fun hHeld=>?_)
   clear hK K
   try simp only [Act.put,z_1,z_2,z_3,z_4,z_5,z_6,z_7]
   refine rd1 4 (fun K hK=>?_)
   obtain ⟨v12,x12,hp12,hw12,hg12⟩:=HAP.out x11 _ (hc11) o2 32
   obtain ⟨av,cv,ev⟩:=owns_form hw12
   subst ev
   have ra:=own_rtF hw12
   refine apR_step _ _ rfl _ _ _ _ rfl rfl hp12 ?_
   have hc12:Up w4 x12:=below_grownS (hc11) o2 (hc11).size hg12
   replace ry8:=(hg12.block _ (some_ltK ry8) (fun e=>own_ne o2 ry8 (by decide) e.symm)).trans ry8
   refine hK.out _ _ hc12 (fun hHeld=>?_)
   clear hK K
   try simp only [Act.put,z_1,z_2,z_3,z_4,z_5,z_6,z_7]
   refine rd1 5 (fun K hK=>?_)
   go_simp
   refine (HRA.out _ av cv (hc12) ra).mono ?_
   rintro e' x13 ⟨X8,a8,c8,rfl,hr8,hq8,hn8,hd13⟩
   dsimp only
   have hc13:=upT hc12 hd13
   have haX:=hr8.new.aw (some_ltK ry8)
   have haQ:=hn8.aw (some_ltK ry8)
   replace hr8:=hr8.to (hc12).size hr8.sim
   replace ra:=ra.below hd13
   replace ry8:=upR hd13 ry8
   refine hK.out _ _ hc13 (fun hHeld=>?_)
   clear hK K
   try simp only [Act.put,z_1,z_2,z_3,z_4,z_5,z_6,z_7]
   refine tk 6 (v:=?v1016) ?y1016 hHeld ?r1016
   case y1016=>intro w hSw;go_simp;try with_reducible rfl
   refine tk 7 (v:=?v1017) ?y1017 hHeld ?r1017
   case y1017=>intro w hSw;go_simp;try with_reducible rfl
   refine tk 8 (v:=?v1018) ?y1018 hHeld ?r1018
   case y1018=>intro w hSw;go_simp;try with_reducible rfl
   refine tk 9 (v:=?v1019) ?y1019 hHeld ?r1019
   case y1019=>intro w hSw;go_simp;try with_reducible rfl
   try simp only [Act.put,z_1,z_2,z_3,z_4,z_5,z_6,z_7]
   refine rd1 11 (fun K hK=>?_)
   have sv:=svState_run ry8 X8
   go_simp
   have hce:Up w4 _:=below_row (hc13) by8 (cel (sState X8))
   have hk8:Kept y8 x13 (x13.setRow y8 (cel (sState X8))):=(Kept.refl _ _).setRow _
   have hrz:Res w4.heap.size (x13.setRow y8 (cel (sState X8))) PS X8:=⟨hr8.sim,hr8.inw.kept haX hk8,hr8.nil,hr8.new⟩
   have hqz:=rts_kept hq8 haQ hk8
   refine hK.out _ _ hce (fun hHeld=>?_)
   clear hK K sv
   try simp only [Act.put,z_1,z_2,z_3,z_4,z_5,z_6,z_7]
   refine rd1 12 (fun K hK=>?_)
   go_simp
   refine hK.out _ _ hce (fun hHeld=>?_)
   clear hK K
   try simp only [Act.put,z_1,z_2,z_3,z_4,z_5,z_6,z_7]
   refine rd1 13 (fun K hK=>?_)
   go_simp
   refine hK.out _ _ hce (fun hHeld=>?_)
   clear hK K
   try simp only [Act.put,z_1,z_2,z_3,z_4,z_5,z_6,z_7]
   refine wpAnyH_done (by kernel_rfl) ?_ _
   refine NoPanic.normal ?_
   go_wp2
   go_meet
   exact ⟨X8,y8,a8,c8,rfl,rfl,rfl,setRow_at ry8,hrz,hqz,hce⟩
 case rest =>
  obtain ⟨P,y8,a8,c8,rfl,rfl,rfl,r8,hp8,hq8,hu8⟩:=hcut
  obtain ⟨w5,ew5⟩:∃ W,wc=W:=⟨_,rfl⟩
  rw [ew5] at r8 hp8 hq8 hu8 ⊢
  clear ew5
  have ly:=HLY.out w5 hu8
  have ls:=HLS.out w5 hu8
  have HR5:=hid (HRR.out w5 hu8)
  have R8:=hid r8
  have HP8:=hid hp8
  have HQ8:=hid hq8
  have HU8:=hid hu8
  clear r8 hp8 hq8 hu8 HRA HRR HAP
  go_upto_region 6 with (go_at_call 13;refine HR5.out.mono ?_;rintro e' w6 ⟨Q,a9,c9,rfl,hr9,hq9,hn9,hb6⟩;have sv:=svState_newv w6 oState Q)
  obtain ⟨w7,y9,hW7,ey9,r9,hd7,_⟩:=upN2 hb6 (.cells (cel (sState Q)) 49)
  rw [hW7,ey9]
  have hu57:=upT hb6 hd7
  have hu7:=upT HU8.out hu57
  have hp7:=HP8.out.below hu57
  have hq7:=hr9.below hd7
  have lp:=lvState_run (upR hu57 R8.out)
  have lq:=lvState_run r9
  have hpq:SimF P Q:=hp7.sim.symm.trans (HSS.out.trans hq7.sim)
  have htl:=told_any P Q a8 a9 RN c8 c9 QV VE w7 (okF_sim hp7.sim HSO.out) hp7.inw hq7.inw hpq (HQ8.out.below hu57) (hq9.below hd7) (by omega)
  have hsm:∀ V,Up w7 V→Calls Tryz.prog 11 #[.agg (cel (sState x)),.agg (cel (sState Y))] V fun e w'=>e=.returned (.bool true)∧Below V.heap.size V w':=fun V h=>rsame_sim x Y V HX.out (HIW.out V (upT HU4.out (upT hu7 h))) (HIY.out.below (upT hu7 h)) HSM.out
  have HTL:=hid htl
  have HSMM:=hid hsm
  have HU7:=hid hu7
  clear htl hsm hu7 hu57 hp7 hq7 hpq hr9 hq9 hn9 hW7 ey9 r9 hd7 hb6 ly ls HR5 R8 HP8 HQ8 sv z
  go_wp2_with (first
   | (go_at_call 10; refine HTL.out.mono ?_; rintro e' w8 ⟨rfl, hb8⟩; have lx8 := HLX.out w8 (upT HU7.out hb8); have ly8 := HLY.out w8 (upT HU7.out hb8); have HS8 := hid (HSMM.out w8 hb8); have HB8 := hid hb8; clear hb8)
   | (go_at_call 11; refine HS8.out.mono ?_; rintro e' w9 ⟨rfl, hb9⟩))
  go_ret
  exact ⟨rfl,upT HB.out (upT HU4.out (upT HU7.out (upT HB8.out hb9)))⟩
end Go.Proofs.YtdamhdnljnifcaaGreatDoor
