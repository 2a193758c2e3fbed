/- A part. -/
import Derived.Test.YtfgmddnfhphdeaaGreatDoorJnR
import Derived.Test.YtfgmddnfhphdeaaGreatDoorQS
import Derived.Test.YtfgmddnfhphdeaaGreatDoorQO
import Derived.Test.YtfgmddnfhphdeaaGreatDoorQM
import Derived.Test.YtfgmddnfhphdeaaGreatDoorQN
import Derived.Test.YtfgmddnfhphdeaaGreatDoorQD
namespace Go.Proofs.YtfgmddnfhphdeaaGreatDoor
open Go.RowKit
set_option linter.unusedVariables false
set_option linter.unusedSimpArgs false
set_option maxRecDepth 20000
def ixDe (x i:Value):Sem Value:=Instr.indexAt 50 x i
theorem ixDe_eq (x i:Value):Instr.indexAt 50 x i=ixDe x i:=rfl
theorem sizeDep (w:World):(sizeOf 60).run Tryz.prog w=.ok 401 w:=by
 have hi:(Tryz.prog.info? 60).map (·.size)=some 401:=by kernel_rfl
 cases hq:Tryz.prog.info? 60 with
 | none => simp [hq] at hi
 | some i => simp [hq] at hi; simp [sizeOf, typeInfo, hq, hi]
theorem ixDe_run (w:World) (b off len cap i:Nat) (h:i < len):(ixDe (.slice (some ⟨b,off,none⟩) len cap) (.int .i64 i)).run Tryz.prog w=.ok (.pointer (some ⟨b,off+401*i,none⟩)) w:=by
 unfold ixDe Instr.indexAt
 have h1:(0:Int)≤(i:Int)∧(i:Int) < (len:Int):=by omega
 simp only [asIntOf,Sem.run_bind,Sem.run_pure,Result.andThen_ok,run_underlying Tryz.underlying50,if_pos h1,sizeDep,Addr.add_mid,Int.toNat_natCast]
 rw [Nat.mul_comm]
theorem lvDeposit_at {w:World} {g o:Nat} {x:VDeposit} (h:w.rangeAt g o (celL (sDeposit x))):(lvDeposit ⟨g,o,none⟩).run Tryz.prog w=.ok (.agg (cel (sDeposit x))) w :=
 loadAt_var (run_loadAt_mid w g o 60 _ _ h Tryz.underlying60 rfl (by rw [celL_len,show slen (sDeposit x)=401 from rfl];kernel_rfl))
theorem jdP_sim {x X:VState} (h:SimF x X) (d:VDeposit):jdP X d=jdP x d:=by unfold jdP;rw [rightF h,h.e10,h.e8]
theorem jdK_sim {x X:VState} (h:SimF x X) (d:VDeposit):jdK X d=jdK x d:=by unfold jdK;rw [jdP_sim h,tkK_sim h]
theorem jdE_sim {x X:VState} (h:SimF x X) (d:VDeposit) (f:Nat→Int) (n:Nat):jdE X d f n=jdE x d f n:=by unfold jdE;rw [jdP_sim h,tkE_sim h,rightF (tkS_sim (upS_sim h) d.f1 f n)]
theorem jdS_sim {x X:VState} (h:SimF x X) (d:VDeposit) (f:Nat→Int) (n:Nat):SimF (jdS x d f n) (jdS X d f n):=by
 unfold jdS
 rw [jdE_sim h]
 split
 ·exact tkS_sim (upS_sim h) d.f1 f n
 ·exact SimF.refl _
theorem jdS_ok {x:VState} (h:OkState x) {d:VDeposit} (hd:OkDeposit d) (f:Nat→Int) (n:Nat):OkState (jdS x d f n):=by
 unfold jdS
 split
 ·exact tk_ok (ok_up h) hd.2 f n
 ·exact ok_z15
theorem jdS_right {x:VState} {d:VDeposit} {f:Nat→Int} {n:Nat} (h:jdE x d f n=0):rightB (jdS x d f n)=true:=by
 have hS:jdS x d f n=tkS (upS x) d.f1 f n:=by unfold jdS;rw [if_pos h]
 rw [hS]
 unfold jdE at h
 by_cases h1:jdP x d=0
 ·rw [if_pos h1] at h
  by_cases h2:tkE x d.f1 f n=0
  ·rw [if_pos h2] at h
   by_cases h3:rightB (tkS (upS x) d.f1 f n)=true
   ·exact h3
   ·rw [if_neg h3] at h;omega
  ·rw [if_neg h2] at h;exact absurd h h2
 ·rw [if_neg h1] at h;exact absurd h h1
theorem apR_step {P : Program} {o : Oper} {a : Act} {w : World} {K : Act → World → Prop} {Q : Exit → Act → World → Prop} (s x : Operand)
    (ho:o.op=.call { callee:=.builtin .append,args:=#[s,x],argTypes:=#[32,32] }) (ws wx v:Value) (w':World) (hs:a.eval s=ws) (hx:a.eval x=wx)
    (hrun:(apR o.type ws wx).run P w=.ok v w') (h:K (a.put o.dst v) w'):Oper.wp P o a w K Q:=by
 unfold apR at hrun
 unfold Oper.wp execOp
 simp only [ho,resolve,invoke,builtin,Sem.run_bind,Sem.run_pure,Result.andThen_ok,List.map_toArray,List.map_cons,List.map_nil,hs,hx,hrun]
 exact h
theorem bsR0 (W:World):(bs22 0 #[]).run Tryz.prog W=.ok (.slice (some ⟨W.heap.size,0,none⟩) 0 0) (W.alloc (.cells #[] 24)):=by kernel_rfl
structure JdI (w wr:World) (X:VState):Prop where
 row:wr.heap[w.heap.size]?=some (.cells (cel (sState X)) 49)
 up:Up w wr
 ok:OkState X
 inw:InW wr X
 nil:NilW X
 ln:Lns X
 rch:Rch X
 aw:Aw w.heap.size X
theorem JdI.below {w wr W:World} {X:VState} (h:JdI w wr X) (hb:Up wr W):JdI w W X:=⟨upR hb h.row,upT h.up hb,h.ok,h.inw.below hb,h.nil,h.ln,h.rch,h.aw⟩
theorem JdI.put {w wr:World} {X Y:VState} (h:JdI w wr X) (ok:OkState Y) (inw:InW wr Y) (nil:NilW Y) (ln:Lns Y) (rch:Rch Y) (aw:Aw w.heap.size Y):JdI w (wr.setRow w.heap.size (cel (sState Y))) Y :=
 ⟨setRow_at h.row,below_row h.up (Nat.le_refl _) _,ok,inw.kept aw ((Kept.refl _ _).setRow _),nil,ln,rch,aw⟩
theorem aw_rt {b:Nat} {x:VState} (h:Aw b x) (r:Nat→Int):Aw b (rtR x r):=⟨h.q7,h.q9,h.q11,h.q12,h.q15,h.q16,h.q21⟩
attribute [local go_sem ↓] lvState_eq svState_eq lvDeposit_eq bs22_eq ixDe_eq ixBo_eq
set_option maxHeartbeats 16000000 in
theorem joinDeposits_law (x : VState) (al : Option Addr) (n capl : Nat) (z : Nat → VDeposit) (ar : Option Addr) (nr capr : Nat) (rg : Nat → Bool) (b : Option Addr) (m capb : Nat) (g : Nat → Int) (w : World) (hx : OkState x) (hw : InW w x) (hn : NilW x) (hl : Lns x) (hr : Rch x) (hz : Els w al n 401 (fun i => celL (sDeposit (z i)))) (hzo : ∀ j, j < n → OkDeposit (z j)) (hzn : n ≤ 9223372036854775807) (hrg : Z.Bls w ar nr capr rg) (hb : Rts w b m capb g) (hm : 32 * m ≤ 140737488351232) (hS : Sh w) (hC : Tab w 1 64 KW) :
    Calls Tryz.prog 3 #[.agg (cel (sState x)),.slice al n capl,.slice ar nr capr,.slice b m capb] w fun e' w'=>e'=.returned (.bool true)∧Below w.heap.size w w':=by
 obtain ⟨W0,hW0⟩:∃ W,w.alloc (.cells (cel (sState x)) 49)=W:=⟨_,rfl⟩
 have hB0:Up w W0:=by rw [←hW0];exact (Below.refl _ _).alloc (Nat.le_refl _) _
 have r0:W0.heap[w.heap.size]?=some (.cells (cel (sState x)) 49):=by rw [←hW0];exact heap_new rfl
 have haw:=awake20 W0 (hS.below hB0) (hC.below hB0)
 have hji:JdI w W0 x:=⟨r0,hB0,hx,hw.below hB0,hn,hl,hr,hw.aw (Nat.le_refl _)⟩
 have HAW:=hid haw
 have HJ0:=hid hji
 have HWo:=hid hW0
 have HZ:=hid hz
 have HZO:=hid hzo
 have HRG:=hid hrg
 have HBB:=hid hb
 have HSS:=hid hS
 have HCC:=hid hC
 clear hW0 hB0 r0 haw hji hz hzo hrg hb hS hC hx hw hn hl hr
 go_enter Tryz.func3,Tryz.ntmps3
 go_upto_region 1 with fail
 rw [HWo.out]
 clear HWo
 go_upto_region 3 with (go_at_call 4;refine HAW.out.mono ?_;rintro e' w1 ⟨rfl,hb1⟩)
 have HJ1:=hid (HJ0.out.below hb1)
 clear hb1 HAW HJ0
 go_wp2
 go_loopw [9] (fun i wr=>∃ (k:Nat) (X:VState),k≤6∧k≤n∧i=.int .i64 k∧JdI w wr X) (fun i _=>6 - (intOf i).toNat)
 case atStart=>exact ⟨0,x,by omega,by omega,rfl,HJ1.out⟩
 case round =>
  obtain ⟨k,X,k6,kn,rfl,hj⟩:=hrel
  have HJ:=hid hj
  have HUW:=hid hj.up
  clear hj HJ1
  by_cases hk:k < 6∧k < n
  ·have k1:(k:Int) < 6:=by omega
   have k2:(k:Int) < (n:Int):=by omega
   have k3:IntKind.i64.wrap ((k:Int)+1)=(k:Int)+1:=by rw [IntKind.wrap_i64];omega
   have HK3:=hid k3
   obtain ⟨B,hB⟩:∃ B:Bool,(if k < nr then rg k else false)=B:=⟨_,rfl⟩
   go_upto_region 6 with fail
   go_cut [38] from 29 (fun u wx=>u=.bool B∧wr=wx)
   case first =>
    by_cases hkr:k < nr
    ·have k4:(k:Int) < (nr:Int):=by omega
     rw [if_pos hkr] at hB
     obtain ⟨br,orr,ea,hbr,hcr⟩:=Z.bls_at HRG.out k hkr
     subst ea
     have cr:=(below_cell HUW.out hbr).trans hcr
     rw [hB] at cr
     have hix:=fun W=>ixBo_run W br orr nr capr k hkr
     clear hB
     go_wp2
     go_meet
     exact ⟨rfl,rfl⟩
    ·have k4:¬ (k:Int) < (nr:Int):=by omega
     rw [if_neg hkr] at hB
     subst hB
     go_wp2
     go_meet
     exact ⟨rfl,rfl⟩
   case rest =>
    obtain ⟨rfl,hwr⟩:=hcut
    subst hwr
    clear hB
    go_upto_if 38 with fail
    go_cut [] from 39 (fun wx=>∃ X',JdI w wx X')
    case first =>
     cases B
     ·go_wp2
      go_meet
      exact ⟨X,HJ.out⟩
     ·go_upto_region 7 with fail
      rcases HZ.out with h0 | ⟨bz,oz,ez,hbz,hcz⟩
      ·omega
      subst ez
      have HIX:=hid (fun W=>ixDe_run W bz oz n capl k hk.2)
      have HLZ:=hid (fun W (h:Up w W)=>lvDeposit_at (rangeAt_below (hcz k hk.2) hbz h))
      have HRO:=hid (fun W (h:Up wr W)=>rooted_any X (z k) W HJ.out.ok (HZO.out k hk.2) (HCC.out.below (upT HUW.out h)))
      clear hbz hcz
      refine wp_region_noPanic ?_
      refine wp_region_held_drew (S:=fun W=>Up w W) (by kernel_rfl) (HUW.out.drew) (fun hHeld=>?_)
      have hUD:Up wr wr.drew:=(Below.refl _ _).drew
      generalize wr.drew=wd at hHeld hUD ⊢
      refine tk 1 (v:=?v1201) ?y1201 hHeld ?r1201
      case y1201=>intro w hSw;go_simp;try with_reducible rfl
      refine tk 2 (v:=?v1202) ?y1202 hHeld ?r1202
      case y1202=>intro w hSw;go_simp;try with_reducible rfl
      refine tk 3 (v:=?v1203) ?y1203 hHeld ?r1203
      case y1203=>intro w hSw;have ld0:=HIX.out w;go_simp;try with_reducible rfl
      refine tk 4 (v:=?v1204) ?y1204 hHeld ?r1204
      case y1204=>intro w hSw;have ld0:=HLZ.out w hSw;go_simp;try with_reducible rfl
      try simp only [Act.put,z_1,z_2,z_3,z_4,z_5,z_6,z_7]
      refine rd1 0 (fun K hK=>?_)
      have lx:=lvState_run (upR hUD HJ.out.row)
      go_simp
      refine hK.out _ _ hHeld (fun hHeld=>?_)
      clear hK K lx
      try simp only [Act.put,z_1,z_2,z_3,z_4,z_5,z_6,z_7]
      refine rd1 5 (fun K hK=>?_)
      go_simp
      refine (HRO.out _ hUD).mono ?_
      rintro e' x5 ⟨rfl,hd5⟩
      dsimp only
      have hc5:=upT hUD hd5
      refine hK.out _ _ (upT HUW.out hc5) (fun hHeld=>?_)
      clear hK K
      try simp only [Act.put,z_1,z_2,z_3,z_4,z_5,z_6,z_7]
      have hj5:=HJ.out.below hc5
      refine rd1 6 (fun K hK=>?_)
      have sv:=svState_run hj5.row (rtS X (z k))
      go_simp
      refine hK.out _ _ (below_row hj5.up (Nat.le_refl _) _) (fun hHeld=>?_)
      clear hK K sv
      try simp only [Act.put,z_1,z_2,z_3,z_4,z_5,z_6,z_7]
      refine wpAnyH_done (by kernel_rfl) ?_ _
      refine NoPanic.normal ?_
      go_wp2
      go_meet
      exact ⟨_,hj5.put (ok_rt hj5.ok (fun j hj=>jn_bd (HZO.out k hk.2) j hj)) (inw_rt hj5.inw _) (nil_rt hj5.nil _) (lns_rt hj5.ln _) hj5.rch (aw_rt hj5.aw _)⟩
    case rest =>
     obtain ⟨X1,hj1⟩:=hcut
     have dk:=HZO.out k hk.2
     rcases HZ.out with h0 | ⟨bz,oz,ez,hbz,hcz⟩
     ·omega
     subst ez
     obtain ⟨D,eD⟩:∃ D,z k=D:=⟨_,rfl⟩
     have hrz:w.rangeAt bz (oz+401*k) (celL (sDeposit D)):=by rw [←eD];exact hcz k hk.2
     rw [eD] at dk
     have HIX:=hid (fun W=>ixDe_run W bz oz n capl k hk.2)
     have HLZ:=hid (fun W (h:Up w W)=>lvDeposit_at (rangeAt_below hrz hbz h))
     have HCP:=hid (copy_full X1 wc hj1.inw hj1.nil hj1.rch)
     have lx:=lvState_run hj1.row
     have HJ1:=hid hj1
     have HDK:=hid dk
     clear hcz hrz hbz eD dk HJ hj1 HUW
     go_upto_region 9 with (go_at_call 6;refine HCP.out.mono ?_;rintro e' w2 ⟨Y,rfl,hsim,hcd,hb2⟩;have zs:=zeroState;have sv:=svState_newv w2 oState Y;have HSM:=hid hsim;have HCD:=hid hcd;have HB2:=hid hb2;clear hsim hcd hb2)
     obtain ⟨w4,b10,hV,eb10,r10,hd2,_⟩:=upN2 HB2.out (.cells (cel (sState Y)) 49)
     rw [hV,eb10]
     have hj4:=HJ1.out.below (upT HB2.out hd2)
     have hcv:=HCD.out.below hd2
     have iy:InW w4 Y:=⟨own_rtF hcv.o7,own_els hcv.o9 (fun i=>by rw [celL_len];rfl),own_els hcv.o11 (fun i=>by rw [celL_len];rfl),own_nms hcv.o12,own_byF hcv.o15,own_byF hcv.o16,own_nms hcv.o21⟩
     have hny:=HCD.out.nil
     have eE:=jdE_sim HSM.out D g m
     have eN:=jdK_sim HSM.out D
     have hss:=jdS_sim HSM.out D g m
     have hso:=jdS_ok hj4.ok HDK.out g m
     have hsr:jdE X1 D g m=0→rightB (jdS X1 D g m)=true:=jdS_right
     have hn1:jdK X1 D≤1:=by
      unfold jdK tkK
      split
      ·split<;>omega
      ·omega
     have hra:∀ (W:World) a c,Up w4 W→Rts W a m c g→Calls Tryz.prog 7 #[.agg (cel (sState X1)),.agg (cel (sDeposit D)),.slice a m c] W fun e' w'=>∃ X a c,e'=.returned (.tuple #[.agg (cel (sState X)),.slice a (jdK X1 D) c,.int .i64 (jdE X1 D g m)])∧Res W.heap.size w' (jdS X1 D g m) X∧Rts w' a (jdK X1 D) c (dpQ D.f1)∧NwL W.heap.size a (jdK X1 D)∧Below W.heap.size W w':=fun W a c h ha=>jdep_prog X1 D a m c g W hj4.ok (hj4.inw.below h) hj4.nil hj4.ln HDK.out ha (by omega) (HSS.out.below (upT hj4.up h))
     have hrr:∀ W:World,Up w4 W→Calls Tryz.prog 8 #[.agg (cel (sState Y)),.agg (cel (sDeposit D)),.slice b m capb] W fun e' w'=>∃ X a c,e'=.returned (.tuple #[.agg (cel (sState X)),.slice a (jdK X1 D) c,.int .i64 (jdE X1 D g m)])∧Res W.heap.size w' (jdS Y D g m) X∧Rts w' a (jdK X1 D) c (dpQ D.f1)∧NwL W.heap.size a (jdK X1 D)∧Below W.heap.size W w':=fun W h=>by
      have:=rdep_any Y D b m capb g W (okF_sim HSM.out hj4.ok) (iy.below h) hny HDK.out (HBB.out.below (upT hj4.up h)) (by omega) (HCC.out.below (upT hj4.up h))
      unfold JdA at this
      rw [eE,eN] at this
      exact this
     have hap:∀ (W:World) v,Up w4 W→W.ownsRow w4.heap.size 24 32 v 0 (bl g (32*0))→∀ ty:TypeId,∃v' w',(apR ty v (.slice b m capb)).run Tryz.prog W=.ok v' w'∧w'.ownsRow w4.heap.size 24 32 v' m (bl g (32*m))∧W.grownBy w' v.ownBlock:=fun W v h ho ty=>by
      have:=apR_own W w4.heap.size v 0 g ho b m capb g (HBB.out.below (upT hj4.up h)) (by omega) h.size g (fun q _=>rfl) (fun q _=>by rw [Nat.mul_zero,Nat.zero_add]) ty
      rw [Nat.zero_add] at this
      exact this
     generalize jdS X1 D g m=PS at hra hss hso hsr
     generalize jdS Y D g m=QS at hrr hss
     generalize jdE X1 D g m=VE at hra hrr hsr
     generalize jdK X1 D=RN at hra hrr hn1
     generalize dpQ D.f1=QV at hra hrr
     have HRA:=hid hra
     have HRR:=hid hrr
     have HAP:=hid hap
     have HLX:=hid (fun W (h:Up w4 W)=>lvState_run (upR h hj4.row))
     have HLY:=hid (fun W (h:Up w4 W)=>lvState_run (upR h r10))
     have HU4:=hid hj4.up
     have HJ4:=hid hj4
     have HSSM:=hid hss
     have HSO:=hid hso
     have HSR:=hid hsr
     have HIY:=hid iy
     clear hra hrr hap hj4 hcv iy hny hss hso hsr eE eN hV eb10 r10 hd2 HCD HB2 HCP HJ1 lx sv
     go_cut [11,12,13] from 48 (fun u l e wx=>∃ P y a c,u=.pointer (some ⟨y,0,none⟩)∧l=.slice a RN c∧e=.int .i64 VE∧wx.heap[y]?=some (.cells (cel (sState P)) 49)∧Res w4.heap.size wx PS P∧Rts wx a RN c QV∧Up w4 wx)
     case first =>
      refine wp_region_noPanic ?_
      refine wp_region_held_drew (S:=fun W=>Up w4 W) (by kernel_rfl) ((Below.refl _ _).drew) (fun hHeld=>?_)
      generalize w4.drew=wd at hHeld ⊢
      refine tk 0 (v:=?v1205) ?y1205 hHeld ?r1205
      case y1205=>intro w hSw;have ld0:=HLX.out w hSw;go_simp;try with_reducible rfl
      refine tk 1 (v:=?v1206) ?y1206 hHeld ?r1206
      case y1206=>intro w hSw;go_simp;try with_reducible rfl
      refine tk 2 (v:=?v1207) ?y1207 hHeld ?r1207
      case y1207=>intro w hSw;go_simp;try with_reducible rfl
      refine tk 3 (v:=?v1208) ?y1208 hHeld ?r1208
      case y1208=>intro w hSw;have ld0:=HIX.out w;go_simp;try with_reducible rfl
      refine tk 4 (v:=?v1209) ?y1209 hHeld ?r1209
      case y1209=>intro w hSw;have ld0:=HLZ.out w (upT HU4.out hSw);go_simp;try with_reducible rfl
      refine tk 6 (v:=?v1210) ?y1210 hHeld ?r1210
      case y1210=>intro w hSw;go_simp;try with_reducible rfl
      try simp only [Act.put,z_1,z_2,z_3,z_4,z_5,z_6,z_7]
      refine rd2 5 13 (fun K hK=>?_) (fun K hK=>?_)
      ·have zr:=bsR0 wd
       go_simp
       have o2:(wd.alloc (.cells #[] 24)).ownsRow w4.heap.size 24 32 (.slice (some ⟨wd.heap.size,0,none⟩) 0 0) 0 (bl g (32*0)):=World.ownsRow_made _ #[] 0 (hHeld).size (Nat.zero_le _) rfl
       obtain ⟨x1,y2,hx,ey,_,hd1,_⟩:=upN2 hHeld (.cells #[] 24)
       rw [hx,ey] at o2
       rw [hx,ey]
       clear hx ey zr
       have hc1:=upT hHeld hd1
       refine hK.out _ _ hc1 (fun hHeld=>?_)
       clear hK K
       try simp only [Act.put,z_1,z_2,z_3,z_4,z_5,z_6,z_7]
       refine rd2 7 13 (fun K hK=>?_) (fun K hK=>?_)
       ·obtain ⟨v2,x2,hp2,hw2,hg2⟩:=HAP.out x1 _ (hc1) o2 32
        obtain ⟨av,cv,ev⟩:=owns_form hw2
        subst ev
        have ra:=own_rtF hw2
        refine apR_step _ _ rfl _ _ _ _ rfl rfl hp2 ?_
        have hc2:Up w4 x2:=below_grownS (hc1) o2 (hc1).size hg2
        refine hK.out _ _ hc2 (fun hHeld=>?_)
        clear hK K
        try simp only [Act.put,z_1,z_2,z_3,z_4,z_5,z_6,z_7]
        refine rd2 8 13 (fun K hK=>?_) (fun K hK=>?_)
        ·go_simp
         refine (HRA.out _ av cv (hc2) ra).mono ?_
         rintro e' x3 ⟨X8,a8,c8,rfl,hr8,hq8,hn8,hd3⟩
         dsimp only
         have hc3:=upT hc2 hd3
         replace hr8:=hr8.to (hc2).size hr8.sim
         replace ra:=ra.below hd3
         refine hK.out _ _ hc3 (fun hHeld=>?_)
         clear hK K
         try simp only [Act.put,z_1,z_2,z_3,z_4,z_5,z_6,z_7]
         refine tk 9 (v:=?v1211) ?y1211 hHeld ?r1211
         case y1211=>intro w hSw;go_simp;try with_reducible rfl
         refine tk 10 (v:=?v1212) ?y1212 hHeld ?r1212
         case y1212=>intro w hSw;go_simp;try with_reducible rfl
         refine tk 11 (v:=?v1213) ?y1213 hHeld ?r1213
         case y1213=>intro w hSw;go_simp;try with_reducible rfl
         refine tk 12 (v:=?v1214) ?y1214 hHeld ?r1214
         case y1214=>intro w hSw;go_simp;try with_reducible rfl
         try simp only [Act.put,z_1,z_2,z_3,z_4,z_5,z_6,z_7]
         refine rd1 13 (fun K hK=>?_)
         have zr:=zeroState
         go_simp
         obtain ⟨x4,y8,hx,ey,ry8,hd4,by8⟩:=upN2 hc3 (.cells (cel (sState oState)) 49)
         rw [hx,ey]
         have l4:=Nat.le_of_eq ey
         clear hx ey zr
         have hc4:=upT hc3 hd4
         have haX:=hr8.inw.aw l4
         have haQ:=rts_aw hq8 l4
         replace ra:=ra.below hd4
         replace hr8:=hr8.below hd4
         replace hq8:=hq8.below hd4
         refine hK.out _ _ hc4 (fun hHeld=>?_)
         clear hK K
         try simp only [Act.put,z_1,z_2,z_3,z_4,z_5,z_6,z_7]
         refine rd1 14 (fun K hK=>?_)
         have sv:=svState_run ry8 X8
         go_simp
         have hce:Up w4 _:=below_row (hc4) by8 (cel (sState X8))
         have hk8:Kept y8 x4 (x4.setRow y8 (cel (sState X8))):=(Kept.refl _ _).setRow _
         have hrz:Res w4.heap.size (x4.setRow y8 (cel (sState X8))) PS X8:=⟨hr8.sim,hr8.inw.kept haX hk8,hr8.nil,hr8.new⟩
         have hqz:=rts_kept hq8 haQ hk8
         refine hK.out _ _ hce (fun hHeld=>?_)
         clear hK K sv
         try simp only [Act.put,z_1,z_2,z_3,z_4,z_5,z_6,z_7]
         refine rd1 15 (fun K hK=>?_)
         go_simp
         refine hK.out _ _ hce (fun hHeld=>?_)
         clear hK K
         try simp only [Act.put,z_1,z_2,z_3,z_4,z_5,z_6,z_7]
         refine rd1 16 (fun K hK=>?_)
         go_simp
         refine hK.out _ _ hce (fun hHeld=>?_)
         clear hK K
         try simp only [Act.put,z_1,z_2,z_3,z_4,z_5,z_6,z_7]
         refine wpAnyH_done (by kernel_rfl) ?_ _
         refine NoPanic.normal ?_
         go_wp2
         go_meet
         exact ⟨X8,y8,a8,c8,rfl,rfl,rfl,setRow_at ry8,hrz,hqz,hce⟩
        ·have zr:=zeroState
         go_simp
         obtain ⟨x5,y8,hx,ey,ry8,hd5,by8⟩:=upN2 hc2 (.cells (cel (sState oState)) 49)
         rw [hx,ey]
         have l5:=Nat.le_of_eq ey
         clear hx ey zr
         have hc5:=upT hc2 hd5
         replace ra:=ra.below hd5
         refine hK.out _ _ hc5 (fun hHeld=>?_)
         clear hK K
         try simp only [Act.put,z_1,z_2,z_3,z_4,z_5,z_6,z_7]
         refine rd1 8 (fun K hK=>?_)
         go_simp
         refine (HRA.out _ av cv (hc5) ra).mono ?_
         rintro e' x6 ⟨X8,a8,c8,rfl,hr8,hq8,hn8,hd6⟩
         dsimp only
         have hc6:=upT hc5 hd6
         have haX:=hr8.new.aw (some_ltK ry8)
         have haQ:=hn8.aw (some_ltK ry8)
         replace hr8:=hr8.to (hc5).size hr8.sim
         replace ra:=ra.below hd6
         replace ry8:=upR hd6 ry8
         refine hK.out _ _ hc6 (fun hHeld=>?_)
         clear hK K
         try simp only [Act.put,z_1,z_2,z_3,z_4,z_5,z_6,z_7]
         refine tk 9 (v:=?v1215) ?y1215 hHeld ?r1215
         case y1215=>intro w hSw;go_simp;try with_reducible rfl
         refine tk 10 (v:=?v1216) ?y1216 hHeld ?r1216
         case y1216=>intro w hSw;go_simp;try with_reducible rfl
         refine tk 11 (v:=?v1217) ?y1217 hHeld ?r1217
         case y1217=>intro w hSw;go_simp;try with_reducible rfl
         refine tk 12 (v:=?v1218) ?y1218 hHeld ?r1218
         case y1218=>intro w hSw;go_simp;try with_reducible rfl
         try simp only [Act.put,z_1,z_2,z_3,z_4,z_5,z_6,z_7]
         refine rd1 14 (fun K hK=>?_)
         have sv:=svState_run ry8 X8
         go_simp
         have hce:Up w4 _:=below_row (hc6) by8 (cel (sState X8))
         have hk8:Kept y8 x6 (x6.setRow y8 (cel (sState X8))):=(Kept.refl _ _).setRow _
         have hrz:Res w4.heap.size (x6.setRow y8 (cel (sState X8))) PS X8:=⟨hr8.sim,hr8.inw.kept haX hk8,hr8.nil,hr8.new⟩
         have hqz:=rts_kept hq8 haQ hk8
         refine hK.out _ _ hce (fun hHeld=>?_)
         clear hK K sv
         try simp only [Act.put,z_1,z_2,z_3,z_4,z_5,z_6,z_7]
         refine rd1 15 (fun K hK=>?_)
         go_simp
         refine hK.out _ _ hce (fun hHeld=>?_)
         clear hK K
         try simp only [Act.put,z_1,z_2,z_3,z_4,z_5,z_6,z_7]
         refine rd1 16 (fun K hK=>?_)
         go_simp
         refine hK.out _ _ hce (fun hHeld=>?_)
         clear hK K
         try simp only [Act.put,z_1,z_2,z_3,z_4,z_5,z_6,z_7]
         refine wpAnyH_done (by kernel_rfl) ?_ _
         refine NoPanic.normal ?_
         go_wp2
         go_meet
         exact ⟨X8,y8,a8,c8,rfl,rfl,rfl,setRow_at ry8,hrz,hqz,hce⟩
       ·have zr:=zeroState
        go_simp
        obtain ⟨x7,y8,hx,ey,ry8,hd7,by8⟩:=upN2 hc1 (.cells (cel (sState oState)) 49)
        rw [hx,ey]
        have l7:=Nat.le_of_eq ey
        clear hx ey zr
        have hc7:=upT hc1 hd7
        replace o2:=ownsRow_below o2 hd7
        refine hK.out _ _ hc7 (fun hHeld=>?_)
        clear hK K
        try simp only [Act.put,z_1,z_2,z_3,z_4,z_5,z_6,z_7]
        refine rd1 7 (fun K hK=>?_)
        obtain ⟨v8,x8,hp8,hw8,hg8⟩:=HAP.out x7 _ (hc7) o2 32
        obtain ⟨av,cv,ev⟩:=owns_form hw8
        subst ev
        have ra:=own_rtF hw8
        refine apR_step _ _ rfl _ _ _ _ rfl rfl hp8 ?_
        have hc8:Up w4 x8:=below_grownS (hc7) o2 (hc7).size hg8
        replace ry8:=(hg8.block _ (some_ltK ry8) (fun e=>own_ne o2 ry8 (by decide) e.symm)).trans ry8
        refine hK.out _ _ hc8 (fun hHeld=>?_)
        clear hK K
        try simp only [Act.put,z_1,z_2,z_3,z_4,z_5,z_6,z_7]
        refine rd1 8 (fun K hK=>?_)
        go_simp
        refine (HRA.out _ av cv (hc8) ra).mono ?_
        rintro e' x9 ⟨X8,a8,c8,rfl,hr8,hq8,hn8,hd9⟩
        dsimp only
        have hc9:=upT hc8 hd9
        have haX:=hr8.new.aw (some_ltK ry8)
        have haQ:=hn8.aw (some_ltK ry8)
        replace hr8:=hr8.to (hc8).size hr8.sim
        replace ra:=ra.below hd9
        replace ry8:=upR hd9 ry8
        refine hK.out _ _ hc9 (fun hHeld=>?_)
        clear hK K
        try simp only [Act.put,z_1,z_2,z_3,z_4,z_5,z_6,z_7]
        refine tk 9 (v:=?v1219) ?y1219 hHeld ?r1219
        case y1219=>intro w hSw;go_simp;try with_reducible rfl
        refine tk 10 (v:=?v1220) ?y1220 hHeld ?r1220
        case y1220=>intro w hSw;go_simp;try with_reducible rfl
        refine tk 11 (v:=?v1221) ?y1221 hHeld ?r1221
        case y1221=>intro w hSw;go_simp;try with_reducible rfl
        refine tk 12 (v:=?v1222) ?y1222 hHeld ?r1222
        case y1222=>intro w hSw;go_simp;try with_reducible rfl
        try simp only [Act.put,z_1,z_2,z_3,z_4,z_5,z_6,z_7]
        refine rd1 14 (fun K hK=>?_)
        have sv:=svState_run ry8 X8
        go_simp
        have hce:Up w4 _:=below_row (hc9) by8 (cel (sState X8))
        have hk8:Kept y8 x9 (x9.setRow y8 (cel (sState X8))):=(Kept.refl _ _).setRow _
        have hrz:Res w4.heap.size (x9.setRow y8 (cel (sState X8))) PS X8:=⟨hr8.sim,hr8.inw.kept haX hk8,hr8.nil,hr8.new⟩
        have hqz:=rts_kept hq8 haQ hk8
        refine hK.out _ _ hce (fun hHeld=>?_)
        clear hK K sv
        try simp only [Act.put,z_1,z_2,z_3,z_4,z_5,z_6,z_7]
        refine rd1 15 (fun K hK=>?_)
        go_simp
        refine hK.out _ _ hce (fun hHeld=>?_)
        clear hK K
        try simp only [Act.put,z_1,z_2,z_3,z_4,z_5,z_6,z_7]
        refine rd1 16 (fun K hK=>?_)
        go_simp
        refine hK.out _ _ hce (fun hHeld=>?_)
        clear hK K
        try simp only [Act.put,z_1,z_2,z_3,z_4,z_5,z_6,z_7]
        refine wpAnyH_done (by kernel_rfl) ?_ _
        refine NoPanic.normal ?_
        go_wp2
        go_meet
        exact ⟨X8,y8,a8,c8,rfl,rfl,rfl,setRow_at ry8,hrz,hqz,hce⟩
      ·have zr:=zeroState
       go_simp
       obtain ⟨x10,y8,hx,ey,ry8,hd10,by8⟩:=upN2 hHeld (.cells (cel (sState oState)) 49)
       rw [hx,ey]
       have l10:=Nat.le_of_eq ey
       clear hx ey zr
       have hc10:=upT hHeld hd10
       refine hK.out _ _ hc10 (fun hHeld=>?_)
       clear hK K
       try simp only [Act.put,z_1,z_2,z_3,z_4,z_5,z_6,z_7]
       refine rd1 5 (fun K hK=>?_)
       have zr:=bsR0 x10
       go_simp
       have o2:(x10.alloc (.cells #[] 24)).ownsRow w4.heap.size 24 32 (.slice (some ⟨x10.heap.size,0,none⟩) 0 0) 0 (bl g (32*0)):=World.ownsRow_made _ #[] 0 (hc10).size (Nat.zero_le _) rfl
       obtain ⟨x11,y2,hx,ey,_,hd11,_⟩:=upN2 hc10 (.cells #[] 24)
       rw [hx,ey] at o2
       rw [hx,ey]
       clear hx ey zr
       have hc11:=upT hc10 hd11
       replace ry8:=upR hd11 ry8
       refine hK.out _ _ hc11 (fun hHeld=>?_)
       clear hK K
       try simp only [Act.put,z_1,z_2,z_3,z_4,z_5,z_6,z_7]
       refine rd1 7 (fun K hK=>?_)
       obtain ⟨v12,x12,hp12,hw12,hg12⟩:=HAP.out x11 _ (hc11) o2 32
       obtain ⟨av,cv,ev⟩:=owns_form hw12
       subst ev
       have ra:=own_rtF hw12
       refine apR_step _ _ rfl _ _ _ _ rfl rfl hp12 ?_
       have hc12:Up w4 x12:=below_grownS (hc11) o2 (hc11).size hg12
       replace ry8:=(hg12.block _ (some_ltK ry8) (fun e=>own_ne o2 ry8 (by decide) e.symm)).trans ry8
       refine hK.out _ _ hc12 (fun hHeld=>?_)
       clear hK K
       try simp only [Act.put,z_1,z_2,z_3,z_4,z_5,z_6,z_7]
       refine rd1 8 (fun K hK=>?_)
       go_simp
       refine (HRA.out _ av cv (hc12) ra).mono ?_
       rintro e' x13 ⟨X8,a8,c8,rfl,hr8,hq8,hn8,hd13⟩
       dsimp only
       have hc13:=upT hc12 hd13
       have haX:=hr8.new.aw (some_ltK ry8)
       have haQ:=hn8.aw (some_ltK ry8)
       replace hr8:=hr8.to (hc12).size hr8.sim
       replace ra:=ra.below hd13
       replace ry8:=upR hd13 ry8
       refine hK.out _ _ hc13 (fun hHeld=>?_)
       clear hK K
       try simp only [Act.put,z_1,z_2,z_3,z_4,z_5,z_6,z_7]
       refine tk 9 (v:=?v1223) ?y1223 hHeld ?r1223
       case y1223=>intro w hSw;go_simp;try with_reducible rfl
       refine tk 10 (v:=?v1224) ?y1224 hHeld ?r1224
       case y1224=>intro w hSw;go_simp;try with_reducible rfl
       refine tk 11 (v:=?v1225) ?y1225 hHeld ?r1225
       case y1225=>intro w hSw;go_simp;try with_reducible rfl
       refine tk 12 (v:=?v1226) ?y1226 hHeld ?r1226
       case y1226=>intro w hSw;go_simp;try with_reducible rfl
       try simp only [Act.put,z_1,z_2,z_3,z_4,z_5,z_6,z_7]
       refine rd1 14 (fun K hK=>?_)
       have sv:=svState_run ry8 X8
       go_simp
       have hce:Up w4 _:=below_row (hc13) by8 (cel (sState X8))
       have hk8:Kept y8 x13 (x13.setRow y8 (cel (sState X8))):=(Kept.refl _ _).setRow _
       have hrz:Res w4.heap.size (x13.setRow y8 (cel (sState X8))) PS X8:=⟨hr8.sim,hr8.inw.kept haX hk8,hr8.nil,hr8.new⟩
       have hqz:=rts_kept hq8 haQ hk8
       refine hK.out _ _ hce (fun hHeld=>?_)
       clear hK K sv
       try simp only [Act.put,z_1,z_2,z_3,z_4,z_5,z_6,z_7]
       refine rd1 15 (fun K hK=>?_)
       go_simp
       refine hK.out _ _ hce (fun hHeld=>?_)
       clear hK K
       try simp only [Act.put,z_1,z_2,z_3,z_4,z_5,z_6,z_7]
       refine rd1 16 (fun K hK=>?_)
       go_simp
       refine hK.out _ _ hce (fun hHeld=>?_)
       clear hK K
       try simp only [Act.put,z_1,z_2,z_3,z_4,z_5,z_6,z_7]
       refine wpAnyH_done (by kernel_rfl) ?_ _
       refine NoPanic.normal ?_
       go_wp2
       go_meet
       exact ⟨X8,y8,a8,c8,rfl,rfl,rfl,setRow_at ry8,hrz,hqz,hce⟩
     case rest =>
      obtain ⟨P,y8,a8,c8,rfl,rfl,rfl,r8,hp8,hq8,hu8⟩:=hcut
      obtain ⟨w5,ew5⟩:∃ W,wc=W:=⟨_,rfl⟩
      rw [ew5] at r8 hp8 hq8 hu8 ⊢
      clear ew5
      have HRR5:=hid (fun W (h:Up w5 W)=>HRR.out W (upT hu8 h))
      have HLY5:=hid (fun W (h:Up w5 W)=>HLY.out W (upT hu8 h))
      have HLX5:=hid (fun W (h:Up w5 W)=>HLX.out W (upT hu8 h))
      have HUW5:=hid (upT HU4.out hu8)
      have R8:=hid r8
      have HP8:=hid hp8
      have HQ8:=hid hq8
      have HU8:=hid hu8
      clear r8 hp8 hq8 hu8 HRA HRR HAP HLX HLY zs
      go_upto_region 10 with fail
      go_cut [14,15,16] from 61 (fun u l e wx=>∃ Q y a c,u=.pointer (some ⟨y,0,none⟩)∧l=.slice a RN c∧e=.int .i64 VE∧wx.heap[y]?=some (.cells (cel (sState Q)) 49)∧Res w5.heap.size wx QS Q∧Rts wx a RN c QV∧Up w5 wx)
      case first =>
       refine wp_region_noPanic ?_
       refine wp_region_held_drew (S:=fun W=>Up w5 W) (by kernel_rfl) ((Below.refl _ _).drew) (fun hHeld=>?_)
       generalize w5.drew=wd at hHeld ⊢
       refine tk 0 (v:=?v1227) ?y1227 hHeld ?r1227
       case y1227=>intro w hSw;have ld0:=HLY5.out w hSw;go_simp;try with_reducible rfl
       refine tk 1 (v:=?v1228) ?y1228 hHeld ?r1228
       case y1228=>intro w hSw;go_simp;try with_reducible rfl
       refine tk 2 (v:=?v1229) ?y1229 hHeld ?r1229
       case y1229=>intro w hSw;go_simp;try with_reducible rfl
       refine tk 3 (v:=?v1230) ?y1230 hHeld ?r1230
       case y1230=>intro w hSw;have ld0:=HIX.out w;go_simp;try with_reducible rfl
       refine tk 4 (v:=?v1231) ?y1231 hHeld ?r1231
       case y1231=>intro w hSw;have ld0:=HLZ.out w (upT HUW5.out hSw);go_simp;try with_reducible rfl
       refine tk 5 (v:=?v1232) ?y1232 hHeld ?r1232
       case y1232=>intro w hSw;go_simp;try with_reducible rfl
       try simp only [Act.put,z_1,z_2,z_3,z_4,z_5,z_6,z_7]
       refine rd2 6 11 (fun K hK=>?_) (fun K hK=>?_)
       ·go_simp
        refine (HRR5.out _ (hHeld)).mono ?_
        rintro e' x14 ⟨X9,a9,c9,rfl,hr9,hq9,hn9,hd14⟩
        dsimp only
        have hc14:=upT hHeld hd14
        replace hr9:=hr9.to (hHeld).size hr9.sim
        refine hK.out _ _ hc14 (fun hHeld=>?_)
        clear hK K
        try simp only [Act.put,z_1,z_2,z_3,z_4,z_5,z_6,z_7]
        refine tk 7 (v:=?v1233) ?y1233 hHeld ?r1233
        case y1233=>intro w hSw;go_simp;try with_reducible rfl
        refine tk 8 (v:=?v1234) ?y1234 hHeld ?r1234
        case y1234=>intro w hSw;go_simp;try with_reducible rfl
        refine tk 9 (v:=?v1235) ?y1235 hHeld ?r1235
        case y1235=>intro w hSw;go_simp;try with_reducible rfl
        refine tk 10 (v:=?v1236) ?y1236 hHeld ?r1236
        case y1236=>intro w hSw;go_simp;try with_reducible rfl
        try simp only [Act.put,z_1,z_2,z_3,z_4,z_5,z_6,z_7]
        refine rd1 11 (fun K hK=>?_)
        have zr:=zeroState
        go_simp
        obtain ⟨x15,y9,hx,ey,ry9,hd15,by9⟩:=upN2 hc14 (.cells (cel (sState oState)) 49)
        rw [hx,ey]
        have l15:=Nat.le_of_eq ey
        clear hx ey zr
        have hc15:=upT hc14 hd15
        have haX:=hr9.inw.aw l15
        have haQ:=rts_aw hq9 l15
        replace hr9:=hr9.below hd15
        replace hq9:=hq9.below hd15
        refine hK.out _ _ hc15 (fun hHeld=>?_)
        clear hK K
        try simp only [Act.put,z_1,z_2,z_3,z_4,z_5,z_6,z_7]
        refine rd1 12 (fun K hK=>?_)
        have sv:=svState_run ry9 X9
        go_simp
        have hce:Up w5 _:=below_row (hc15) by9 (cel (sState X9))
        have hk9:Kept y9 x15 (x15.setRow y9 (cel (sState X9))):=(Kept.refl _ _).setRow _
        have hrz:Res w5.heap.size (x15.setRow y9 (cel (sState X9))) QS X9:=⟨hr9.sim,hr9.inw.kept haX hk9,hr9.nil,hr9.new⟩
        have hqz:=rts_kept hq9 haQ hk9
        refine hK.out _ _ hce (fun hHeld=>?_)
        clear hK K sv
        try simp only [Act.put,z_1,z_2,z_3,z_4,z_5,z_6,z_7]
        refine rd1 13 (fun K hK=>?_)
        go_simp
        refine hK.out _ _ hce (fun hHeld=>?_)
        clear hK K
        try simp only [Act.put,z_1,z_2,z_3,z_4,z_5,z_6,z_7]
        refine rd1 14 (fun K hK=>?_)
        go_simp
        refine hK.out _ _ hce (fun hHeld=>?_)
        clear hK K
        try simp only [Act.put,z_1,z_2,z_3,z_4,z_5,z_6,z_7]
        refine wpAnyH_done (by kernel_rfl) ?_ _
        refine NoPanic.normal ?_
        go_wp2
        go_meet
        exact ⟨X9,y9,a9,c9,rfl,rfl,rfl,setRow_at ry9,hrz,hqz,hce⟩
       ·have zr:=zeroState
        go_simp
        obtain ⟨x16,y9,hx,ey,ry9,hd16,by9⟩:=upN2 hHeld (.cells (cel (sState oState)) 49)
        rw [hx,ey]
        have l16:=Nat.le_of_eq ey
        clear hx ey zr
        have hc16:=upT hHeld hd16
        refine hK.out _ _ hc16 (fun hHeld=>?_)
        clear hK K
        try simp only [Act.put,z_1,z_2,z_3,z_4,z_5,z_6,z_7]
        refine rd1 6 (fun K hK=>?_)
        go_simp
        refine (HRR5.out _ (hc16)).mono ?_
        rintro e' x17 ⟨X9,a9,c9,rfl,hr9,hq9,hn9,hd17⟩
        dsimp only
        have hc17:=upT hc16 hd17
        have haX:=hr9.new.aw (some_ltK ry9)
        have haQ:=hn9.aw (some_ltK ry9)
        replace hr9:=hr9.to (hc16).size hr9.sim
        replace ry9:=upR hd17 ry9
        refine hK.out _ _ hc17 (fun hHeld=>?_)
        clear hK K
        try simp only [Act.put,z_1,z_2,z_3,z_4,z_5,z_6,z_7]
        refine tk 7 (v:=?v1237) ?y1237 hHeld ?r1237
        case y1237=>intro w hSw;go_simp;try with_reducible rfl
        refine tk 8 (v:=?v1238) ?y1238 hHeld ?r1238
        case y1238=>intro w hSw;go_simp;try with_reducible rfl
        refine tk 9 (v:=?v1239) ?y1239 hHeld ?r1239
        case y1239=>intro w hSw;go_simp;try with_reducible rfl
        refine tk 10 (v:=?v1240) ?y1240 hHeld ?r1240
        case y1240=>intro w hSw;go_simp;try with_reducible rfl
        try simp only [Act.put,z_1,z_2,z_3,z_4,z_5,z_6,z_7]
        refine rd1 12 (fun K hK=>?_)
        have sv:=svState_run ry9 X9
        go_simp
        have hce:Up w5 _:=below_row (hc17) by9 (cel (sState X9))
        have hk9:Kept y9 x17 (x17.setRow y9 (cel (sState X9))):=(Kept.refl _ _).setRow _
        have hrz:Res w5.heap.size (x17.setRow y9 (cel (sState X9))) QS X9:=⟨hr9.sim,hr9.inw.kept haX hk9,hr9.nil,hr9.new⟩
        have hqz:=rts_kept hq9 haQ hk9
        refine hK.out _ _ hce (fun hHeld=>?_)
        clear hK K sv
        try simp only [Act.put,z_1,z_2,z_3,z_4,z_5,z_6,z_7]
        refine rd1 13 (fun K hK=>?_)
        go_simp
        refine hK.out _ _ hce (fun hHeld=>?_)
        clear hK K
        try simp only [Act.put,z_1,z_2,z_3,z_4,z_5,z_6,z_7]
        refine rd1 14 (fun K hK=>?_)
        go_simp
        refine hK.out _ _ hce (fun hHeld=>?_)
        clear hK K
        try simp only [Act.put,z_1,z_2,z_3,z_4,z_5,z_6,z_7]
        refine wpAnyH_done (by kernel_rfl) ?_ _
        refine NoPanic.normal ?_
        go_wp2
        go_meet
        exact ⟨X9,y9,a9,c9,rfl,rfl,rfl,setRow_at ry9,hrz,hqz,hce⟩
      case rest =>
       obtain ⟨Q,y9,a9,c9,rfl,rfl,rfl,r9,hr9,hq9,hu9⟩:=hcut
       obtain ⟨w7,ew7⟩:∃ W,wc=W:=⟨_,rfl⟩
       rw [ew7] at r9 hr9 hq9 hu9 ⊢
       clear ew7
       have hp7:=HP8.out.below hu9
       have lp:=lvState_run (upR hu9 R8.out)
       have lq:=lvState_run r9
       have hpq:SimF P Q:=hp7.sim.symm.trans (HSSM.out.trans hr9.sim)
       have htl:=told_any P Q a8 a9 RN c8 c9 QV VE w7 (okF_sim hp7.sim HSO.out) hp7.inw hr9.inw hpq (HQ8.out.below hu9) hq9 (by omega)
       have hj7:=HJ4.out.below (upT HU8.out hu9)
       have hsm:∀ V,Up w7 V→Calls Tryz.prog 10 #[.agg (cel (sState X1)),.agg (cel (sState Y))] V fun e w'=>e=.returned (.bool true)∧Below V.heap.size V w':=fun V h=>rsame_sim X1 Y V HJ4.out.ok (hj7.inw.below h) (HIY.out.below (upT HU8.out (upT hu9 h))) HSM.out
       have HTL:=hid htl
       have HSMM:=hid hsm
       have HJ7:=hid hj7
       have HP7:=hid hp7
       have HU9:=hid hu9
       have RP7:=hid (upR hu9 R8.out)
       have hxw:w.heap.size < w4.heap.size:=some_ltK HJ4.out.row
       have k3:=HK3.out
       clear htl hsm hj7 hp7 hpq hr9 hq9 hu9 r9 HRR5 R8 HP8 HQ8 HU8 HSSM HIY HSM HJ4
       by_cases hv:VE=0
       ·subst hv
        have hrt:rightB P=true:=(rightF HP7.out.sim).trans (HSR.out rfl)
        go_wp2_with (first
         | (go_at_call 9; refine HTL.out.mono ?_; rintro e' w8 ⟨rfl, hb8⟩; have lx8 := HLX5.out w8 (upT HU9.out hb8); have ly8 := HLY5.out w8 (upT HU9.out hb8); have HS8 := hid (HSMM.out w8 hb8); have HB8 := hid hb8; clear hb8)
         | (go_at_call 10; refine HS8.out.mono ?_; rintro e' w9 ⟨rfl, hb9⟩; have lp9 := lvState_run (upR (upT HB8.out hb9) RP7.out); have sv9 := svState_run (HJ7.out.below (upT HB8.out hb9)).row P))
        go_roundw
        case rel =>
         have h9:=upT HB8.out hb9
         have hp9:=HP7.out.below h9
         have hsm:=right_small hrt
         exact ⟨k+1,P,by omega,by omega,by go_num,(HJ7.out.below h9).put (okF_sim hp9.sim HSO.out) hp9.inw hp9.nil ⟨by omega,by omega,by omega⟩ (small_rch hrt) (hp9.new.aw hxw)⟩
        case measure=>simp [intOf];omega
       ·have hv2:(VE == 0)=false:=by simp [hv]
        go_wp2_with (first
         | (go_at_call 9; refine HTL.out.mono ?_; rintro e' w8 ⟨rfl, hb8⟩; have lx8 := HLX5.out w8 (upT HU9.out hb8); have ly8 := HLY5.out w8 (upT HU9.out hb8); have HS8 := hid (HSMM.out w8 hb8); have HB8 := hid hb8; clear hb8)
         | (go_at_call 10; refine HS8.out.mono ?_; rintro e' w9 ⟨rfl, hb9⟩))
        go_roundw
        case rel=>exact ⟨k+1,X1,by omega,by omega,by go_num,HJ7.out.below (upT HB8.out hb9)⟩
        case measure=>simp [intOf];omega
  ·by_cases h6:k < n
   ·obtain rfl:k=6:=by omega
    have k2:((6:Nat):Int) < (n:Int):=by omega
    go_wp2
    go_ret
    exact ⟨rfl,HUW.out⟩
   ·have k2:¬ (k:Int) < (n:Int):=by omega
    go_wp2
    go_ret
    exact ⟨rfl,HUW.out⟩
end Go.Proofs.YtfgmddnfhphdeaaGreatDoor
